/- sha.Hex. -/
import Derived.Test.YtmgbiefobkpafaaDoorShHexN
import Derived.Test.YtmgbiefobkpafaaDoorStepApp
namespace Go.Proofs.YtmgbiefobkpafaaDoor
open Go.RowKit
theorem hexs_index (n : Nat) (hn : n < 16) (w : World) : (Instr.index 9 (.string hexs) (.int .u8 (n : Int))).run Tryd.prog w = .ok (vb (digit n)) w := by
  rw [run_index_string w 9 _ .u8 _ Tryd.underlying9]
  have h : n < hexs.size := hn
  rw [dif_pos ⟨by omega, by omega⟩]
  have : ∀ m : Fin 16, hexs[m.val]'m.isLt = digit m.val := by decide +kernel
  have e := this ⟨n, hn⟩
  simp only [Int.toNat_natCast]
  rw [show hexs[n]'h = digit n from e]
  rfl
theorem and15 (x : UInt8) : bits .and .u8 (bn x) 15 = ((x.toNat % 16 : Nat) : Int) := by
  have h : ∀ n : Fin 256, bits .and .u8 (bn (UInt8.ofNat n.val)) 15 = (((UInt8.ofNat n.val).toNat % 16 : Nat) : Int) := by decide +kernel
  have := h ⟨x.toNat, x.toNat_lt⟩
  simpa using this
theorem shr4 (x : UInt8) : bn x / 16 = ((x.toNat / 16 : Nat) : Int) := by unfold bn; omega
set_option maxRecDepth 100000 in
set_option maxHeartbeats 1000000 in
theorem shaHex_any (B : Nat) (v : Value) (l : List UInt8) (w : World) (hv : Sl w B v l) (hB : B ≤ w.heap.size) (hl : l.length ≤ 100000) :
    Calls Tryd.prog 10 #[v] w fun e w' => e = .returned (str (hexL l)) ∧ Below w.heap.size w w' := by
  have hmk : (Instr.makeSlice 22 (.int .i64 0) (.int .i64 (2 * (l.length : Int)))).run Tryd.prog w = .ok (.slice (some ⟨w.heap.size, 0, none⟩) 0 (2 * l.length)) (w.alloc (.cells (noughts (2 * l.length)) 5)) := by
    have := make_bytes 0 (2 * l.length) (by omega) (by omega) w
    rwa [show ((2 * l.length : Nat) : Int) = 2 * (l.length : Int) from by omega] at this
  obtain ⟨A, c, rfl, _, h1, h2, h3⟩ := hv
  have H3 := Lib.hid h3; clear h3
  go_enter Tryd.func10, Tryd.ntmps10
  go_wp2_with fail
  clear hmk
  go_loopw [3, 12] (fun u i wr => ∃ k : Nat, k ≤ l.length ∧ i = .int .i64 k ∧ OwnB wr w.heap.size u (hexL (l.take k)) ∧ Below w.heap.size w wr) (fun _ i _ => l.length - (intOf i).toNat)
  case atStart =>
    refine ⟨0, by omega, rfl, ?_, (Below.refl _ _).alloc (Nat.le_refl _) _⟩
    rw [List.take_zero, hexL_nil]
    exact OwnB.of_heap (Nat.le_refl _) (heap_alloc_new w _) (noughts_size _) (by unfold maxLen; omega) rfl (by simp) (by omega)
  case round =>
    obtain ⟨k, hk, rfl, hO, hBl⟩ := hrel
    have HO := Lib.hid hO; clear hO
    have HBl := Lib.hid hBl; clear hBl
    by_cases hlt : k < l.length
    · obtain ⟨b, o, rfl, hb, hbs⟩ := H3.out (by omega)
      obtain ⟨x, hx⟩ : ∃ x, x = l.getD k 0 := ⟨_, rfl⟩
      have hc : wr.cell? ⟨b, o + k, none⟩ = some (vb x) := by rw [hx]; exact (hbs.below HBl.out (by omega)).getD hlt
      have HN : Hid (hexL (l.take (k + 1)) = hexL (l.take k) ++ [digit (x.toNat / 16), digit (x.toNat % 16)]) := Lib.hid (by
        rw [List.take_succ_eq_append_getElem hlt, hexL_snoc, hx, List.getD_eq_getElem?_getD, List.getElem?_eq_getElem hlt]; rfl)
      clear hx hbs
      obtain ⟨n1, hn1⟩ : ∃ n1, n1 = x.toNat / 16 := ⟨_, rfl⟩
      obtain ⟨n2, hn2⟩ : ∃ n2, n2 = x.toNat % 16 := ⟨_, rfl⟩
      have i1 := fun W => hexs_index n1 (by have := x.toNat_lt; omega) W
      have i2 := fun W => hexs_index n2 (by omega) W
      have a1 := and15 x
      have a2 := shr4 x
      rw [← hn1, ← hn2] at HN
      rw [← hn2] at a1
      rw [← hn1] at a2
      clear hn1 hn2
      have hlen : (hexL (l.take k)).length ≤ 200000 := by rw [hexL_length, List.length_take]; omega
      unfold hexs at i1 i2
      go_wp2_with fail
      go_region_law (((refine step_app rfl (.tmp 16) (.tmp 23) rfl w.heap.size u3 (hexL (l.take k)) [digit n1, digit n2] rfl (by exact HO.out.below (((Below.refl wr.heap.size wr).drew).alloc (Nat.le_refl _) _)) wr.heap.size 0 2 2 rfl rfl (by exact Bs.of_blk (Blk.newA _ _ _) 0 (fun j hj => by match j, hj with | 0, _ => rfl | 1, _ => rfl)) (by omega) (by have := HBl.out.size; simp; omega) ?_; intro v' w1 hv hg; have Hv := Lib.hid hv; clear hv; have Hg := Lib.hid (OwnB.belowBase (w := wr.drew.alloc _) (HO.out.below (((Below.refl wr.heap.size wr).drew).alloc (Nat.le_refl _) _)) hg (by have := HBl.out.size; simp; omega)); clear hg)))
      all_goals
        go_wp2_with fail
        go_roundw
        case rel => exact ⟨k + 1, by omega, by go_num, by rw [HN.out]; exact Hv.out, (HBl.out.drew.alloc HBl.out.size _).trans Hg.out⟩
        case measure => simp [intOf]; omega
    · obtain rfl : k = l.length := by omega
      rw [List.take_length] at HO
      have hcv := conv_sl HO.out.sl
      go_wp2_with fail
      go_ret
      exact ⟨rfl, HBl.out⟩
end Go.Proofs.YtmgbiefobkpafaaDoor
