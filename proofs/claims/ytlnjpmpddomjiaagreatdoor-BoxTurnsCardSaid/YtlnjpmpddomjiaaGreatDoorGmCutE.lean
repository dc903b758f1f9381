/- An empty row of the call's own. A new row of bytes. One byte of a row of the call's own. The reference's Cut, Copy, Same. The reference's Bytes: a number's bytes, the highest first. The reference's Cut. The reference's Flip: it turns bytes of a slice of the call's own in place; nothing else. -/
import Derived.Test.YtlnjpmpddomjiaaGreatDoorGmMgA
import Derived.Deep.DeepFit
namespace Go.Proofs.YtlnjpmpddomjiaaGreatDoor
open Go.RowKit

theorem OwnB.empty (w : World) : OwnB (w.alloc (.cells #[] 5)) w.heap.size (.slice (some ⟨w.heap.size, 0, none⟩) 0 0) [] :=
  OwnB.of_heap (cur := #[]) (Nat.le_refl _) (heap_alloc_new w _) rfl (by unfold maxLen; omega) rfl (by simp) (by omega)
set_option maxRecDepth 100000 in
theorem slice_h (A : Option Addr) (n c k : Nat) (hk : k ≤ c) (w : World) : (Instr.slice 34 (.slice A n c) none (some (.int .i64 (k : Int))) none).run Tryz.prog w = .ok (.slice A k c) w := by
  rw [run_slice_h w 34 A n c Tryz.underlying34 .i64 k (by omega) (by omega)]
  by_cases h0 : c = 0 <;> simp [sliced, go_sem, h0]
end Go.Proofs.YtlnjpmpddomjiaaGreatDoor
set_option maxRecDepth 100000
namespace Go.Proofs.YtlnjpmpddomjiaaGreatDoor
open Go.RowKit
/-- A new row of bytes. -/
theorem Sl.newA (W : World) (cs : Array Value) (t : TypeId) (l : List UInt8) {b n B : Nat} (h : cs.toList = l.map vb) (hb : b = W.heap.size) (hn : n = l.length) (hB : W.heap.size < B) (hl : l.length ≤ 1000000) :
    Sl (W.alloc (.cells cs t)) B (.slice (some ⟨b, 0, none⟩) n n) l := by
  subst hb; subst hn
  refine ⟨_, _, rfl, (fun h => by cases h), Nat.le_refl _, by omega, fun _ => ⟨_, 0, rfl, hB, ?_⟩⟩
  refine Bs.of_blk (Blk.newA W cs t) 0 fun j hj => ?_
  rw [h, List.getElem?_map, Nat.zero_add, List.getElem?_eq_getElem hj]; rfl
end Go.Proofs.YtlnjpmpddomjiaaGreatDoor
namespace Go.Proofs.YtlnjpmpddomjiaaGreatDoor
open Go.RowKit
theorem OwnB.setAt {w : World} {base g cap n : Nat} {l : List UInt8} (h : OwnB w base (.slice (some ⟨g, 0, none⟩) n cap) l) (k : Nat) (y : UInt8) :
    OwnB (w.setCell ⟨g, k, none⟩ (vb y)) base (.slice (some ⟨g, 0, none⟩) n cap) (l.set k y) := by
  unfold OwnB at h ⊢
  have hn : n = l.length := by
    rcases h.2 with ⟨h', _⟩ | ⟨g', cap', cur, h', _⟩
    · simp at h'
    · injection h' with _ h2
  have h2 := hn ▸ h
  have s1 := (h2.stored k (vb y)).1
  rw [hn, List.length_set, List.map_set]
  exact s1
theorem OwnB.getAt {w : World} {base g cap n : Nat} {l : List UInt8} (h : OwnB w base (.slice (some ⟨g, 0, none⟩) n cap) l) (k : Nat) (x : UInt8) (hx : l[k]? = some x) : w.cell? ⟨g, k, none⟩ = some (vb x) ∧ w.frozen? ⟨g, k, none⟩ = false := by
  rcases h.parts with ⟨h', _⟩ | ⟨g', cap', h', _, _, _, _, hb, hf⟩
  · simp at h'
  · injection h' with h1 _ _
    injection h1 with h1
    injection h1 with h1 _ _
    subst h1
    obtain ⟨hk, rfl⟩ := List.getElem?_eq_some_iff.1 hx
    have := hb k hk
    rw [Nat.zero_add] at this
    exact ⟨this, hf k⟩
end Go.Proofs.YtlnjpmpddomjiaaGreatDoor
namespace Go.Proofs.YtlnjpmpddomjiaaGreatDoor
open Go.RowKit

set_option maxHeartbeats 400000 in
theorem copy_any (B : Nat) (v : Value) (l : List UInt8) (w : World) (hv : Sl w B v l) (hB : B ≤ w.heap.size) (hl : l.length ≤ 1000000) :
    Calls Tryz.prog 27 #[v] w fun e w' => ∃ v', e = .returned v' ∧ OwnB w' w.heap.size v' l ∧ Below w.heap.size w w' := by
  have HV := Lib.hid hv; clear hv
  go_enter Tryz.func27, Tryz.ntmps27
  go_wp2_with (at_builtin; ((with_reducible refine wpList_app_sl ?g1 (.tmp 3) (.tmp 4) ?g2 w.heap.size (.slice (some ⟨w.heap.size, 0, none⟩) 0 0) [] l ?g3 ?g4 B v ?g5 ?g6 ?g7 ?g8 ?_); (case g1 => rfl); (case g2 => rfl); (case g3 => rfl); (case g4 => exact OwnB.empty w); (case g5 => rfl); (case g6 => exact HV.out.below ((Below.refl _ _).alloc (Nat.le_refl _) _) hB); (case g7 => simp; omega); (case g8 => simp); intro v' w1 hv hg; have Hg := Lib.hid (((Below.refl w.heap.size w).alloc (Nat.le_refl _) _).trans ((OwnB.empty w).belowBase hg (by simp))); clear hg; rw [List.nil_append] at hv; have Hv := Lib.hid hv; clear hv))
  go_ret
  exact ⟨v', rfl, Hv.out, Hg.out⟩
end Go.Proofs.YtlnjpmpddomjiaaGreatDoor
namespace Go.Proofs.YtlnjpmpddomjiaaGreatDoor
open Go.RowKit
/-- What stands in the row when j bytes are written from behind. -/
def bfill (N k j : Nat) : List UInt8 := List.replicate (k - j) 0 ++ be N j
theorem bfill_len (N k j : Nat) (h : j ≤ k) : (bfill N k j).length = k := by unfold bfill; rw [List.length_append, List.length_replicate, be_length]; omega
theorem bfill_full (N k : Nat) : bfill N k k = be N k := by unfold bfill; simp
theorem bfill_set (N k j i : Nat) (h : i + j + 1 = k) : (bfill N k j).set i (UInt8.ofNat (N / 256 ^ j)) = bfill N k (j + 1) := by
  unfold bfill
  have e : be N (j + 1) = UInt8.ofNat (N / 256 ^ j) :: be N j := by rw [Nat.add_comm j 1, be_add]; rfl
  rw [e, show k - j = i + 1 by omega, show k - (j + 1) = i by omega, List.replicate_succ', List.append_assoc, List.set_append_right _ _ (by simp), List.length_replicate, Nat.sub_self]
  rfl
theorem byte_of (X : Nat) : (X : Int) % 256 = bn (UInt8.ofNat X) := by unfold bn; rw [UInt8.toNat_ofNat']; omega
attribute [irreducible] bfill
set_option maxRecDepth 100000 in
set_option maxHeartbeats 1000000 in
theorem refBytes_any (N k : Nat) (w : World) (hN : N < 18446744073709551616) (hk : k ≤ 1000) :
    Calls Tryz.prog 75 #[.int .u64 (N : Int), .int .i64 (k : Int)] w fun e w' => ∃ v', e = .returned v' ∧ OwnB w' w.heap.size v' (be N k) ∧ Below w.heap.size w w' := by
  have hmk := make_bytes k k (Nat.le_refl _) (by omega) w
  have hO : OwnB (w.alloc (.cells (noughts k) 5)) w.heap.size (.slice (some ⟨w.heap.size, 0, none⟩) k k) (bfill N k 0) :=
    OwnB.of_heap (Nat.le_refl _) (heap_alloc_new w _) (noughts_size _) (by unfold maxLen; omega) (bfill_len _ _ _ (by omega)) (by rw [noughts_list, List.take_of_length_le (by simp)]; unfold bfill; simp [be]) (Nat.le_refl _)
  have HO := Lib.hid hO; clear hO
  go_enter Tryz.func75, Tryz.ntmps75
  go_wp2_with fail
  clear hmk
  go_loopw [0, 6] (fun x i wr => ∃ j : Nat, j ≤ k ∧ i = .int .i64 ((k : Int) - 1 - (j : Int)) ∧ x = .int .u64 ((N / 256 ^ j : Nat) : Int) ∧ OwnB wr w.heap.size (.slice (some ⟨w.heap.size, 0, none⟩) k k) (bfill N k j) ∧ Below w.heap.size w wr) (fun _ i _ => (intOf i + 1).toNat)
  case atStart => exact ⟨0, by omega, by simp, by simp, HO.out, (Below.refl _ _).alloc (Nat.le_refl _) _⟩
  case round =>
    obtain ⟨j, hj, rfl, rfl, hO2, hB⟩ := hrel
    have HO2 := Lib.hid hO2
    have HB := Lib.hid hB; clear hB
    obtain ⟨X, hX⟩ : ∃ X, X = N / 256 ^ j := ⟨_, rfl⟩
    have hXN : X ≤ N := by rw [hX]; exact Nat.div_le_self _ _
    have hX2 : X / 256 = N / 256 ^ (j + 1) := by rw [hX, Nat.div_div_eq_div_mul, Nat.pow_succ]
    rw [← hX]
    have HX2 := Lib.hid hX2; clear hX2
    by_cases hlt : j < k
    · obtain ⟨i, hi⟩ : ∃ i, i + j + 1 = k := ⟨k - 1 - j, by omega⟩
      have he : (k : Int) - 1 - (j : Int) = (i : Int) := by omega
      have hset := bfill_set N k j i hi
      rw [← hX] at hset
      have HS := Lib.hid hset; clear hset
      obtain ⟨x0, hx0⟩ : ∃ x0, (bfill N k j)[i]? = some x0 := ⟨_, List.getElem?_eq_getElem (by rw [bfill_len _ _ _ hj]; omega)⟩
      obtain ⟨hc, hf⟩ := hO2.getAt i x0 hx0
      have hbx := byte_of X
      have HX := Lib.hid hX; clear hX hx0 hO2
      rw [he]
      have HE := Lib.hid he; clear he
      have hik : (i : Int) < (k : Int) := by omega
      go_wp2_with fail
      exact ⟨⟨j + 1, by omega, by congr 1; omega, by rw [← HX2.out]; congr 1, by rw [← HS.out]; exact HO2.out.setAt i (UInt8.ofNat X), HB.out.setCell (Nat.le_refl _) _⟩, by simp [intOf]⟩
    · obtain rfl : j = k := by omega
      rw [bfill_full] at HO2
      clear hO2
      have he : (j : Int) - 1 - (j : Int) = -1 := by omega
      rw [he]
      go_wp2_with fail
      go_ret
      exact ⟨_, rfl, HO2.out, HB.out⟩
end Go.Proofs.YtlnjpmpddomjiaaGreatDoor
namespace Go.Proofs.YtlnjpmpddomjiaaGreatDoor
open Go.RowKit
set_option maxHeartbeats 400000 in
theorem cut_short (B : Nat) (v : Value) (l : List UInt8) (n : Int) (w : World) (hv : Sl w B v l) (hB : B ≤ w.heap.size) (hl : (l.length : Int) ≤ n) (hn : n ≤ 1000000) :
    Calls Tryz.prog 26 #[v, .int .i64 n] w fun e w' => ∃ v', e = .returned v' ∧ OwnB w' w.heap.size v' (l.take n.toNat) ∧ Below w.heap.size w w' := by
  rw [List.take_of_length_le (by omega)]
  have HV := Lib.hid hv
  obtain ⟨A, c, rfl, h0, h1, h2, h3⟩ := hv
  clear h0 h3
  have hsl := slice_h A l.length c l.length h1
  go_enter Tryz.func26, Tryz.ntmps26
  go_wp2_with (at_builtin; ((with_reducible refine wpList_app_sl ?g1 (.tmp 5) (.tmp 11) ?g2 w.heap.size (.slice (some ⟨w.heap.size, 0, none⟩) 0 0) [] l ?g3 ?g4 B (.slice A l.length c) ?g5 ?g6 ?g7 ?g8 ?_); (case g1 => rfl); (case g2 => rfl); (case g3 => rfl); (case g4 => exact OwnB.empty w); (case g5 => rfl); (case g6 => exact HV.out.below ((Below.refl _ _).alloc (Nat.le_refl _) _) hB); (case g7 => simp; omega); (case g8 => simp); intro v' w1 hv hg; have Hg := Lib.hid (((Below.refl w.heap.size w).alloc (Nat.le_refl _) _).trans ((OwnB.empty w).belowBase hg (by simp))); clear hg; rw [List.nil_append] at hv; have Hv := Lib.hid hv; clear hv))
  go_ret
  exact ⟨v', rfl, Hv.out, Hg.out⟩
set_option maxHeartbeats 400000 in
theorem cut_long (B : Nat) (v : Value) (l : List UInt8) (n : Nat) (w : World) (hv : Sl w B v l) (hB : B ≤ w.heap.size) (hl : n < l.length) (hn : n ≤ 1000000) :
    Calls Tryz.prog 26 #[v, .int .i64 (n : Int)] w fun e w' => ∃ v', e = .returned v' ∧ OwnB w' w.heap.size v' (l.take n) ∧ Below w.heap.size w w' := by
  obtain ⟨A, c, rfl, h0, h1, h2, h3⟩ := hv.take n (by omega)
  have HV := Lib.hid h3; clear h3 hv
  have hsl := slice_h A l.length c n h0
  have Ht : Hid ((l.take n).length = n) := Lib.hid (by rw [List.length_take]; omega)
  go_enter Tryz.func26, Tryz.ntmps26
  go_wp2_with (at_builtin; ((with_reducible refine wpList_app_sl ?g1 (.tmp 5) (.tmp 11) ?g2 w.heap.size (.slice (some ⟨w.heap.size, 0, none⟩) 0 0) [] (l.take n) ?g3 ?g4 B (.slice A n c) ?g5 ?g6 ?g7 ?g8 ?_); (case g1 => rfl); (case g2 => rfl); (case g3 => rfl); (case g4 => exact OwnB.empty w); (case g5 => rfl); (case g6 => exact HV.out.below ((Below.refl _ _).alloc (Nat.le_refl _) _) hB); (case g7 => rw [Ht.out]; simp; omega); (case g8 => simp); intro v' w1 hv hg; have Hg := Lib.hid (((Below.refl w.heap.size w).alloc (Nat.le_refl _) _).trans ((OwnB.empty w).belowBase hg (by simp))); clear hg; rw [List.nil_append] at hv; have Hv := Lib.hid hv; clear hv))
  go_ret
  exact ⟨v', rfl, Hv.out, Hg.out⟩
/-- At most n of the bytes, in memory of their own. -/
theorem cut_any (B : Nat) (v : Value) (l : List UInt8) (n : Int) (w : World) (hv : Sl w B v l) (hB : B ≤ w.heap.size) (h0 : 0 ≤ n) (hn : n ≤ 1000000) :
    Calls Tryz.prog 26 #[v, .int .i64 n] w fun e w' => ∃ v', e = .returned v' ∧ OwnB w' w.heap.size v' (l.take n.toNat) ∧ Below w.heap.size w w' := by
  by_cases hl : (l.length : Int) ≤ n
  · exact cut_short B v l n w hv hB hl hn
  · obtain ⟨m, rfl⟩ := Int.eq_ofNat_of_zero_le h0
    exact cut_long B v l m w hv hB (by omega) (by omega)
end Go.Proofs.YtlnjpmpddomjiaaGreatDoor
namespace Go.Proofs.YtlnjpmpddomjiaaGreatDoor
open Go.RowKit
theorem u8_turned (x : UInt8) : ∃ y, Value.int .u8 (bits .xor .u8 (bn x) 90) = vb y := by
  refine ⟨x ^^^ 90, ?_⟩
  have e : bits .xor .u8 (bn x) 90 = bn (x ^^^ 90) := by
    show IntKind.u8.wrap ((BitVec.ofInt 8 (bn x) ^^^ BitVec.ofInt 8 90).toNat : Int) = _
    rw [ofInt_bn, IntKind.wrap_u8]
    have h2 : (x.toBitVec ^^^ BitVec.ofInt 8 90).toNat = (x ^^^ 90).toNat := rfl
    rw [h2]
    unfold bn
    have := (x ^^^ 90).toNat_lt
    omega
  rw [vb, e]
set_option maxRecDepth 100000 in
set_option maxHeartbeats 1000000 in
theorem flip_any (base : Nat) (v : Value) (l : List UInt8) (w : World) (ho : OwnB w base v l) (hl : l.length ≤ 100000) :
    Calls Tryz.prog 21 #[v] w fun e w' => e = .returned (.tuple #[]) ∧ w.grownBy w' v.ownBlock := by
  rcases ho.parts with ⟨rfl, rfl⟩ | ⟨g, cap, rfl, hg1, hg2, hc1, hc2, _, _⟩
  · go_enter Tryz.func21, Tryz.ntmps21
    go_wp2_with fail
    go_loop [2, 5] (fun _ i => i = .int .i64 0) (fun _ _ => 0)
    case atStart => rfl
    case round =>
      obtain rfl := hrel
      go_wp2_with fail
      go_end0
      exact ⟨rfl, World.grownBy.refl _ _⟩
  · obtain ⟨n, hn⟩ : ∃ n, n = l.length := ⟨_, rfl⟩
    rw [← hn] at ho hl hc1 ⊢
    have Hn := Lib.hid hn; clear hn
    have HO := Lib.hid ho; clear ho
    unfold maxLen at hc2
    go_enter Tryz.func21, Tryz.ntmps21
    go_wp2_with fail
    go_loopw [2, 5] (fun _ i wr => ∃ (k : Nat) (l' : List UInt8), k ≤ n ∧ i = .int .i64 (k : Int) ∧ l'.length = n ∧ OwnB wr base (.slice (some ⟨g, 0, none⟩) n cap) l' ∧ w.grownBy wr (some g)) (fun _ i _ => n - (intOf i).toNat)
    case atStart => exact ⟨0, l, by omega, rfl, Hn.out.symm, HO.out, World.grownBy.refl _ _⟩
    case round =>
      obtain ⟨k, l', hk, rfl, hl', hO, hB⟩ := hrel
      have HL := Lib.hid hl'; clear hl'
      have HO2 := Lib.hid hO
      have HB := Lib.hid hB; clear hB
      by_cases hlt : k < n
      · obtain ⟨x, hx⟩ : ∃ x, l'[k]? = some x := ⟨_, List.getElem?_eq_getElem (by rw [HL.out]; exact hlt)⟩
        obtain ⟨hc, hf⟩ := hO.getAt k x hx
        obtain ⟨y, hy⟩ := u8_turned x
        have Hy := Lib.hid hy
        clear hx hO hy
        go_wp2_with fail
        rw [Hy.out]
        exact ⟨⟨k + 1, l'.set k y, by omega, by go_num, by rw [List.length_set]; exact HL.out, HO2.out.setAt k y, HB.out.trans (grown_set wr ⟨g, k, none⟩ _)⟩, by simp [intOf]; omega⟩
      · obtain rfl : k = n := by omega
        clear hO
        go_wp2_with fail
        go_end0
        exact ⟨rfl, HB.out⟩
end Go.Proofs.YtlnjpmpddomjiaaGreatDoor
