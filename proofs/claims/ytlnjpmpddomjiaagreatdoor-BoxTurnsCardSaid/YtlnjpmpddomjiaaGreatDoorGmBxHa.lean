/- box: handles. box: Handle. The reference of box: front, Handle, Looks. -/
import Derived.Test.YtlnjpmpddomjiaaGreatDoorGmBxNumA
import Derived.Test.YtlnjpmpddomjiaaGreatDoorGmCutE
import Derived.Lib.BufferWrite
set_option maxRecDepth 100000
namespace Go.Proofs.YtlnjpmpddomjiaaGreatDoor
open Go.RowKit

/-- How a handle begins. -/
def fro : List UInt8 := [241, 84, 82, 77, 0, 0, 0, 0, 0, 0, 0, 0, 0, 0, 0, 0, 0, 0, 0, 0, 0, 0, 0, 0, 0, 0, 0, 0]
abbrev froS : ByteArray := ⟨#[241, 84, 82, 77, 0, 0, 0, 0, 0, 0, 0, 0, 0, 0, 0, 0, 0, 0, 0, 0, 0, 0, 0, 0, 0, 0, 0, 0]⟩
theorem fro_eq : fro = [241, 84, 82, 77, 0, 0, 0, 0, 0, 0, 0, 0, 0, 0, 0, 0, 0, 0, 0, 0, 0, 0, 0, 0, 0, 0, 0, 0] := rfl
theorem fro_length : fro.length = 28 := rfl
theorem froS_str : Value.string froS = str fro := rfl
/-- Does a text look like a handle? -/
def looks (l : List UInt8) : Bool := l.length == 32 && l.take 28 == fro
attribute [irreducible] fro
theorem froS_size : froS.size = 28 := rfl
set_option maxHeartbeats 1000000 in
theorem appendNumber_any (base : Nat) (v : Value) (l : List UInt8) (n : Nat) (w : World) (ho : OwnB w base v l) (hB : base ≤ w.heap.size) (hl : l.length ≤ 100000) (hn : n < 4294967296) :
    Calls Tryz.prog 62 #[v, .int .i64 (n : Int)] w fun e w' => ∃ v', e = .returned v' ∧ OwnB w' base v' (l ++ len4 n) ∧ Below base w w' := by
  have HO := Lib.hid ho
  obtain ⟨A, c, rfl, _, _, _, _⟩ := ho.sl
  clear ho
  have HN := Lib.hid hn; clear hn
  obtain ⟨N, hN⟩ : ∃ N : Int, N = (n : Int) := ⟨_, rfl⟩
  rw [← hN]
  have h0 : 0 ≤ N := by omega
  have h1 : N < 4294967296 := by have := HN.out; omega
  have HNN := Lib.hid hN; clear hN
  have e1 : Value.int .u8 (N / 16777216) = vb (UInt8.ofNat (n / 16777216)) := by
    have e : bn (UInt8.ofNat (n / 16777216)) = N / 16777216 := by have h := HNN.out; have h2 := HN.out; unfold bn; rw [UInt8.toNat_ofNat']; omega
    rw [vb, e]
  have e2 : Value.int .u8 (N / 65536 % 256) = vb (UInt8.ofNat (n / 65536)) := by
    have e : bn (UInt8.ofNat (n / 65536)) = N / 65536 % 256 := by have h := HNN.out; unfold bn; rw [UInt8.toNat_ofNat']; omega
    rw [vb, e]
  have e3 : Value.int .u8 (N / 256 % 256) = vb (UInt8.ofNat (n / 256)) := by
    have e : bn (UInt8.ofNat (n / 256)) = N / 256 % 256 := by have h := HNN.out; unfold bn; rw [UInt8.toNat_ofNat']; omega
    rw [vb, e]
  have e4 : Value.int .u8 (N % 256) = vb (UInt8.ofNat n) := by
    have e : bn (UInt8.ofNat n) = N % 256 := by have h := HNN.out; unfold bn; rw [UInt8.toNat_ofNat']; omega
    rw [vb, e]
  have HSN : Hid (Sl (w.alloc (.cells #[.int .u8 (N / 16777216), .int .u8 (N / 65536 % 256), .int .u8 (N / 256 % 256), .int .u8 (N % 256)] 5)) (w.heap.size + 1) (.slice (some ⟨w.heap.size, 0, none⟩) 4 4) (len4 n)) :=
    Lib.hid (Sl.newA w _ _ (len4 n) (by rw [e1, e2, e3, e4]; rfl) rfl rfl (by omega) (by simp [len4]))
  clear e1 e2 e3 e4
  have HOA := Lib.hid (fun o => HO.out.below ((Below.refl w.heap.size w).alloc (Nat.le_refl _) o))
  have HBA := Lib.hid (fun o => ((Below.refl w.heap.size w).alloc (Nat.le_refl _) o).mono hB)
  have hl4 : (len4 n).length = 4 := rfl
  go_enter Tryz.func62, Tryz.ntmps62
  go_wp2_with (at_builtin; ((with_reducible refine wpList_app_sl ?g1 (.tmp 5) (.tmp 17) ?g2 base (.slice A l.length c) l (len4 n) ?g3 ?g4 (w.heap.size + 1) (.slice (some ⟨w.heap.size, 0, none⟩) 4 4) ?g5 ?g6 ?g7 ?g8 ?_); (case g1 => rfl); (case g2 => rfl); (case g3 => rfl); (case g4 => exact HOA.out _); (case g5 => rfl); (case g6 => exact HSN.out); (case g7 => rw [hl4]; omega); (case g8 => simp; omega); intro v' w1 hv hg; have Hv := Lib.hid hv; have Hg := Lib.hid ((HBA.out _).trans ((HOA.out _).belowBase hg (by simp; omega))); clear hv hg))
  go_ret
  exact ⟨v', rfl, Hv.out, Hg.out⟩
theorem copy_fro (w : World) : ∃ W1, (∀ ty, (Builtin.copy_ #[34, 9] ty #[.slice (some ⟨w.heap.size, 0, none⟩) 32 32, .string froS]).run Tryz.prog (w.alloc (.cells (noughts 32) 5)) = .ok (.int .i64 28) W1) ∧
    OwnB W1 w.heap.size (.slice (some ⟨w.heap.size, 0, none⟩) 28 32) fro ∧ Below w.heap.size w W1 ∧ w.heap.size < W1.heap.size := by
  have hg := heap_alloc_new w (.cells (noughts 32) 5)
  refine ⟨_, fun ty => Lib.run_copy_row_string (P := Tryz.prog) _ 34 9 ty 5 w.heap.size 0 32 32 froS (noughts 32) 5 Tryz.underlying34 (by kernel_rfl) hg (by decide) (by rw [noughts_size]; decide), ?_, ?_, ?_⟩
  · refine OwnB.of_heap (Nat.le_refl _) (setRow_heap _ _ _ _ _ _ hg) ?_ (by unfold maxLen; omega) fro_length ?_ (by omega)
    · kernel_rfl
    · rw [fro_eq]; kernel_rfl
  · exact below_setRow ((Below.refl _ _).alloc (Nat.le_refl _) _) (Nat.le_refl _) _
  · simp
end Go.Proofs.YtlnjpmpddomjiaaGreatDoor
set_option maxRecDepth 100000
namespace Go.Proofs.YtlnjpmpddomjiaaGreatDoor
open Go.RowKit
set_option maxHeartbeats 1000000 in
theorem handle_any (n : Nat) (hn : n < 4294967296) (w : World) :
    Calls Tryz.prog 59 #[.int .i64 (n : Int)] w fun e w' => ∃ v', e = .returned v' ∧ OwnB w' w.heap.size v' (fro ++ len4 n) ∧ Below w.heap.size w w' := by
  have hmk : ∀ W : World, (Instr.makeSlice 34 (.int .i64 32) (.int .i64 32)).run Tryz.prog W = .ok (.slice (some ⟨W.heap.size, 0, none⟩) 32 32) (W.alloc (.cells (noughts 32) 5)) := make_bytes 32 32 (by omega) (by omega)
  obtain ⟨W1, hcp, hO, hB, hsz⟩ := copy_fro w
  have hrun : ∀ W : World, (Instr.slice 34 (.slice (some ⟨w.heap.size, 0, none⟩) 32 32) none (some (.int .i64 28)) none).run Tryz.prog W = .ok (.slice (some ⟨w.heap.size, 0, none⟩) 28 32) W := slice_h _ 32 32 28 (by omega)
  have HO := Lib.hid hO; clear hO
  have HB := Lib.hid hB; clear hB
  have HN := Lib.hid hn; clear hn
  go_enter Tryz.func59, Tryz.ntmps59
  go_wp2_with fail
  refine (appendNumber_any w.heap.size _ fro n W1 HO.out (by omega) (by rw [fro_length]; omega) HN.out).mono ?_
  rintro e w2 ⟨v', rfl, hv, hb⟩
  have HV := Lib.hid hv; clear hv
  have HB2 := Lib.hid (HB.out.trans hb); clear hb
  go_wp2_with fail
  go_ret
  exact ⟨v', rfl, HV.out, HB2.out⟩
end Go.Proofs.YtlnjpmpddomjiaaGreatDoor
set_option maxRecDepth 100000
namespace Go.Proofs.YtlnjpmpddomjiaaGreatDoor
open Go.RowKit

set_option maxHeartbeats 1000000 in
theorem front_any (w : World) :
    Calls Tryz.prog 76 #[] w fun e w' => ∃ v', e = .returned v' ∧ OwnB w' w.heap.size v' fro ∧ Below w.heap.size w w' := by
  have hb5 : Tryz.t5.bytes = 1 := by kernel_rfl
  have hnx : Builtin.nextslicecap 28 4 = 28 := by decide
  go_enter Tryz.func76, Tryz.ntmps76
  go_wp2_with fail
  have hge := grownCap_ge w 28 4 5
  have hle := grownCap_le_maxLen w 28 4 5 (by unfold maxLen; omega)
  go_ret
  refine ⟨_, rfl, ?_, (((Below.refl _ _).alloc (Nat.le_refl _) _).alloc (by simp) _).drew⟩
  refine OwnB.of_heap (base := w.heap.size) (g := w.heap.size + 1) (cap := grownCap w 28 4 5) (n := 28) (by omega) (by have h := fun o1 o2 => heap_alloc_new (w.alloc o1) o2; simp only [World.size_alloc] at h; exact h _ _) ?_ hle fro_length ?_ hge
  · rw [Array.size_append, Array.size_append, size_zeroCells, size_zeroCells]
    show 4 + (24 * 1 + (grownCap w 28 4 5 - 28) * 1) = _
    omega
  · rw [Array.toList_append, Array.toList_append, ← List.append_assoc, List.take_left' (by rw [List.length_append, Array.length_toList, Array.length_toList, size_zeroCells]; rfl), fro_eq]
    kernel_rfl
theorem u8_at (n k : Nat) : Value.int .u8 (((n / k : Nat) : Int) % 256) = vb (UInt8.ofNat (n / k)) := by
  have e : bn (UInt8.ofNat (n / k)) = ((n / k : Nat) : Int) % 256 := by unfold bn; rw [UInt8.toNat_ofNat']; omega
  rw [vb, e]
/-- What Bytes has written behind k rounds. -/
def part4 (n : Nat) : Nat → List UInt8
  | 0 => [0, 0, 0, 0]
  | 1 => [0, 0, 0, UInt8.ofNat n]
  | 2 => [0, 0, UInt8.ofNat (n / 256), UInt8.ofNat n]
  | 3 => [0, UInt8.ofNat (n / 65536), UInt8.ofNat (n / 256), UInt8.ofNat n]
  | _ => [UInt8.ofNat (n / 16777216), UInt8.ofNat (n / 65536), UInt8.ofNat (n / 256), UInt8.ofNat n]
theorem part4_all (n : Nat) : part4 n 4 = len4 n := by
  show [UInt8.ofNat (n / 16777216), UInt8.ofNat (n / 65536), UInt8.ofNat (n / 256), UInt8.ofNat n] = len4 n
  rfl
def pw : Nat → Nat
  | 0 => 1
  | 1 => 256
  | 2 => 65536
  | 3 => 16777216
  | _ => 4294967296
def ix : Nat → Int
  | 0 => 3
  | 1 => 2
  | 2 => 1
  | 3 => 0
  | _ => -1
theorem dv1 (n : Nat) : n / 1 / 256 = n / 256 := by omega
theorem dv2 (n : Nat) : n / 256 / 256 = n / 65536 := by omega
theorem dv3 (n : Nat) : n / 65536 / 256 = n / 16777216 := by omega
theorem dv4 (n : Nat) : n / 16777216 / 256 = n / 4294967296 := by omega
set_option maxHeartbeats 1000000 in
theorem bytesRef4 (n : Nat) (hn : n < 4294967296) (w : World) :
    Calls Tryz.prog 75 #[.int .u64 (n : Int), .int .i64 4] w fun e w' => ∃ v', e = .returned v' ∧ OwnB w' w.heap.size v' (len4 n) ∧ Below w.heap.size w w' := by
  have hmk : ∀ W : World, (Instr.makeSlice 34 (.int .i64 4) (.int .i64 4)).run Tryz.prog W = .ok (.slice (some ⟨W.heap.size, 0, none⟩) 4 4) (W.alloc (.cells (noughts 4) 5)) := make_bytes 4 4 (by omega) (by omega)
  have HO := Lib.hid (OwnB.of_heap (base := w.heap.size) (g := w.heap.size) (cap := 4) (n := 4) (l := [0, 0, 0, 0]) (Nat.le_refl _) (heap_alloc_new w (.cells (noughts 4) 5)) (noughts_size _) (by unfold maxLen; omega) rfl (by rw [noughts_list]; rfl) (by omega))
  have HB := Lib.hid ((Below.refl w.heap.size w).alloc (Nat.le_refl _) (.cells (noughts 4) 5))
  have HN := Lib.hid hn; clear hn
  obtain ⟨N, hN⟩ : ∃ N : Nat, N = n := ⟨_, rfl⟩
  rw [← hN]
  have HNN := Lib.hid hN; clear hN
  go_enter Tryz.func75, Tryz.ntmps75
  go_wp2_with fail
  clear hmk
  go_loopw [0, 6] (fun m i wr => ∃ k : Nat, k ≤ 4 ∧ i = .int .i64 (ix k) ∧ m = .int .u64 ((n / pw k : Nat) : Int) ∧ OwnB wr w.heap.size (.slice (some ⟨w.heap.size, 0, none⟩) 4 4) (part4 n k) ∧ Below w.heap.size w wr) (fun _ i _ => match i with | .int _ k => (k + 1).toNat | _ => 0)
  case atStart => exact ⟨0, by omega, rfl, by rw [HNN.out]; show _ = Value.int .u64 ((n / 1 : Nat) : Int); rw [Nat.div_one], HO.out, HB.out⟩
  case round =>
    obtain ⟨k, hk, hi, hm, hO, hB⟩ := hrel
    have HO2 := Lib.hid hO
    have HB2 := Lib.hid hB; clear hB HO HB
    obtain rfl | rfl | rfl | rfl | rfl : k = 0 ∨ k = 1 ∨ k = 2 ∨ k = 3 ∨ k = 4 := by omega
    · obtain ⟨hc, hf⟩ := hO.getAt 3 0 rfl
      clear hO
      have hi2 : u6 = .int .i64 3 := hi
      have hm2 : u0 = .int .u64 ((n / 1 : Nat) : Int) := hm
      subst hi2; subst hm2
      clear hi hm
      have HD : Hid (IntKind.u64.wrap ((((n / 1 : Nat) : Int)).tdiv 256) = ((n / 256 : Nat) : Int)) := Lib.hid (by have h1 := HN.out; have h2 := dv1 n; rw [Int.tdiv_eq_ediv_of_nonneg (by omega), IntKind.wrap_u64]; omega)
      have hu := u8_at n 1
      obtain ⟨z, hz⟩ : ∃ z : Int, z = ((n / 1 : Nat) : Int) := ⟨_, rfl⟩
      rw [← hz] at HD hu ⊢
      simp only [Nat.div_one] at hu
      have hz0 : 0 ≤ z := by omega
      clear hz
      go_wp2_with fail
      exact ⟨⟨1, by omega, rfl, by rw [HD.out]; rfl, HO2.out.setAt 3 _, HB2.out.setCell (Nat.le_refl _) _⟩, by simp⟩
    · obtain ⟨hc, hf⟩ := hO.getAt 2 0 rfl
      clear hO
      have hi2 : u6 = .int .i64 2 := hi
      have hm2 : u0 = .int .u64 ((n / 256 : Nat) : Int) := hm
      subst hi2; subst hm2
      clear hi hm
      have HD : Hid (IntKind.u64.wrap ((((n / 256 : Nat) : Int)).tdiv 256) = ((n / 65536 : Nat) : Int)) := Lib.hid (by have h1 := HN.out; have h2 := dv2 n; rw [Int.tdiv_eq_ediv_of_nonneg (by omega), IntKind.wrap_u64]; omega)
      have hu := u8_at n 256
      obtain ⟨z, hz⟩ : ∃ z : Int, z = ((n / 256 : Nat) : Int) := ⟨_, rfl⟩
      rw [← hz] at HD hu ⊢
      have hz0 : 0 ≤ z := by omega
      clear hz
      go_wp2_with fail
      exact ⟨⟨2, by omega, rfl, by rw [HD.out]; rfl, HO2.out.setAt 2 _, HB2.out.setCell (Nat.le_refl _) _⟩, by simp⟩
    · obtain ⟨hc, hf⟩ := hO.getAt 1 0 rfl
      clear hO
      have hi2 : u6 = .int .i64 1 := hi
      have hm2 : u0 = .int .u64 ((n / 65536 : Nat) : Int) := hm
      subst hi2; subst hm2
      clear hi hm
      have HD : Hid (IntKind.u64.wrap ((((n / 65536 : Nat) : Int)).tdiv 256) = ((n / 16777216 : Nat) : Int)) := Lib.hid (by have h1 := HN.out; have h2 := dv3 n; rw [Int.tdiv_eq_ediv_of_nonneg (by omega), IntKind.wrap_u64]; omega)
      have hu := u8_at n 65536
      obtain ⟨z, hz⟩ : ∃ z : Int, z = ((n / 65536 : Nat) : Int) := ⟨_, rfl⟩
      rw [← hz] at HD hu ⊢
      have hz0 : 0 ≤ z := by omega
      clear hz
      go_wp2_with fail
      exact ⟨⟨3, by omega, rfl, by rw [HD.out]; rfl, HO2.out.setAt 1 _, HB2.out.setCell (Nat.le_refl _) _⟩, by simp⟩
    · obtain ⟨hc, hf⟩ := hO.getAt 0 0 rfl
      clear hO
      have hi2 : u6 = .int .i64 0 := hi
      have hm2 : u0 = .int .u64 ((n / 16777216 : Nat) : Int) := hm
      subst hi2; subst hm2
      clear hi hm
      have HD : Hid (IntKind.u64.wrap ((((n / 16777216 : Nat) : Int)).tdiv 256) = ((n / 4294967296 : Nat) : Int)) := Lib.hid (by have h1 := HN.out; have h2 := dv4 n; rw [Int.tdiv_eq_ediv_of_nonneg (by omega), IntKind.wrap_u64]; omega)
      have hu := u8_at n 16777216
      obtain ⟨z, hz⟩ : ∃ z : Int, z = ((n / 16777216 : Nat) : Int) := ⟨_, rfl⟩
      rw [← hz] at HD hu ⊢
      have hz0 : 0 ≤ z := by omega
      clear hz
      go_wp2_with fail
      exact ⟨⟨4, by omega, rfl, by rw [HD.out]; rfl, HO2.out.setAt 0 _, HB2.out.setCell (Nat.le_refl _) _⟩, by simp⟩
    · clear hO
      have hi2 : u6 = .int .i64 (-1) := hi
      subst hi2
      clear hi hm
      rw [part4_all] at HO2
      go_wp2_with fail
      go_ret
      exact ⟨_, rfl, by rw [HNN.out]; exact HO2.out, HB2.out⟩
end Go.Proofs.YtlnjpmpddomjiaaGreatDoor
