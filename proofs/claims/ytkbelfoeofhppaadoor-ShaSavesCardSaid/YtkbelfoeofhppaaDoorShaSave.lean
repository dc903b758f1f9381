/- (*sha.Hash).Save. -/
import Derived.Test.YtkbelfoeofhppaaDoorHashS
import Derived.Test.YtkbelfoeofhppaaDoorOut
import Derived.Test.YtkbelfoeofhppaaDoorSl
import Derived.Deep.QuietTactic
import Derived.BigQuiet
namespace Go.Proofs.YtkbelfoeofhppaaDoor
open Go.RowKit
/-- What a Hash saves. -/
def saved (s : St) (n : Nat) (rest : List UInt8) : List UInt8 := wbs s.list ++ be n 8 ++ rest
theorem saved_length (s : St) (n : Nat) (rest : List UInt8) : (saved s n rest).length = 40 + rest.length := by
  unfold saved; rw [List.length_append, List.length_append, wbs_length, be_length]; rfl
set_option maxRecDepth 100000 in
set_option maxHeartbeats 1000000 in
theorem saveH_any (hb : Nat) (s : St) (rest : List UInt8) (n : Nat) (w : World) (h : HashAt w hb s rest n) :
    Calls Tryd.prog 26 #[.pointer (some ⟨hb, 0, none⟩)] w fun e w' => ∃ v', e = .returned v' ∧ OwnB w' w.heap.size v' (saved s n rest) ∧ Below w.heap.size w w' := by
  have hrl := h.len
  have hlt := h.lt
  obtain ⟨t, h1, h2⟩ := h
  have hc72 := h1.blk.at (hcells_total s t n h1.len)
  obtain ⟨r, hrr⟩ : ∃ r, r = n % 64 := ⟨_, rfl⟩
  have hmod : un n % (64 : Int) = (r : Int) := by rw [hrr]; exact un_mod64 n
  have hun := un_range n
  obtain ⟨r0, r1⟩ : (r : Int) ≤ 64 ∧ (0 : Int) ≤ (r : Int) := ⟨by omega, by omega⟩
  rw [← hrr] at hrl h2
  have HI := Lib.hid h1; clear h1
  have H2 := Lib.hid h2; clear h2 hrr
  have HRL := Lib.hid hrl; clear hrl
  have hr64 : r ≤ 64 := by omega
  go_enter Tryd.func26, Tryd.ntmps26
  go_wp2_with fail
  have ht : (un n).tmod 64 = un n % 64 := Int.tmod_eq_emod_of_nonneg hun.1
  go_quiet (fail)
  clear ht
  have hI1 : HashIs (w.drewN nq) hb s t n := ⟨HI.out.blk.drewN nq, HI.out.len⟩
  have hB1 : Below w.heap.size w (w.drewN nq) := below_drewN (Below.refl _ _) nq
  generalize w.drewN nq = w1 at hI1 hB1 ⊢
  have HI1 := Lib.hid hI1
  have HB1 := Lib.hid hB1
  have hlt1 : hb < w1.heap.size := hI1.blk.lt
  have hz1 := hB1.size
  clear hI1 hB1 hc72
  have hmk : (Instr.makeSlice 24 (.int .i64 0) (.int .i64 (40 + (r : Int)))).run Tryd.prog w1 = .ok (.slice (some ⟨w1.heap.size, 0, none⟩) 0 (40 + r)) (w1.alloc (.cells (noughts (40 + r)) 5)) := by
    have := make_bytes 0 (40 + r) (by omega) (by omega) w1
    rwa [show ((40 + r : Nat) : Int) = 40 + (r : Int) from by omega] at this
  have hbl2 : Below w1.heap.size w1 (w1.alloc (.cells (noughts (40 + r)) 5)) := (Below.refl _ _).alloc (Nat.le_refl _) _
  have hI2 : HashIs (w1.alloc (.cells (noughts (40 + r)) 5)) hb s t n := ⟨HI1.out.blk.below hbl2 hlt1, HI1.out.len⟩
  have HI2 := Lib.hid hI2
  have HO2 : Hid (OwnB (w1.alloc (.cells (noughts (40 + r)) 5)) w1.heap.size (.slice (some ⟨w1.heap.size, 0, none⟩) 0 (40 + r)) []) := Lib.hid (OwnB.of_heap (Nat.le_refl _) (heap_alloc_new w1 _) (noughts_size _) (by unfold maxLen; omega) rfl (by simp) (by omega))
  obtain ⟨d0, d1, d2, d3, d4, d5, d6, d7, z0, z1, z2, z3, z4, z5, z6, z7⟩ := hI2.blk.cells8
  clear hI2 hbl2
  go_wp2_with fail
  refine (appendWords_any w1.heap.size _ [] s _ HO2.out (by simp) (by simp)).mono ?_
  rintro e w3 ⟨v3, rfl, hO3, hB3⟩
  rw [List.nil_append] at hO3
  have HI3 : Hid (HashIs w3 hb s t n) := Lib.hid ⟨HI2.out.blk.below hB3 hlt1, HI2.out.len⟩
  have hc3 := HI3.out.blk.at (hcells_total s t n HI3.out.len)
  have HO3 := Lib.hid hO3
  have HB3 := Lib.hid (((HB1.out.alloc hz1 _).trans (hB3.mono hz1)))
  have hz3 : w1.heap.size ≤ w3.heap.size := by have := hB3.size; simp at this; omega
  clear hO3 hB3 d0 d1 d2 d3 d4 d5 d6 d7 z0 z1 z2 z3 z4 z5 z6 z7 hmk
  go_wp2_with fail
  refine (appendCount_any w1.heap.size v3 (wbs s.list) n w3 HO3.out (by rw [wbs_length, stlist_length]; omega) hz3).mono ?_
  rintro e w4 ⟨v4, rfl, hO4, hB4⟩
  have HI4 : Hid (HashIs w4 hb s t n) := Lib.hid ⟨HI3.out.blk.below hB4 hlt1, HI3.out.len⟩
  have HO4 := Lib.hid hO4
  have HB4 := Lib.hid (HB3.out.trans (hB4.mono hz1))
  have hz4 : w1.heap.size ≤ w4.heap.size := Nat.le_trans hz3 hB4.size
  clear hO4 hB4 hc3
  have HS4 : Hid (Sl w4 w4.heap.size (.slice (some ⟨hb, 8, none⟩) r 64) rest) := Lib.hid ⟨some ⟨hb, 8, none⟩, 64, by rw [HRL.out], (fun h => by cases h), by rw [HRL.out]; exact hr64, by omega, fun _ => ⟨hb, 8, rfl, by omega, by
    rw [← H2.out]; exact (HI4.out.blk.tail HI4.out.len).take r⟩⟩
  go_wp2_with (at_builtin; ((with_reducible refine wpList_app_sl ?f1 (.tmp 32) (.tmp 33) ?f2 w1.heap.size v4 (wbs s.list ++ be n 8) rest ?f3 HO4.out _ (.slice (some ⟨hb, 8, none⟩) r 64) ?f5 HS4.out ?f7 ?f8 ?_); (case f1 => rfl); (case f2 => rfl); (case f3 => rfl); (case f5 => rfl); (case f7 => rw [List.length_append, wbs_length, be_length, HRL.out, stlist_length]; omega); (case f8 => exact hz4); intro v5 w5 hv5 hg5; have HV5 := Lib.hid hv5; have HG5 := Lib.hid hg5; clear hv5 hg5))
  go_ret
  exact ⟨_, rfl, HV5.out.lower hz1, HB4.out.grown HG5.out HB4.out.size (fun j e => by have := (HO4.out.lt j e).1; omega)⟩
end Go.Proofs.YtkbelfoeofhppaaDoor
