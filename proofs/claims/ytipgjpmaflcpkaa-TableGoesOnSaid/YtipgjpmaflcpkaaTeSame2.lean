/- The law's same and do where there is nothing: an empty Table, a nil one. -/
import Derived.Test.YtipgjpmaflcpkaaTeSame
set_option maxRecDepth 100000
namespace Go.Proofs.Ytipgjpmaflcpkaa
open Go.RowKit Go.Shelf
section
variable {w w1 w2 w' : World} {b0 T m cap X : Nat}
set_option maxHeartbeats 4000000 in
theorem same_none (h : DX w b0 T m cap X []) (k : List UInt8) (hk : k.length ≤ 100000) :
    Calls Try.prog 8 #[tP T, tP X, strT k] w fun e w' => e = .returned (.bool true) ∧ Below w.heap.size w w' := by
  have hcap := h.tb.cap
  obtain ⟨v0, hX, hE⟩ := h.xr
  obtain ⟨A, c, rfl, q1, q2, _, _, _⟩ := hE.parts
  change BlkT w X tX [.int .i64 (cap : Int), .slice A 0 c] at hX
  have c0 : w.cell? ⟨X, 0, none⟩ = some (.int .i64 (cap : Int)) := hX.at rfl
  have c1 : w.cell? ⟨X, 1, none⟩ = some (.slice A 0 c) := hX.at rfl
  have HES : Hid (∀ W, Below w.heap.size w W → ES W w.heap.size (.slice A 0 c) []) := Lib.hid (fun W hW => (hE.es).below hW (Nat.le_refl _))
  have HO : Hid (∀ W, Below w.heap.size w W → Calls Try.prog 13 #[tP T] W fun e w' => e = .returned (.tuple #[.string ⟨#[]⟩, .int .i64 0, .bool false]) ∧ Below W.heap.size W w') := Lib.hid (fun W hW => (oldest_none (h.tb.keep hW)).mono (by rintro e w' ⟨rfl, rfl⟩; exact ⟨rfl, Below.refl _ _⟩))
  have HLEN : Hid (∀ W, Below w.heap.size w W → Calls Try.prog 23 #[tP T] W fun e w' => e = .returned (.int .i64 0) ∧ W = w') := Lib.hid (fun W hW => tlen_any (h.tb.keep hW))
  have HROOM : Hid (∀ W, Below w.heap.size w W → Calls Try.prog 24 #[tP T] W fun e w' => e = .returned (.int .i64 (cap : Int)) ∧ Below W.heap.size W w') := Lib.hid (fun W hW => (room_any (h.tb.keep hW)).mono (by rintro e w' ⟨rfl, hb⟩; exact ⟨by simp, hb⟩))
  have hb : ((cap : Int) == 0) = (([] : List Nd).length == cap) := by
    by_cases e : cap = 0
    · rw [e]; simp
    · have e1 : (([] : List Nd).length == cap) = false := by rw [beq_eq_false_iff_ne]; exact fun e' => e e'.symm
      rw [e1, beq_eq_false_iff_ne]; omega
  have HFULL : Hid (∀ W, Below w.heap.size w W → Calls Try.prog 25 #[tP T] W fun e w' => e = .returned (.bool ((cap : Int) == 0)) ∧ Below W.heap.size W w') := Lib.hid (fun W hW => by rw [hb]; exact full_any (h.tb.keep hW))
  have HGET : Hid (∀ W, Below w.heap.size w W → Calls Try.prog 26 #[tP T, strT k] W fun e w' => e = .returned (.tuple #[.int .i64 0, .bool false]) ∧ W = w') := Lib.hid (fun W hW => get_any (h.tb.keep hW) k hk)
  have HFIND : Hid (∀ W, Below w.heap.size w W → Calls Try.prog 27 #[tP X, strT k] W fun e w' => e = .returned (.int .i64 (-1)) ∧ Below W.heap.size W w') := Lib.hid (fun W hW => find_X (h.xr.below hW) k (by show 0 ≤ 4096; omega))
  have HROW : Hid (∀ W, Below w.heap.size w W → Calls Try.prog 29 #[tP T, .int .i64 100000] W fun e w' => ∃ v, e = .returned v ∧ ER w' W.heap.size v [] ∧ Below W.heap.size W w') := Lib.hid (fun W hW => row_any (h.tb.keep hW))
  clear hX hE h hb
  go_enter Try.func8, Try.ntmps8
  go_wp2_with fail
  go_quiet (fail)
  go_wp2_with fail
  refine (HO.out _ (below_drewN (Below.refl _ _) nq)).mono ?_
  rintro e w1 ⟨rfl, hb1⟩
  have HB1 := Lib.hid ((below_drewN (Below.refl w.heap.size w) nq).trans (hb1.mono (Nat.le_refl _)))
  clear hb1
  go_wp2_with fail
  refine (HLEN.out _ HB1.out).mono ?_
  rintro e w2 ⟨rfl, rfl⟩
  go_wp2_with fail
  refine (HROOM.out _ HB1.out).mono ?_
  rintro e w2 ⟨rfl, hb2⟩
  have HB2 := Lib.hid (HB1.out.trans (hb2.mono HB1.out.size))
  clear hb2
  go_wp2_with fail
  refine (HFULL.out _ HB2.out).mono ?_
  rintro e w3 ⟨rfl, hb3⟩
  have HB3 := Lib.hid (HB2.out.trans (hb3.mono HB2.out.size))
  clear hb3
  go_wp2_with fail
  refine (HGET.out _ HB3.out).mono ?_
  rintro e w4 ⟨rfl, rfl⟩
  go_wp2_with fail
  refine (HFIND.out _ HB3.out).mono ?_
  rintro e w4 ⟨rfl, hb4⟩
  have HB4 := Lib.hid (HB3.out.trans (hb4.mono HB3.out.size))
  clear hb4
  go_wp2_with fail
  refine (HROW.out _ HB4.out).mono ?_
  rintro e w5 ⟨v5, rfl, hr5, hb5⟩
  have HB5 := Lib.hid (HB4.out.trans (hb5.mono HB4.out.size))
  have HR5 := Lib.hid hr5.es
  clear hb5 hr5
  go_wp2_with fail
  refine (equal_any HR5.out (HES.out _ HB5.out) (by simp)).mono ?_
  rintro e w6 ⟨rfl, hb6⟩
  have HB6 := Lib.hid (HB5.out.trans (hb6.mono HB5.out.size))
  clear hb6
  go_wp2_with fail
  go_ret
  exact ⟨rfl, HB6.out⟩
theorem same_any {xs : List Nd} (h : DX w b0 T m cap X xs) (k : List UInt8) (hk : k.length ≤ 100000) :
    Calls Try.prog 8 #[tP T, tP X, strT k] w fun e w' => e = .returned (.bool true) ∧ Below w.heap.size w w' := by
  cases xs with
  | nil => exact same_none h k hk
  | cons x t => exact same_some h k hk rfl
set_option maxHeartbeats 4000000 in
theorem same_nil (k : List UInt8) (w : World) :
    Calls Try.prog 8 #[tN, tN, strT k] w fun e w' => e = .returned (.bool true) ∧ Below w.heap.size w w' := by
  go_enter Try.func8, Try.ntmps8
  go_wp2_with fail
  refine (oldest_nil _).mono ?_
  rintro e w1 ⟨rfl, rfl⟩
  go_wp2_with fail
  refine (tlen_nil _).mono ?_
  rintro e w1 ⟨rfl, rfl⟩
  go_wp2_with fail
  refine (room_nil _).mono ?_
  rintro e w1 ⟨rfl, rfl⟩
  go_wp2_with fail
  refine (full_nil _).mono ?_
  rintro e w1 ⟨rfl, rfl⟩
  go_wp2_with fail
  refine (get_nil k _).mono ?_
  rintro e w1 ⟨rfl, rfl⟩
  go_wp2_with fail
  refine (find_nilX (strT k) _).mono ?_
  rintro e w1 ⟨rfl, hb1⟩
  have HB1 := Lib.hid hb1
  clear hb1
  go_wp2_with fail
  refine row_nil.mono ?_
  rintro e w5 ⟨v5, rfl, hr5, hb5⟩
  have HB5 := Lib.hid (HB1.out.trans (hb5.mono HB1.out.size))
  have HR5 := Lib.hid hr5.es
  clear hb5 hr5
  go_wp2_with fail
  refine (equal_any (l := []) HR5.out (B2 := 0) (v2 := .slice none 0 0) ⟨none, 0, rfl, fun _ => rfl, by simp, by omega, fun h => by simp at h⟩ (by simp)).mono ?_
  rintro e w6 ⟨rfl, hb6⟩
  have HB6 := Lib.hid (HB5.out.trans (hb6.mono HB5.out.size))
  clear hb6
  go_wp2_with fail
  go_ret
  exact ⟨rfl, HB6.out⟩
theorem set_nilX (k v : Value) (w : World) : Calls Try.prog 15 #[tN, k, v] w fun e w' => e = .returned (.int .i64 6) ∧ Below w.heap.size w w' := by
  go_enter Try.func15, Try.ntmps15
  go_wp2_with fail
  refine (find_nilX k _).mono ?_
  rintro e w1 ⟨rfl, hb⟩
  have HB := Lib.hid hb; clear hb
  go_wp2_with fail
  go_ret
  exact ⟨rfl, HB.out⟩
theorem drop_nilX (k : Value) (w : World) : Calls Try.prog 17 #[tN, k] w fun e w' => e = .returned (.int .i64 6) ∧ Below w.heap.size w w' := by
  go_enter Try.func17, Try.ntmps17
  go_wp2_with fail
  refine (find_nilX k _).mono ?_
  rintro e w1 ⟨rfl, hb⟩
  have HB := Lib.hid hb; clear hb
  go_wp2_with fail
  go_ret
  exact ⟨rfl, HB.out⟩
theorem renew_nilX (k : Value) (w : World) : Calls Try.prog 18 #[tN, k] w fun e w' => e = .returned (.int .i64 6) ∧ Below w.heap.size w w' := by
  go_enter Try.func18, Try.ntmps18
  go_wp2_with fail
  refine (find_nilX k _).mono ?_
  rintro e w1 ⟨rfl, hb⟩
  have HB := Lib.hid hb; clear hb
  go_wp2_with fail
  go_ret
  exact ⟨rfl, HB.out⟩
end
end Go.Proofs.Ytipgjpmaflcpkaa
