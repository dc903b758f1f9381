/- table: what reads a Table: find, Len, Room, Full, Oldest, Get; New. -/
import Derived.Test.YthpgdojjecdlcaaTnSt
import Derived.WalkKit
import Derived.IntWalk
import Derived.Deep.QuietTactic
import Derived.BigQuiet
import Derived.Outline
set_option maxRecDepth 100000
namespace Go.Proofs.Ythpgdojjecdlcaa
open Go.RowKit
abbrev tP (T : Nat) : Value := .pointer (some ⟨T, 0, none⟩)
section
variable {w : World} {T m cap : Nat} {xs : List Nd}
theorem Tb.c0 (h : Tb w T m cap xs) : w.cell? ⟨T, 0, none⟩ = some (.int .i64 (cap : Int)) := h.tbl.at rfl
theorem Tb.c1 (h : Tb w T m cap xs) : w.cell? ⟨T, 1, none⟩ = some (.map (some m)) := h.tbl.at rfl
theorem Tb.c2 (h : Tb w T m cap xs) : w.cell? ⟨T, 2, none⟩ = some (pt (hd xs none)) := h.tbl.at rfl
theorem Tb.c3 (h : Tb w T m cap xs) : w.cell? ⟨T, 3, none⟩ = some (pt (la none xs)) := h.tbl.at rfl
theorem Tb.len' (h : Tb w T m cap xs) (ty : TypeId) : (Builtin.len_ #[97] ty #[.map (some m)]).run Try.prog w = .ok (.int .i64 (xs.length : Int)) w := by
  obtain ⟨D, hD, hI⟩ := h.map
  rw [hD.len Try.underlying97 ty, hI.size]
theorem find_any (h : Tb w T m cap xs) (k : List UInt8) (hk : k.length ≤ 100000) :
    Calls Try.prog 48 #[tP T, strT k] w fun e w' => e = .returned (pt ((fnd xs k).map (·.b))) ∧ w = w' := by
  have hl := h.look k hk
  have c1 := h.c1
  obtain ⟨v, hv⟩ : ∃ v, v = pt ((fnd xs k).map (·.b)) := ⟨_, rfl⟩
  rw [← hv] at hl ⊢
  clear hv h
  go_enter Try.func48, Try.ntmps48
  go_wp2_with fail
  go_ret
  exact ⟨rfl, rfl⟩
theorem find_nil (k : Value) (w : World) : Calls Try.prog 48 #[.pointer none, k] w fun e w' => e = .returned (.pointer none) ∧ w = w' := by
  go_enter Try.func48, Try.ntmps48
  go_wp2_with fail
  go_ret
  exact ⟨rfl, rfl⟩
theorem tlen_any (h : Tb w T m cap xs) : Calls Try.prog 41 #[tP T] w fun e w' => e = .returned (.int .i64 (xs.length : Int)) ∧ w = w' := by
  have hl := h.len' 3
  have c1 := h.c1
  clear h
  go_enter Try.func41, Try.ntmps41
  go_wp2_with fail
  go_ret
  exact ⟨rfl, rfl⟩
theorem tlen_nil (w : World) : Calls Try.prog 41 #[.pointer none] w fun e w' => e = .returned (.int .i64 0) ∧ w = w' := by
  go_enter Try.func41, Try.ntmps41
  go_wp2_with fail
  go_ret
  exact ⟨rfl, rfl⟩
theorem room_any (h : Tb w T m cap xs) : Calls Try.prog 62 #[tP T] w fun e w' => e = .returned (.int .i64 ((cap : Int) - (xs.length : Int))) ∧ Below w.heap.size w w' := by
  have hl : ∀ n, (Builtin.len_ #[97] 3 #[.map (some m)]).run Try.prog (w.drewN n) = .ok (.int .i64 (xs.length : Int)) (w.drewN n) := by
    intro n
    obtain ⟨D, hD, hI⟩ := h.map
    have h2 : (w.drewN n).ownsMap Try.prog 9 pR m 100000 D := hD.kept (grown_drewN (World.grownBy.refl w none) n) (by simp)
    rw [h2.len Try.underlying97 _, hI.size]
  have c0 := h.c0
  have c1 := h.c1
  have hc := h.cap
  have hn := h.cnt
  clear h
  go_enter Try.func62, Try.ntmps62
  go_wp2_with fail
  go_quiet (fail)
  go_wp2_with fail
  go_ret
  exact ⟨rfl, below_drewN (Below.refl _ _) _⟩
theorem room_nil (w : World) : Calls Try.prog 62 #[.pointer none] w fun e w' => e = .returned (.int .i64 0) ∧ w = w' := by
  go_enter Try.func62, Try.ntmps62
  go_wp2_with fail
  go_ret
  exact ⟨rfl, rfl⟩
theorem full_any (h : Tb w T m cap xs) : Calls Try.prog 53 #[tP T] w fun e w' => e = .returned (.bool (xs.length == cap)) ∧ Below w.heap.size w w' := by
  have HC := Lib.hid (room_any h)
  have hn := h.cnt
  have hb : (((cap : Int) - (xs.length : Int)) == 0) = (xs.length == cap) := by
    by_cases e : xs.length = cap
    · rw [e]; simp
    · have e1 : (xs.length == cap) = false := by rw [beq_eq_false_iff_ne]; exact e
      rw [e1, beq_eq_false_iff_ne]; omega
  have HB := Lib.hid hb
  clear hb h
  go_enter Try.func53, Try.ntmps53
  go_wp2_with fail
  refine HC.out.mono ?_
  rintro e w1 ⟨rfl, hB⟩
  have HB1 := Lib.hid hB; clear hB HC
  go_wp2_with fail
  go_ret
  exact ⟨by rw [← HB.out]; rfl, HB1.out⟩
theorem full_nil (w : World) : Calls Try.prog 53 #[.pointer none] w fun e w' => e = .returned (.bool false) ∧ w = w' := by
  go_enter Try.func53, Try.ntmps53
  go_wp2_with fail
  go_ret
  exact ⟨rfl, rfl⟩
end
end Go.Proofs.Ythpgdojjecdlcaa
