/- name: the law's same: two lists of signs, alike; name.Valid. -/
import Derived.Test.YtpphccjpdkcnmaaDoorNmRefPrep
import Derived.Test.YtpphccjpdkcnmaaDoorShelf2
import Derived.Shelf.Unicode.ValidAny
import Derived.StillTailTactics
namespace Go.Proofs.YtpphccjpdkcnmaaDoor
open Go.RowKit Go.Shelf
set_option maxRecDepth 100000 in
set_option maxHeartbeats 1000000 in
theorem sameSg_any (v u : Value) (xs : List (Nat × Int)) (w : World) (hv : SgIn w v xs) (hu : SgIn w u xs) (hl : xs.length ≤ 1000) :
    Calls Tryd.prog 11 #[v, u] w fun e w' => e = .returned (.bool true) ∧ Below w.heap.size w w' := by
  have HV := Lib.hid hv
  have HU := Lib.hid hu
  obtain ⟨A, c, rfl, _⟩ := hv
  obtain ⟨A2, c2, rfl, _⟩ := hu
  go_enter Tryd.func11, Tryd.ntmps11
  go_wp2_with fail
  go_loopw [13] (fun i wr => ∃ k : Nat, k ≤ xs.length ∧ i = .int .i64 (k : Int) ∧ Below w.heap.size w wr) (fun i _ => xs.length - (intOf i).toNat)
  case atStart => exact ⟨0, by omega, rfl, Below.refl _ _⟩
  case round =>
    obtain ⟨k, hk, rfl, hb⟩ := hrel
    by_cases hlt : k < xs.length
    · obtain ⟨A', c', he, hin⟩ := HV.out.below hb
      injection he with he1 he2 he3
      subst he1 he3
      obtain ⟨g, rfl, c0, c1⟩ := hin k hlt
      obtain ⟨A', c', he, hin'⟩ := HU.out.below hb
      injection he with he1 he2' he3
      subst he1 he3
      obtain ⟨g2, rfl, d0, d1⟩ := hin' k hlt
      rw [Nat.zero_add] at c0 c1 d0 d1
      clear hin hin' he2 he2'
      obtain ⟨x, hx⟩ : ∃ x, x = xs[k] := ⟨_, rfl⟩
      rw [← hx] at c0 c1 d0 d1
      clear hx
      obtain ⟨q, r⟩ := x
      simp only at c0 c1 d0 d1
      have HB := Lib.hid hb
      go_wp2_with fail
      go_quiet (fail)
      go_wp2_with fail
      go_roundw
      case rel => exact ⟨k + 1, by omega, by go_num, below_drewN HB.out _⟩
      case measure => simp [intOf]; omega
    · obtain rfl : k = xs.length := by omega
      have HB := Lib.hid hb
      go_wp2_with fail
      go_ret
      exact ⟨rfl, HB.out⟩
theorem valid_sg (l : List UInt8) : Lib.validD l = (sg l).all (fun r => r != -1) := by
  have key : ∀ (n : Nat) (l : List UInt8), l.length ≤ n → Lib.validD l = (sg l).all (fun r => r != -1) := by
    intro n
    induction n with
    | zero =>
      intro l hl
      have : l = [] := List.eq_nil_of_length_eq_zero (by omega)
      subst this
      rfl
    | succ n ih =>
      intro l hl
      by_cases h : l = []
      · subst h; rfl
      · have hl0 : 0 < l.length := List.length_pos_iff.2 h
        have hp := dec1_pos l hl0
        rw [Lib.validD_step l h, sg_step l h, List.all_cons, dec1_L l h] at *
        by_cases hb : (Lib.decodeL l).1 = 65533 ∧ (Lib.decodeL l).2 = 1
        · rw [if_pos hb]
          have : sg1 (Lib.decodeL l) = -1 := if_pos hb
          rw [this]; rfl
        · rw [if_neg hb]
          have : sg1 (Lib.decodeL l) = ((Lib.decodeL l).1 : Int) := if_neg hb
          have e : (sg1 (Lib.decodeL l) != -1) = true := by rw [this, bne_iff_ne]; omega
          rw [e, Bool.true_and]
          exact ih _ (by rw [List.length_drop]; omega)
  exact key l.length l (Nat.le_refl _)
theorem valid_any (l : List UInt8) (w : World) (hl : l.length ≤ 600) (hT : Lib.Utf8Tabs 0 1 w) :
    Calls Tryd.prog 13 #[str l] w fun e w' => e = .returned (.bool (Lib.validD l)) ∧ Below w.heap.size w w' := by
  have HC := Lib.hid (Any.utf8_ValidString Tryd.lays196 ⟨l.toArray⟩ w (by simp [ByteArray.size]; omega) hT)
  obtain ⟨V, hV⟩ : ∃ V, V = Lib.validD l := ⟨_, rfl⟩
  simp only [] at HC
  rw [← hV] at HC ⊢
  clear hV
  go_enter Tryd.func13, Tryd.ntmps13
  go_wp2_with fail
  refine HC.out.mono ?_
  rintro e w1 ⟨rfl, hB⟩
  have HB := Lib.hid hB; clear hB HC
  go_wp2_with fail
  go_ret
  exact ⟨rfl, HB.out⟩
end Go.Proofs.YtpphccjpdkcnmaaDoor
