/- name.Escape and name.Unescape. -/
import Derived.Test.YtgcjaaocdhlegaaDoorStrT
import Derived.Test.YtgcjaaocdhlegaaDoorEscL
import Derived.Test.YtgcjaaocdhlegaaDoorShelf
namespace Go.Proofs.YtgcjaaocdhlegaaDoor
open Go.RowKit
/-- A world in which the library's search can look: the one variable that it reads holds a number. -/
def Looks (w : World) : Prop := ∃ m, w.cell? ⟨2, 0, none⟩ = some (.int .i64 m)
theorem Looks.below {w w' : World} (h : Looks w) (hb : Below w.heap.size w w') : Looks w' := by
  obtain ⟨m, h⟩ := h
  exact ⟨m, (hb.cell (p := ⟨2, 0, none⟩) (World.block_lt_of_cell? w _ h)).trans h⟩
theorem replace_any (s old new : List UInt8) (w : World) (hs : s.length ≤ 2000) (ho : 1 ≤ old.length) (hne : (old == new) = false) (hn : new.length ≤ 10) (h : Looks w) :
    Calls Tryd.prog 43 #[str s, str old, str new] w fun e w' => e = .returned (str (rA old new s)) ∧ Below w.heap.size w w' := by
  obtain ⟨m, hm⟩ := h
  have hc := Lib.count_le s old
  have hc2 : Lib.count s old * new.length ≤ (s.length + 1) * 10 := Nat.mul_le_mul hc hn
  have hc3 : (s.length + 1) * 10 ≤ 2001 * 10 := Nat.mul_le_mul (by omega) (Nat.le_refl _)
  have := Tryd.strings_ReplaceAll ⟨s.toArray⟩ ⟨old.toArray⟩ ⟨new.toArray⟩ m w (by simp [ByteArray.size]; omega) hm (by simpa [ByteArray.size] using ho) (by
    have e : Lib.countB ⟨s.toArray⟩ ⟨old.toArray⟩ = Lib.count s old := by unfold Lib.countB; simp
    rw [e]; simp only [ByteArray.size, List.size_toArray]; omega)
  simp only [] at this
  rw [rA_all hne] at this
  exact this
theorem escape_any (s : List UInt8) (w : World) (hs : s.length ≤ 600) (h : Looks w) :
    Calls Tryd.prog 27 #[str s] w fun e w' => e = .returned (str (escL s)) ∧ Below w.heap.size w w' := by
  have H := Lib.hid h; clear h
  have hl := rA_one_len 61 61 51 68 s
  have he := esc_two s
  obtain ⟨x, hx⟩ : ∃ x, x = rA [61] [61, 51, 68] s := ⟨_, rfl⟩
  have r1 := fun W h => replace_any s [61] [61, 51, 68] W (by omega) (by decide) (by decide) (by decide) h
  rw [← hx] at hl he r1
  have R1 := Lib.hid r1; clear r1
  have HE := Lib.hid he; clear he hx
  go_enter Tryd.func27, Tryd.ntmps27
  go_wp2_with fail
  refine (R1.out w H.out).mono ?_
  rintro e w1 ⟨rfl, hB1⟩
  have HB1 := Lib.hid hB1; clear hB1
  go_wp2_with fail
  refine (replace_any x [44] [61, 50, 67] w1 (by omega) (by decide) (by decide) (by decide) (H.out.below HB1.out)).mono ?_
  rintro e w2 ⟨rfl, hB2⟩
  rw [HE.out]
  have HB2 := Lib.hid (HB1.out.trans (hB2.mono HB1.out.size)); clear hB2
  go_wp2_with fail
  go_ret
  exact ⟨rfl, HB2.out⟩
theorem count_any (s sub : List UInt8) (w : World) (hs : s.length ≤ 2000) (h2 : 2 ≤ sub.length) (h : Looks w) :
    Calls Tryd.prog 44 #[str s, str sub] w fun e w' => e = .returned (.int .i64 ((Lib.count s sub : Nat) : Int)) ∧ w = w' := by
  obtain ⟨m, hm⟩ := h
  have := Tryd.strings_Count ⟨s.toArray⟩ ⟨sub.toArray⟩ m w (by simp [ByteArray.size]; omega) hm (by simpa [ByteArray.size] using h2)
  exact this.mono fun e w' ⟨h1, h2⟩ => ⟨h1, h2.symm⟩
theorem count1_any (s : List UInt8) (c : UInt8) (w : World) :
    Calls Tryd.prog 44 #[str s, str [c]] w fun e w' => e = .returned (.int .i64 ((Lib.count s [c] : Nat) : Int)) ∧ w = w' := by
  have := Tryd.strings_Count_one ⟨s.toArray⟩ c w
  exact this.mono fun e w' ⟨h1, h2⟩ => ⟨by rw [h1, Lib.count_one]; rfl, h2.symm⟩
theorem contains_any (s sub : List UInt8) (w : World) (hs : s.length ≤ 2000) (h : Looks w) :
    Calls Tryd.prog 45 #[str s, str sub] w fun e w' => e = .returned (.bool (Lib.contains s sub)) ∧ w = w' := by
  obtain ⟨m, hm⟩ := h
  have := Tryd.strings_Contains ⟨s.toArray⟩ ⟨sub.toArray⟩ m w (by simp [ByteArray.size]; omega) hm
  exact this.mono fun e w' ⟨h1, h2⟩ => ⟨h1, h2.symm⟩
/-- What Unescape tells. -/
def unR (s : List UInt8) : List UInt8 × Int := match unL s with
  | none => ([], 4)
  | some r => if s.contains 44 = true then ([], 5) else (r, 0)
set_option maxRecDepth 100000 in
set_option maxHeartbeats 1000000 in
theorem unescape_any (s : List UInt8) (w : World) (hs : s.length ≤ 600) (h : Looks w) :
    Calls Tryd.prog 28 #[str s] w fun e w' => e = .returned (.tuple #[str (unR s).1, .int .i64 (unR s).2]) ∧ Below w.heap.size w w' := by
  have H := Lib.hid h; clear h
  obtain ⟨hu1, hu2⟩ := un_count s.length s (Nat.le_refl _)
  have b0 := Lib.count_le s [61]
  have q1 := fun W h => count_any s [61, 50, 67] W (by omega) (by decide) h
  have q2 := fun W h => count_any s [61, 51, 68] W (by omega) (by decide) h
  have q3 := fun W => count1_any s 61 W
  have q4 := fun W h => contains_any s [44] W (by omega) h
  have q5 := fun W h => replace_any s [61, 50, 67] [44] W (by omega) (by decide) (by decide) (by decide) h
  have l5 := rA_shrink [61, 50, 67] [44] (by decide) (by decide) _ s (Nat.le_refl _)
  have u2 := un_two s.length s
  rw [has_comma] at q4
  obtain ⟨n1, hn1⟩ : ∃ n, n = Lib.count s [61, 50, 67] := ⟨_, rfl⟩
  obtain ⟨n2, hn2⟩ : ∃ n, n = Lib.count s [61, 51, 68] := ⟨_, rfl⟩
  obtain ⟨n3, hn3⟩ : ∃ n, n = Lib.count s [61] := ⟨_, rfl⟩
  obtain ⟨x, hx⟩ : ∃ x, x = rA [61, 50, 67] [44] s := ⟨_, rfl⟩
  rw [← hn1] at q1 hu1 hu2
  rw [← hn2] at q2 hu1 hu2
  rw [← hn3] at q3 hu1 hu2 b0
  rw [← hx] at q5 l5 u2
  have Q1 := Lib.hid q1; clear q1
  have Q2 := Lib.hid q2; clear q2
  have Q3 := Lib.hid q3; clear q3
  have Q4 := Lib.hid q4; clear q4
  have Q5 := Lib.hid q5; clear q5
  have U2 := Lib.hid u2; clear u2
  clear hn1 hn2 hn3 hx
  cases hr : unL s with
  | none =>
    have hne : n3 ≠ n1 + n2 := fun e => by have := hu2.2 e; rw [hr] at this; cases this
    have hne2 : ¬ ((n3 : Int) = (n1 : Int) + (n2 : Int)) := by omega
    have hun : unR s = ([], 4) := by unfold unR; rw [hr]
    rw [hun]
    clear hun hr hu2 U2
    go_enter Tryd.func28, Tryd.ntmps28
    go_wp2_with fail
    refine (Q1.out w H.out).mono ?_
    rintro e w1 ⟨rfl, rfl⟩
    go_wp2_with fail
    refine (Q2.out w H.out).mono ?_
    rintro e w1 ⟨rfl, rfl⟩
    go_wp2_with fail
    refine (Q3.out w).mono ?_
    rintro e w1 ⟨rfl, rfl⟩
    go_wp2_with fail
    go_ret2
    exact ⟨rfl, Below.refl _ _⟩
  | some r =>
    have heq : n3 = n1 + n2 := hu2.1 (by rw [hr]; rfl)
    have heq2 : (n3 : Int) = (n1 : Int) + (n2 : Int) := by omega
    have hU := U2.out r (Nat.le_refl _) hr
    have HU := Lib.hid hU; clear hU U2
    cases hc : s.contains 44 with
    | true =>
      have hun : unR s = ([], 5) := by unfold unR; rw [hr]; simp only [hc, if_true]
      rw [hun]
      clear hun hr hu2
      have HC := Lib.hid hc; clear hc
      go_enter Tryd.func28, Tryd.ntmps28
      go_wp2_with fail
      refine (Q1.out w H.out).mono ?_
      rintro e w1 ⟨rfl, rfl⟩
      go_wp2_with fail
      refine (Q2.out w H.out).mono ?_
      rintro e w1 ⟨rfl, rfl⟩
      go_wp2_with fail
      refine (Q3.out w).mono ?_
      rintro e w1 ⟨rfl, rfl⟩
      go_wp2_with fail
      refine (Q4.out w H.out).mono ?_
      rintro e w1 ⟨rfl, rfl⟩
      rw [HC.out]
      go_wp2_with fail
      go_ret2
      exact ⟨rfl, Below.refl _ _⟩
    | false =>
      have hun : unR s = (r, 0) := by unfold unR; rw [hr]; simp only [hc, Bool.false_eq_true, if_false]
      rw [hun]
      clear hun hr hu2
      have HC := Lib.hid hc; clear hc
      go_enter Tryd.func28, Tryd.ntmps28
      go_wp2_with fail
      refine (Q1.out w H.out).mono ?_
      rintro e w1 ⟨rfl, rfl⟩
      go_wp2_with fail
      refine (Q2.out w H.out).mono ?_
      rintro e w1 ⟨rfl, rfl⟩
      go_wp2_with fail
      refine (Q3.out w).mono ?_
      rintro e w1 ⟨rfl, rfl⟩
      go_wp2_with fail
      refine (Q4.out w H.out).mono ?_
      rintro e w1 ⟨rfl, rfl⟩
      rw [HC.out]
      go_wp2_with fail
      refine (Q5.out w H.out).mono ?_
      rintro e w1 ⟨rfl, hB1⟩
      have HB1 := Lib.hid hB1; clear hB1
      go_wp2_with fail
      refine (replace_any x [61, 51, 68] [61] w1 (by omega) (by decide) (by decide) (by decide) (H.out.below HB1.out)).mono ?_
      rintro e w2 ⟨rfl, hB2⟩
      rw [HU.out]
      have HB2 := Lib.hid (HB1.out.trans (hB2.mono HB1.out.size)); clear hB2
      go_wp2_with fail
      go_ret2
      exact ⟨rfl, HB2.out⟩
end Go.Proofs.YtgcjaaocdhlegaaDoor
