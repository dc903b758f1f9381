/- name.Escape. -/
import Derived.Test.YtpphccjpdkcnmaaDoorStrT
import Derived.Test.YtpphccjpdkcnmaaDoorEscL
import Derived.Test.YtpphccjpdkcnmaaDoorShelf
namespace Go.Proofs.YtpphccjpdkcnmaaDoor
open Go.RowKit
/-- A world in which the library's search can look: the one variable that it reads holds a number. -/
def Looks (w : World) : Prop := ∃ m, w.cell? ⟨2, 0, none⟩ = some (.int .i64 m)
theorem Looks.below {w w' : World} (h : Looks w) (hb : Below w.heap.size w w') : Looks w' := by
  obtain ⟨m, h⟩ := h
  exact ⟨m, (hb.cell (p := ⟨2, 0, none⟩) (World.block_lt_of_cell? w _ h)).trans h⟩
theorem replace_any (s old new : List UInt8) (w : World) (hs : s.length ≤ 2000) (ho : 1 ≤ old.length) (hne : (old == new) = false) (hn : new.length ≤ 10) (h : Looks w) :
    Calls Tryd.prog 39 #[str s, str old, str new] w fun e w' => e = .returned (str (rA old new s)) ∧ Below w.heap.size w w' := by
  obtain ⟨m, hm⟩ := h
  have hc := Lib.count_le s old
  have hc2 : Lib.count s old * new.length ≤ (s.length + 1) * 10 := Nat.mul_le_mul hc hn
  have hc3 : (s.length + 1) * 10 ≤ 2001 * 10 := Nat.mul_le_mul (by omega) (Nat.le_refl _)
  have := Tryd.strings_ReplaceAll ⟨s.toArray⟩ ⟨old.toArray⟩ ⟨new.toArray⟩ m w (by simp [ByteArray.size]; omega) hm (by simpa [ByteArray.size] using ho) (by
    have e : Lib.countB ⟨s.toArray⟩ ⟨old.toArray⟩ = Lib.count s old := by unfold Lib.countB; simp
    rw [e]; simp only [ByteArray.size, List.size_toArray]; omega)
  simp only [] at this
  rw [rA_all hne] at this
  exact this
theorem escape_any (s : List UInt8) (w : World) (hs : s.length ≤ 600) (h : Looks w) :
    Calls Tryd.prog 26 #[str s] w fun e w' => e = .returned (str (escL s)) ∧ Below w.heap.size w w' := by
  have H := Lib.hid h; clear h
  have hl := rA_one_len 61 61 51 68 s
  have he := esc_two s
  obtain ⟨x, hx⟩ : ∃ x, x = rA [61] [61, 51, 68] s := ⟨_, rfl⟩
  have r1 := fun W h => replace_any s [61] [61, 51, 68] W (by omega) (by decide) (by decide) (by decide) h
  rw [← hx] at hl he r1
  have R1 := Lib.hid r1; clear r1
  have HE := Lib.hid he; clear he hx
  go_enter Tryd.func26, Tryd.ntmps26
  go_wp2_with fail
  refine (R1.out w H.out).mono ?_
  rintro e w1 ⟨rfl, hB1⟩
  have HB1 := Lib.hid hB1; clear hB1
  go_wp2_with fail
  refine (replace_any x [44] [61, 50, 67] w1 (by omega) (by decide) (by decide) (by decide) (H.out.below HB1.out)).mono ?_
  rintro e w2 ⟨rfl, hB2⟩
  rw [HE.out]
  have HB2 := Lib.hid (HB1.out.trans (hB2.mono HB1.out.size)); clear hB2
  go_wp2_with fail
  go_ret
  exact ⟨rfl, HB2.out⟩
end Go.Proofs.YtpphccjpdkcnmaaDoor
