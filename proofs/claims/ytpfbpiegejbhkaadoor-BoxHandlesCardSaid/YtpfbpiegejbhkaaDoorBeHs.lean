/- (*Box).Hash of a symbolic box. -/
import Derived.Test.YtpfbpiegejbhkaaDoorBeJn
set_option maxRecDepth 100000
namespace Go.Proofs.YtpfbpiegejbhkaaDoor
open Go.RowKit
attribute [local go_sem] Oper.semAt_some
theorem EnR.lift {w w1 w' : World} {base b m : Nat} {rv : Value} {sym full : Bool} {tag : List UInt8} {es : List EnL} {r : Ending} (hb : Below w.heap.size w w1) (h : EnR w1 base b m rv sym tag full es r w') : EnR w base b m rv sym tag full es r w' := by
  obtain ⟨v, rv', h1, h2, h3, h4, h5, h6⟩ := h
  have hz := hb.size
  refine ⟨v, rv', h1, h2.lower hz, h3, (Trs.of_below hb).trans h4, ?_, h6⟩
  rcases h5 with h | h | ⟨k, h, hk⟩
  · exact .inl h
  · exact .inr (.inl h)
  · exact .inr (.inr ⟨k, h, by omega⟩)
def hashE (l : List UInt8) : EnL := ⟨1, [], l, 0, [], []⟩
theorem hash_any {w : World} {base b m B : Nat} {rv v : Value} {full : Bool} {es : List EnL} {ls : List (List UInt8)} (h : BX w base b m rv true full es) (hv : Sls w B v ls) (hn : ls.length ≤ 100000) (hl : Lib.lens ls ≤ 100000) (hB : base ≤ w.heap.size) :
    Calls Tryd.prog 15 #[tP b, v] w (EnR w base b m rv true (tagE es (hashE ls.flatten)) (fullE full es (hashE ls.flatten)) (esE es (hashE ls.flatten))) := by
  have HJ := Lib.hid (join_any hv hn (by omega))
  have hlen : ls.flatten.length ≤ 100000 := by rw [List.length_flatten]; exact hl
  obtain ⟨L, hL⟩ : ∃ L, L = ls.flatten := ⟨_, rfl⟩
  rw [← hL] at HJ hlen ⊢
  clear hL
  have k0 := h.blk.at (o := 0) rfl
  have HX := Lib.hid h
  clear h
  obtain ⟨A, c, rfl, _⟩ := hv
  go_enter Tryd.func15, Tryd.ntmps15
  go_wp2_with fail
  refine HJ.out.mono ?_
  rintro e w1 ⟨rfl, hJ⟩
  have HB1 := Lib.hid hJ
  have HX1 := Lib.hid (HX.out.below hJ)
  have hz := hJ.size
  clear hJ
  have he : OkE (hashE L) := ⟨by simp [hashE], by simp [hashE], by simp [hashE], by simp [hashE], by simp [hashE], by show L.length ≤ 1000000; omega, by simp [hashE], by simp [hashE]⟩
  have HE := Lib.hid (enter_any (hashE L) HX1.out he (by omega))
  clear he
  go_wp2_with fail
  refine (HE.out).mono ?_
  intro e w2 hR
  have HR := Lib.hid (hR.lift HB1.out)
  obtain ⟨v', rv', rfl, _⟩ := hR
  go_wp2_with fail
  go_ret
  exact HR.out
end Go.Proofs.YtpfbpiegejbhkaaDoor
