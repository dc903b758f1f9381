/- The reference of table: Renew. -/
import Derived.Test.YtipgjpmaflcpkaaTeRef2
import Derived.Deep.RegionLaw
set_option maxRecDepth 100000
namespace Go.Proofs.Ytipgjpmaflcpkaa
open Go.RowKit
theorem ES.one2 (w : World) (o : Obj) (k : List UInt8) (v : Int) : ES ((w.alloc o).alloc (.cells #[strT k, .int .i64 v] tR)) (w.heap.size + 2) (.slice (some ⟨w.heap.size + 1, 0, none⟩) 1 1) [(k, v)] := by
  have := ES.one (w.alloc o) k v
  simpa only [World.size_alloc] using this
section
variable {w w1 w' : World} {base X : Nat} {room : Int} {l : PL}
set_option maxHeartbeats 2000000 in
theorem renew_X (h : XR w base X room l) (k : List UInt8) (hl : l.length ≤ 4096) (hbase : base ≤ w.heap.size) :
    Calls Try.prog 18 #[tP X, strT k] w fun e w' => e = .returned (.int .i64 (if fiL l k < l.length then 0 else 6)) ∧
      XR w' base X room (if h : fiL l k < l.length then l.take (fiL l k) ++ l.drop (fiL l k + 1) ++ [l[fiL l k]] else l) ∧ Trn [X] w w' := by
  have HF := Lib.hid (find_X h k hl)
  have HX := Lib.hid h
  by_cases hf : fiL l k < l.length
  · rw [if_pos hf, dif_pos hf]
    rw [if_pos hf] at HF
    obtain ⟨i, hi, hil, q, hq⟩ : ∃ i, fiL l k = i ∧ ∃ h : i < l.length, ∃ q, l[i] = q := ⟨_, rfl, hf, _, rfl⟩
    simp only [hi] at HF ⊢
    rw [hq]
    clear h hf hi
    have hi1 : (i : Int) < (l.length : Int) := by omega
    obtain ⟨M, hM⟩ : ∃ M : PL, M = l.take i ++ l.drop (i + 1) := ⟨_, rfl⟩
    have hMl : M.length ≤ 4096 := by rw [hM, List.length_append, List.length_take, List.length_drop]; omega
    rw [← hM]
    go_enter Try.func18, Try.ntmps18
    go_wp2_with fail
    refine HF.out.mono ?_
    rintro e w1 ⟨rfl, hb⟩
    have hx := HX.out.below hb
    obtain ⟨vv0, hX, hE⟩ := hx
    have hwo : ∀ W, Below w1.heap.size w1 W → _ := fun W hW => without_any (hE.es.below hW (Nat.le_refl _)) hW.size i hil hl
    rw [← hM] at hwo
    have hes := hE.es
    obtain ⟨A, c, rfl, h1, h2, _, _, hgf⟩ := hE.parts
    obtain ⟨g, rfl⟩ := hgf (by omega)
    obtain ⟨e1, e2, hgl⟩ := hes.cell i hil
    rw [hq, Nat.zero_add] at e1 e2
    obtain ⟨qk, qv⟩ := q
    simp only at e1 e2
    have c1 : w1.cell? ⟨X, 1, none⟩ = some (.slice (some ⟨g, 0, none⟩) l.length c) := hX.at rfl
    have HB := Lib.hid hb
    have HX1 := Lib.hid hX
    have HW := Lib.hid hwo
    clear hb HF hX hE hwo hM hes hgf
    have HK : Hid (∀ W, Below w1.heap.size w1 W → W.cell? ⟨X, 1, none⟩ = some (.slice (some ⟨g, 0, none⟩) l.length c) ∧ W.cell? ⟨g, i * 2, none⟩ = some (strT qk) ∧ W.cell? ⟨g, i * 2 + 1, none⟩ = some (.int .i64 qv)) := Lib.hid fun W hW =>
      ⟨(HX1.out.below hW HX1.out.lt).at rfl, (hW.cell (p := ⟨g, i * 2, none⟩) hgl).trans e1, (hW.cell (p := ⟨g, i * 2 + 1, none⟩) hgl).trans e2⟩
    go_wp2_with fail
    obtain ⟨k1, k2, k3⟩ := HK.out _ (Below.refl _ w1).drew
    obtain ⟨j1, j2, j3⟩ := HK.out (w1.alloc (.cells #[strT qk, .int .i64 qv] tR)) ((Below.refl _ w1).alloc (Nat.le_refl _) _)
    go_region_law
      (first
        | (go_simp; go_at_call 35; refine (HW.out _ (by first | exact (Below.refl _ w1).drew | exact (Below.refl _ w1).drew.alloc (Nat.le_refl _) _)).mono ?_; rintro e w2 ⟨v2, rfl, hv2, hb2⟩
           have HB2 : Hid (Below w1.heap.size w1 w2) := Lib.hid (by first | exact (Below.refl _ w1).drew.trans (hb2.mono (by simp)) | exact ((Below.refl _ w1).drew.alloc (Nat.le_refl _) _).trans (hb2.mono (by simp)))
           have HV2 := Lib.hid hv2; clear hv2; obtain ⟨m1, m2, m3⟩ := HK.out _ HB2.out)
        | ((refine step_app_es rfl (.tmp 17) (.tmp 25) rfl w1.heap.size v2 M [(qk, qv)] (by go_simp) (by exact (HV2.out.lower (by simp)).below ((Below.refl _ _).alloc (Nat.le_refl _) _)) (w2.heap.size + 1) (.slice (some ⟨w2.heap.size, 0, none⟩) 1 1) (by go_simp) (by exact ES.one w2 qk qv) (by simp; omega) (by have := HB2.out.size; simp; omega) ?_; intro v3 w3 hv3 hg3; have HB3 := Lib.hid ((HB2.out.alloc HB2.out.size _).trans (ER.belowBase (ER.below (HV2.out.lower (by simp)) ((Below.refl _ _).alloc (Nat.le_refl _) _)) hg3 (by have := HB2.out.size; simp; omega))); have hps := hv3.parts; have HV3 := Lib.hid hv3; clear hv3 hg3; obtain ⟨A2, cp2, e3, _⟩ := hps; rw [List.length_append] at e3; subst e3; have c4 := (HX1.out.below HB3.out HX1.out.lt).at (o := 1) rfl; have f4 := (HX1.out.below HB3.out HX1.out.lt).free 1))
        | ((refine step_app_es rfl (.tmp 17) (.tmp 25) rfl w1.heap.size v2 M [(qk, qv)] (by go_simp) (by exact HV2.out.lower (by simp)) (w1.heap.size + 1) (.slice (some ⟨w1.heap.size, 0, none⟩) 1 1) (by go_simp) (by exact (ES.one w1.drew qk qv).below hb2 (by simp)) (by simp; omega) HB2.out.size ?_; intro v3 w3 hv3 hg3; have HB3 := Lib.hid (HB2.out.trans (ER.belowBase (HV2.out.lower (by simp)) hg3 HB2.out.size)); have hps := hv3.parts; have HV3 := Lib.hid hv3; clear hv3 hg3; obtain ⟨A2, cp2, e3, _⟩ := hps; rw [List.length_append] at e3; subst e3; have c4 := (HX1.out.below HB3.out HX1.out.lt).at (o := 1) rfl; have f4 := (HX1.out.below HB3.out HX1.out.lt).free 1)))
    all_goals
      go_wp2_with fail
      go_ret
      have hst := XR.store HX1.out HB3.out HV3.out (Nat.le_trans hbase HB.out.size)
      exact ⟨rfl, hst.1, (Trn.of_below HB.out).trans hst.2⟩
  · rw [if_neg hf, dif_neg hf]
    rw [if_neg hf] at HF
    clear h
    go_enter Try.func18, Try.ntmps18
    go_wp2_with fail
    refine HF.out.mono ?_
    rintro e w1 ⟨rfl, hb⟩
    have HB := Lib.hid hb; clear hb HF
    go_wp2_with fail
    go_ret
    exact ⟨rfl, HX.out.below HB.out, Trn.of_below HB.out⟩
end
end Go.Proofs.Ytipgjpmaflcpkaa
