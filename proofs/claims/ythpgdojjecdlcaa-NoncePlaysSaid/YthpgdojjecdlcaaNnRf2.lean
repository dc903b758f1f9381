/- The reference of nonce: Spend, Use. One byte of a row of the call's own. The reference's Bytes (RefBytes over Be): a number's bytes, the highest first. The reference of nonce: Issue. -/
import Derived.Test.YthpgdojjecdlcaaNnRf
import Derived.Test.YthpgdojjecdlcaaSl
import Derived.Test.YthpgdojjecdlcaaBe
import Derived.Deep.DeepCutAuto
import Derived.StillTailTactics
set_option maxRecDepth 100000
namespace Go.Proofs.Ythpgdojjecdlcaa
open Go.RowKit Go.Shelf
section
variable {w w1 w' : World} {base X K : Nat} {f f' : NF} {l l' : PL} {v0 : Value}
set_option maxHeartbeats 2000000 in
theorem rspend_X (h : XR w base X K f l) (s : List UInt8) (now : Int) (n0 : 0 ≤ now) (n1 : now < 18446744073709551616) (hl : l.length ≤ 4096) (hok : okL l) (hwf : WF l) (hwd : 0 ≤ f.wd) (hbase : base ≤ w.heap.size) :
    Calls Try.prog 24 #[tP X, strT s, u64v now] w fun e w' => e = .returned (.int .i64 (spN f l s now).1) ∧ XR w' base X K f (spN f l s now).2 ∧ Trn [X] w w' := by
  have HF := Lib.hid (rfind_X h s now n0 n1 hl hok hwf hwd)
  have HX := Lib.hid h
  unfold spN
  rcases fiN_cases f l s now with ⟨c, hf, hc⟩ | ⟨⟨es, ea, esp, ect⟩, hf, hg, he, hn, hgo⟩
  · rw [hf] at HF ⊢
    have hri : riN f l s now = 0 := by unfold riN; rw [hf]; rcases hc with rfl | rfl <;> rfl
    rw [hri] at HF
    simp only at HF ⊢
    clear h hf hri
    rcases hc with rfl | rfl
    all_goals
      go_enter Try.func24, Try.ntmps24
      go_wp2_with fail
      refine HF.out.mono ?_
      rintro e w1 ⟨rfl, hb⟩
      have HB := Lib.hid hb
      clear hb HF
      go_wp2_with fail
      go_ret
      exact ⟨rfl, HX.out.below HB.out, Trn.of_below HB.out⟩
  · have hfx : fiX l s < l.length := by
      rcases Nat.lt_or_ge (fiX l s) l.length with h | h
      · exact h
      · rw [fiN_miss (by omega)] at hf; cases hf
    have hri : riN f l s now = (fiX l s : Int) := by unfold riN; rw [hf]; rfl
    obtain ⟨hk1, hk2⟩ := fiN_hit (f := f) (now := now) hwf hfx
    have hk3 : l[fiX l s].2 = ⟨es, ea, esp, ect⟩ := by
      rw [hf] at hk2
      split at hk2
      · cases hk2
      · simp only [Prod.mk.injEq, Option.some.injEq, and_true] at hk2; exact hk2.symm
    have hct := hwf.ct _ (List.getElem_mem hfx)
    rw [hk3] at hct
    simp only at hct
    have hset : ∀ v' : VT, setL l (drL s) v' = (0, l.set (fiX l s) (drL s, v')) := fun v' => setL_set hwf.kn (fiX l s) hfx hk1
    rw [hf] at HF ⊢
    rw [hri] at HF
    simp only at HF ⊢
    obtain ⟨v, hX, hE⟩ := h
    have hq : l[fiX l s] = (drL s, ⟨es, ea, esp, ect⟩) := Prod.ext hk1 hk3
    obtain ⟨i, hi⟩ : ∃ i, i = fiX l s := ⟨_, rfl⟩
    obtain ⟨k, hkk⟩ : ∃ k, k = drL s := ⟨_, rfl⟩
    rw [← hi] at HF hfx
    rw [← hi, ← hkk] at hset
    have hq2 : ∀ h : i < l.length, l[i]'h = (k, ⟨es, ea, esp, ect⟩) := fun h => by simp only [hi, hkk]; exact hq
    have HQ := Lib.hid hq2
    have HSET := Lib.hid hset
    obtain ⟨A, c, rfl, h1, h2, _, _⟩ := hE.parts
    have HES := Lib.hid hE.es
    have HX0 := Lib.hid hX
    have hi1 : (i : Int) < (l.length : Int) := by omega
    rw [← hkk]
    rw [hset]
    clear hf hg he hn hgo hri hk1 hk2 hk3 hset hi hkk hq hq2 hX hE
    cases esp with
    | true =>
      rw [if_pos (.inl rfl)]
      go_enter Try.func24, Try.ntmps24
      go_wp2_with fail
      refine HF.out.mono ?_
      rintro e w1 ⟨rfl, hb⟩
      have HB := Lib.hid hb
      have c2 : w1.cell? ⟨X, 2, none⟩ = some (.slice A l.length c) := (HX0.out.below hb HX0.out.lt).at rfl
      obtain ⟨g, o, rfl, hg, hc⟩ : ∃ g o, A = some ⟨g, o, none⟩ ∧ g < w.heap.size ∧ EsAt w g o l := by
        obtain ⟨A', c', e, _, _, _, h3⟩ := HES.out
        obtain ⟨g, o, rfl, hg, hc⟩ := h3 (by omega)
        cases e
        exact ⟨g, o, rfl, hg, hc⟩
      have h5 := hc.five i hfx
      rw [HQ.out hfx] at h5
      obtain ⟨e0, e1, e2, e3, e4⟩ := h5
      simp only at e0 e1 e2 e3 e4
      have d0 : w1.cell? ⟨g, o + i * 5, none⟩ = some (strT es) := (hb.cell (p := ⟨g, o + i * 5, none⟩) hg).trans e0
      have d1 : w1.cell? ⟨g, o + i * 5 + 1, none⟩ = some (strT k) := (hb.cell (p := ⟨g, o + i * 5 + 1, none⟩) hg).trans e1
      have d2 : w1.cell? ⟨g, o + i * 5 + 2, none⟩ = some (.int .u64 ea) := (hb.cell (p := ⟨g, o + i * 5 + 2, none⟩) hg).trans e2
      have d3 : w1.cell? ⟨g, o + i * 5 + 3, none⟩ = some (.bool true) := (hb.cell (p := ⟨g, o + i * 5 + 3, none⟩) hg).trans e3
      have d4 : w1.cell? ⟨g, o + i * 5 + 4, none⟩ = some (.int .u32 ect) := (hb.cell (p := ⟨g, o + i * 5 + 4, none⟩) hg).trans e4
      clear e0 e1 e2 e3 e4 hc hb HF
      go_wp2_with fail
      go_ret
      exact ⟨rfl, HX.out.below (HB.out.alloc HB.out.size _), Trn.of_below (HB.out.alloc HB.out.size _)⟩
    | false =>
      by_cases hz : ect = 0
      · subst hz
        rw [if_neg (by simp)]
        go_enter Try.func24, Try.ntmps24
        go_wp2_with fail
        refine HF.out.mono ?_
        rintro e w1 ⟨rfl, hb⟩
        have HB := Lib.hid hb
        have c2 : w1.cell? ⟨X, 2, none⟩ = some (.slice A l.length c) := (HX0.out.below hb HX0.out.lt).at rfl
        obtain ⟨g, o, rfl, hg, hc⟩ : ∃ g o, A = some ⟨g, o, none⟩ ∧ g < w.heap.size ∧ EsAt w g o l := by
          obtain ⟨A', c', e, _, _, _, h3⟩ := HES.out
          obtain ⟨g, o, rfl, hg, hc⟩ := h3 (by omega)
          cases e
          exact ⟨g, o, rfl, hg, hc⟩
        have h5 := hc.five i hfx
        rw [HQ.out hfx] at h5
        obtain ⟨e0, e1, e2, e3, e4⟩ := h5
        simp only at e0 e1 e2 e3 e4
        have d0 : w1.cell? ⟨g, o + i * 5, none⟩ = some (strT es) := (hb.cell (p := ⟨g, o + i * 5, none⟩) hg).trans e0
        have d1 : w1.cell? ⟨g, o + i * 5 + 1, none⟩ = some (strT k) := (hb.cell (p := ⟨g, o + i * 5 + 1, none⟩) hg).trans e1
        have d2 : w1.cell? ⟨g, o + i * 5 + 2, none⟩ = some (.int .u64 ea) := (hb.cell (p := ⟨g, o + i * 5 + 2, none⟩) hg).trans e2
        have d3 : w1.cell? ⟨g, o + i * 5 + 3, none⟩ = some (.bool false) := (hb.cell (p := ⟨g, o + i * 5 + 3, none⟩) hg).trans e3
        have d4 : w1.cell? ⟨g, o + i * 5 + 4, none⟩ = some (.int .u32 0) := (hb.cell (p := ⟨g, o + i * 5 + 4, none⟩) hg).trans e4
        clear e0 e1 e2 e3 e4 hc hb HF
        go_wp2_with fail
        obtain ⟨W, hW⟩ : ∃ W, W = w1.alloc (.cells #[strT es, strT k, .int .u64 ea, .bool true, .int .u32 0] tR) := ⟨_, rfl⟩
        have hbw : Below w.heap.size w W := by rw [hW]; exact HB.out.alloc HB.out.size _
        have HBW := Lib.hid hbw
        rw [← hW]
        clear hW hbw c2 d0 d1 d2 d3 d4
        refine (rset_X (HX.out.below HBW.out) i hfx (k, ⟨es, ea, true, 0⟩) hl (Nat.le_trans hbase HBW.out.size)).mono ?_
        rintro e w3 ⟨rfl, h3, t3⟩
        have H3 := Lib.hid h3
        have T3 := Lib.hid ((Trn.of_below (S := [X]) HBW.out).trans t3)
        clear h3 t3
        go_wp2_with fail
        go_ret
        exact ⟨rfl, H3.out, T3.out⟩
      · have hz2 : (ect == 0) = false := beq_eq_false_iff_ne.2 hz
        have hz3 : (ect != 0) = true := by simp [bne, hz2]
        rw [if_pos (.inr (by show 0 < ect; omega))]
        clear hz
        go_enter Try.func24, Try.ntmps24
        go_wp2_with fail
        refine HF.out.mono ?_
        rintro e w1 ⟨rfl, hb⟩
        have HB := Lib.hid hb
        have c2 : w1.cell? ⟨X, 2, none⟩ = some (.slice A l.length c) := (HX0.out.below hb HX0.out.lt).at rfl
        obtain ⟨g, o, rfl, hg, hc⟩ : ∃ g o, A = some ⟨g, o, none⟩ ∧ g < w.heap.size ∧ EsAt w g o l := by
          obtain ⟨A', c', e, _, _, _, h3⟩ := HES.out
          obtain ⟨g, o, rfl, hg, hc⟩ := h3 (by omega)
          cases e
          exact ⟨g, o, rfl, hg, hc⟩
        have h5 := hc.five i hfx
        rw [HQ.out hfx] at h5
        obtain ⟨e0, e1, e2, e3, e4⟩ := h5
        simp only at e0 e1 e2 e3 e4
        have d0 : w1.cell? ⟨g, o + i * 5, none⟩ = some (strT es) := (hb.cell (p := ⟨g, o + i * 5, none⟩) hg).trans e0
        have d1 : w1.cell? ⟨g, o + i * 5 + 1, none⟩ = some (strT k) := (hb.cell (p := ⟨g, o + i * 5 + 1, none⟩) hg).trans e1
        have d2 : w1.cell? ⟨g, o + i * 5 + 2, none⟩ = some (.int .u64 ea) := (hb.cell (p := ⟨g, o + i * 5 + 2, none⟩) hg).trans e2
        have d3 : w1.cell? ⟨g, o + i * 5 + 3, none⟩ = some (.bool false) := (hb.cell (p := ⟨g, o + i * 5 + 3, none⟩) hg).trans e3
        have d4 : w1.cell? ⟨g, o + i * 5 + 4, none⟩ = some (.int .u32 ect) := (hb.cell (p := ⟨g, o + i * 5 + 4, none⟩) hg).trans e4
        clear e0 e1 e2 e3 e4 hc hb HF
        go_wp2_with fail
        go_ret
        exact ⟨rfl, HX.out.below (HB.out.alloc HB.out.size _), Trn.of_below (HB.out.alloc HB.out.size _)⟩
set_option maxHeartbeats 2000000 in
theorem ruse_X (h : XR w base X K f l) (s : List UInt8) (q : Int) (now : Int) (n0 : 0 ≤ now) (n1 : now < 18446744073709551616) (hl : l.length ≤ 4096) (hok : okL l) (hwf : WF l) (hwd : 0 ≤ f.wd) (hbase : base ≤ w.heap.size) :
    Calls Try.prog 25 #[tP X, strT s, .int .u32 q, u64v now] w fun e w' => e = .returned (.int .i64 (usN f l s q now).1) ∧ XR w' base X K f (usN f l s q now).2 ∧ Trn [X] w w' := by
  have HF := Lib.hid (rfind_X h s now n0 n1 hl hok hwf hwd)
  have HX := Lib.hid h
  unfold usN
  rcases fiN_cases f l s now with ⟨c, hf, hc⟩ | ⟨⟨es, ea, esp, ect⟩, hf, hg, he, hn, hgo⟩
  · rw [hf] at HF ⊢
    have hri : riN f l s now = 0 := by unfold riN; rw [hf]; rcases hc with rfl | rfl <;> rfl
    rw [hri] at HF
    simp only at HF ⊢
    clear h hf hri
    rcases hc with rfl | rfl
    all_goals
      go_enter Try.func25, Try.ntmps25
      go_wp2_with fail
      refine HF.out.mono ?_
      rintro e w1 ⟨rfl, hb⟩
      have HB := Lib.hid hb
      clear hb HF
      go_wp2_with fail
      go_ret
      exact ⟨rfl, HX.out.below HB.out, Trn.of_below HB.out⟩
  · have hfx : fiX l s < l.length := by
      rcases Nat.lt_or_ge (fiX l s) l.length with h | h
      · exact h
      · rw [fiN_miss (by omega)] at hf; cases hf
    have hri : riN f l s now = (fiX l s : Int) := by unfold riN; rw [hf]; rfl
    obtain ⟨hk1, hk2⟩ := fiN_hit (f := f) (now := now) hwf hfx
    have hk3 : l[fiX l s].2 = ⟨es, ea, esp, ect⟩ := by
      rw [hf] at hk2
      split at hk2
      · cases hk2
      · simp only [Prod.mk.injEq, Option.some.injEq, and_true] at hk2; exact hk2.symm
    have hct := hwf.ct _ (List.getElem_mem hfx)
    rw [hk3] at hct
    simp only at hct
    have hset : ∀ v' : VT, setL l (drL s) v' = (0, l.set (fiX l s) (drL s, v')) := fun v' => setL_set hwf.kn (fiX l s) hfx hk1
    rw [hf] at HF ⊢
    rw [hri] at HF
    simp only at HF ⊢
    obtain ⟨v, hX, hE⟩ := h
    have hq : l[fiX l s] = (drL s, ⟨es, ea, esp, ect⟩) := Prod.ext hk1 hk3
    obtain ⟨i, hi⟩ : ∃ i, i = fiX l s := ⟨_, rfl⟩
    obtain ⟨k, hkk⟩ : ∃ k, k = drL s := ⟨_, rfl⟩
    rw [← hi] at HF hfx
    rw [← hi, ← hkk] at hset
    have hq2 : ∀ h : i < l.length, l[i]'h = (k, ⟨es, ea, esp, ect⟩) := fun h => by simp only [hi, hkk]; exact hq
    have HQ := Lib.hid hq2
    have HSET := Lib.hid hset
    obtain ⟨A, c, rfl, h1, h2, _, _⟩ := hE.parts
    have HES := Lib.hid hE.es
    have HX0 := Lib.hid hX
    have hi1 : (i : Int) < (l.length : Int) := by omega
    rw [← hkk]
    rw [hset]
    clear hf hg he hn hgo hri hk1 hk2 hk3 hset hi hkk hq hq2 hX hE
    by_cases hq0 : q = 0
    · subst hq0
      rw [if_pos rfl]
      go_enter Try.func25, Try.ntmps25
      go_wp2_with fail
      refine HF.out.mono ?_
      rintro e w1 ⟨rfl, hb⟩
      have HB := Lib.hid hb
      have c2 : w1.cell? ⟨X, 2, none⟩ = some (.slice A l.length c) := (HX0.out.below hb HX0.out.lt).at rfl
      obtain ⟨g, o, rfl, hg, hc⟩ : ∃ g o, A = some ⟨g, o, none⟩ ∧ g < w.heap.size ∧ EsAt w g o l := by
        obtain ⟨A', c', e, _, _, _, h3⟩ := HES.out
        obtain ⟨g, o, rfl, hg, hc⟩ := h3 (by omega)
        cases e
        exact ⟨g, o, rfl, hg, hc⟩
      have h5 := hc.five i hfx
      rw [HQ.out hfx] at h5
      obtain ⟨e0, e1, e2, e3, e4⟩ := h5
      simp only at e0 e1 e2 e3 e4
      have d0 : w1.cell? ⟨g, o + i * 5, none⟩ = some (strT es) := (hb.cell (p := ⟨g, o + i * 5, none⟩) hg).trans e0
      have d1 : w1.cell? ⟨g, o + i * 5 + 1, none⟩ = some (strT k) := (hb.cell (p := ⟨g, o + i * 5 + 1, none⟩) hg).trans e1
      have d2 : w1.cell? ⟨g, o + i * 5 + 2, none⟩ = some (.int .u64 ea) := (hb.cell (p := ⟨g, o + i * 5 + 2, none⟩) hg).trans e2
      have d3 : w1.cell? ⟨g, o + i * 5 + 3, none⟩ = some (.bool esp) := (hb.cell (p := ⟨g, o + i * 5 + 3, none⟩) hg).trans e3
      have d4 : w1.cell? ⟨g, o + i * 5 + 4, none⟩ = some (.int .u32 ect) := (hb.cell (p := ⟨g, o + i * 5 + 4, none⟩) hg).trans e4
      clear e0 e1 e2 e3 e4 hc hb HF
      go_wp2_with fail
      go_ret
      exact ⟨rfl, HX.out.below HB.out, Trn.of_below HB.out⟩
    · have hq1 : (q == 0) = false := beq_eq_false_iff_ne.2 hq0
      rw [if_neg hq0]
      clear hq0
      cases esp with
      | true =>
        rw [if_pos (.inl rfl)]
        go_enter Try.func25, Try.ntmps25
        go_wp2_with fail
        refine HF.out.mono ?_
        rintro e w1 ⟨rfl, hb⟩
        have HB := Lib.hid hb
        have c2 : w1.cell? ⟨X, 2, none⟩ = some (.slice A l.length c) := (HX0.out.below hb HX0.out.lt).at rfl
        obtain ⟨g, o, rfl, hg, hc⟩ : ∃ g o, A = some ⟨g, o, none⟩ ∧ g < w.heap.size ∧ EsAt w g o l := by
          obtain ⟨A', c', e, _, _, _, h3⟩ := HES.out
          obtain ⟨g, o, rfl, hg, hc⟩ := h3 (by omega)
          cases e
          exact ⟨g, o, rfl, hg, hc⟩
        have h5 := hc.five i hfx
        rw [HQ.out hfx] at h5
        obtain ⟨e0, e1, e2, e3, e4⟩ := h5
        simp only at e0 e1 e2 e3 e4
        have d0 : w1.cell? ⟨g, o + i * 5, none⟩ = some (strT es) := (hb.cell (p := ⟨g, o + i * 5, none⟩) hg).trans e0
        have d1 : w1.cell? ⟨g, o + i * 5 + 1, none⟩ = some (strT k) := (hb.cell (p := ⟨g, o + i * 5 + 1, none⟩) hg).trans e1
        have d2 : w1.cell? ⟨g, o + i * 5 + 2, none⟩ = some (.int .u64 ea) := (hb.cell (p := ⟨g, o + i * 5 + 2, none⟩) hg).trans e2
        have d3 : w1.cell? ⟨g, o + i * 5 + 3, none⟩ = some (.bool true) := (hb.cell (p := ⟨g, o + i * 5 + 3, none⟩) hg).trans e3
        have d4 : w1.cell? ⟨g, o + i * 5 + 4, none⟩ = some (.int .u32 ect) := (hb.cell (p := ⟨g, o + i * 5 + 4, none⟩) hg).trans e4
        clear e0 e1 e2 e3 e4 hc hb HF
        go_wp2_with fail
        go_ret
        exact ⟨rfl, HX.out.below (HB.out.alloc HB.out.size _), Trn.of_below (HB.out.alloc HB.out.size _)⟩
      | false =>
        by_cases hz : q ≤ ect
        · have hz2 : decide (q ≤ ect) = true := decide_eq_true hz
          rw [if_pos (.inr hz)]
          clear hz
          go_enter Try.func25, Try.ntmps25
          go_wp2_with fail
          refine HF.out.mono ?_
          rintro e w1 ⟨rfl, hb⟩
          have HB := Lib.hid hb
          have c2 : w1.cell? ⟨X, 2, none⟩ = some (.slice A l.length c) := (HX0.out.below hb HX0.out.lt).at rfl
          obtain ⟨g, o, rfl, hg, hc⟩ : ∃ g o, A = some ⟨g, o, none⟩ ∧ g < w.heap.size ∧ EsAt w g o l := by
            obtain ⟨A', c', e, _, _, _, h3⟩ := HES.out
            obtain ⟨g, o, rfl, hg, hc⟩ := h3 (by omega)
            cases e
            exact ⟨g, o, rfl, hg, hc⟩
          have h5 := hc.five i hfx
          rw [HQ.out hfx] at h5
          obtain ⟨e0, e1, e2, e3, e4⟩ := h5
          simp only at e0 e1 e2 e3 e4
          have d0 : w1.cell? ⟨g, o + i * 5, none⟩ = some (strT es) := (hb.cell (p := ⟨g, o + i * 5, none⟩) hg).trans e0
          have d1 : w1.cell? ⟨g, o + i * 5 + 1, none⟩ = some (strT k) := (hb.cell (p := ⟨g, o + i * 5 + 1, none⟩) hg).trans e1
          have d2 : w1.cell? ⟨g, o + i * 5 + 2, none⟩ = some (.int .u64 ea) := (hb.cell (p := ⟨g, o + i * 5 + 2, none⟩) hg).trans e2
          have d3 : w1.cell? ⟨g, o + i * 5 + 3, none⟩ = some (.bool false) := (hb.cell (p := ⟨g, o + i * 5 + 3, none⟩) hg).trans e3
          have d4 : w1.cell? ⟨g, o + i * 5 + 4, none⟩ = some (.int .u32 ect) := (hb.cell (p := ⟨g, o + i * 5 + 4, none⟩) hg).trans e4
          clear e0 e1 e2 e3 e4 hc hb HF
          go_wp2_with fail
          go_ret
          exact ⟨rfl, HX.out.below (HB.out.alloc HB.out.size _), Trn.of_below (HB.out.alloc HB.out.size _)⟩
        · have hz2 : decide (q ≤ ect) = false := decide_eq_false hz
          rw [if_neg (by simp; omega)]
          clear hz
          go_enter Try.func25, Try.ntmps25
          go_wp2_with fail
          refine HF.out.mono ?_
          rintro e w1 ⟨rfl, hb⟩
          have HB := Lib.hid hb
          have c2 : w1.cell? ⟨X, 2, none⟩ = some (.slice A l.length c) := (HX0.out.below hb HX0.out.lt).at rfl
          obtain ⟨g, o, rfl, hg, hc⟩ : ∃ g o, A = some ⟨g, o, none⟩ ∧ g < w.heap.size ∧ EsAt w g o l := by
            obtain ⟨A', c', e, _, _, _, h3⟩ := HES.out
            obtain ⟨g, o, rfl, hg, hc⟩ := h3 (by omega)
            cases e
            exact ⟨g, o, rfl, hg, hc⟩
          have h5 := hc.five i hfx
          rw [HQ.out hfx] at h5
          obtain ⟨e0, e1, e2, e3, e4⟩ := h5
          simp only at e0 e1 e2 e3 e4
          have d0 : w1.cell? ⟨g, o + i * 5, none⟩ = some (strT es) := (hb.cell (p := ⟨g, o + i * 5, none⟩) hg).trans e0
          have d1 : w1.cell? ⟨g, o + i * 5 + 1, none⟩ = some (strT k) := (hb.cell (p := ⟨g, o + i * 5 + 1, none⟩) hg).trans e1
          have d2 : w1.cell? ⟨g, o + i * 5 + 2, none⟩ = some (.int .u64 ea) := (hb.cell (p := ⟨g, o + i * 5 + 2, none⟩) hg).trans e2
          have d3 : w1.cell? ⟨g, o + i * 5 + 3, none⟩ = some (.bool false) := (hb.cell (p := ⟨g, o + i * 5 + 3, none⟩) hg).trans e3
          have d4 : w1.cell? ⟨g, o + i * 5 + 4, none⟩ = some (.int .u32 ect) := (hb.cell (p := ⟨g, o + i * 5 + 4, none⟩) hg).trans e4
          clear e0 e1 e2 e3 e4 hc hb HF
          go_wp2_with fail
          obtain ⟨W, hW⟩ : ∃ W, W = w1.alloc (.cells #[strT es, strT k, .int .u64 ea, .bool false, .int .u32 q] tR) := ⟨_, rfl⟩
          have hbw : Below w.heap.size w W := by rw [hW]; exact HB.out.alloc HB.out.size _
          have HBW := Lib.hid hbw
          rw [← hW]
          clear hW hbw c2 d0 d1 d2 d3 d4
          refine (rset_X (HX.out.below HBW.out) i hfx (k, ⟨es, ea, false, q⟩) hl (Nat.le_trans hbase HBW.out.size)).mono ?_
          rintro e w3 ⟨rfl, h3, t3⟩
          have H3 := Lib.hid h3
          have T3 := Lib.hid ((Trn.of_below (S := [X]) HBW.out).trans t3)
          clear h3 t3
          go_wp2_with fail
          go_ret
          exact ⟨rfl, H3.out, T3.out⟩
end
end Go.Proofs.Ythpgdojjecdlcaa
namespace Go.Proofs.Ythpgdojjecdlcaa
open Go.RowKit
theorem OwnB.setAt {w : World} {base g cap n : Nat} {l : List UInt8} (h : OwnB w base (.slice (some ⟨g, 0, none⟩) n cap) l) (k : Nat) (y : UInt8) :
    OwnB (w.setCell ⟨g, k, none⟩ (vb y)) base (.slice (some ⟨g, 0, none⟩) n cap) (l.set k y) := by
  unfold OwnB at h ⊢
  have hn : n = l.length := by
    rcases h.2 with ⟨h', _⟩ | ⟨g', cap', cur, h', _⟩
    · simp at h'
    · injection h' with _ h2
  have h2 := hn ▸ h
  have s1 := (h2.stored k (vb y)).1
  rw [hn, List.length_set, List.map_set]
  exact s1
theorem OwnB.getAt {w : World} {base g cap n : Nat} {l : List UInt8} (h : OwnB w base (.slice (some ⟨g, 0, none⟩) n cap) l) (k : Nat) (x : UInt8) (hx : l[k]? = some x) : w.cell? ⟨g, k, none⟩ = some (vb x) ∧ w.frozen? ⟨g, k, none⟩ = false := by
  rcases h.parts with ⟨h', _⟩ | ⟨g', cap', h', _, _, _, _, hb, hf⟩
  · simp at h'
  · injection h' with h1 _ _
    injection h1 with h1
    injection h1 with h1 _ _
    subst h1
    obtain ⟨hk, rfl⟩ := List.getElem?_eq_some_iff.1 hx
    have := hb k hk
    rw [Nat.zero_add] at this
    exact ⟨this, hf k⟩
end Go.Proofs.Ythpgdojjecdlcaa
namespace Go.Proofs.Ythpgdojjecdlcaa
open Go.RowKit
/-- What stands in the row when j bytes are written from behind. -/
def bfill (N k j : Nat) : List UInt8 := List.replicate (k - j) 0 ++ be N j
theorem bfill_len (N k j : Nat) (h : j ≤ k) : (bfill N k j).length = k := by unfold bfill; rw [List.length_append, List.length_replicate, be_length]; omega
theorem bfill_full (N k : Nat) : bfill N k k = be N k := by unfold bfill; simp
theorem bfill_set (N k j i : Nat) (h : i + j + 1 = k) : (bfill N k j).set i (UInt8.ofNat (N / 256 ^ j)) = bfill N k (j + 1) := by
  unfold bfill
  have e : be N (j + 1) = UInt8.ofNat (N / 256 ^ j) :: be N j := by rw [Nat.add_comm j 1, be_add]; rfl
  rw [e, show k - j = i + 1 by omega, show k - (j + 1) = i by omega, List.replicate_succ', List.append_assoc, List.set_append_right _ _ (by simp), List.length_replicate, Nat.sub_self]
  rfl
theorem byte_of (X : Nat) : (X : Int) % 256 = bn (UInt8.ofNat X) := by unfold bn; rw [UInt8.toNat_ofNat']; omega
attribute [irreducible] bfill
set_option maxRecDepth 100000 in
set_option maxHeartbeats 1000000 in
theorem refBytes_any (N k : Nat) (w : World) (hN : N < 18446744073709551616) (hk : k ≤ 1000) :
    Calls Try.prog 47 #[.int .u64 (N : Int), .int .i64 (k : Int)] w fun e w' => ∃ v', e = .returned v' ∧ OwnB w' w.heap.size v' (be N k) ∧ Below w.heap.size w w' := by
  have hmk := make_bytes k k (Nat.le_refl _) (by omega) w
  have hO : OwnB (w.alloc (.cells (noughts k) 5)) w.heap.size (.slice (some ⟨w.heap.size, 0, none⟩) k k) (bfill N k 0) :=
    OwnB.of_heap (Nat.le_refl _) (heap_alloc_new w _) (noughts_size _) (by unfold maxLen; omega) (bfill_len _ _ _ (by omega)) (by rw [noughts_list, List.take_of_length_le (by simp)]; unfold bfill; simp [be]) (Nat.le_refl _)
  have HO := Lib.hid hO; clear hO
  go_enter Try.func47, Try.ntmps47
  go_wp2_with fail
  clear hmk
  go_loopw [0, 6] (fun x i wr => ∃ j : Nat, j ≤ k ∧ i = .int .i64 ((k : Int) - 1 - (j : Int)) ∧ x = .int .u64 ((N / 256 ^ j : Nat) : Int) ∧ OwnB wr w.heap.size (.slice (some ⟨w.heap.size, 0, none⟩) k k) (bfill N k j) ∧ Below w.heap.size w wr) (fun _ i _ => (intOf i + 1).toNat)
  case atStart => exact ⟨0, by omega, by simp, by simp, HO.out, (Below.refl _ _).alloc (Nat.le_refl _) _⟩
  case round =>
    obtain ⟨j, hj, rfl, rfl, hO2, hB⟩ := hrel
    have HO2 := Lib.hid hO2
    have HB := Lib.hid hB; clear hB
    obtain ⟨X, hX⟩ : ∃ X, X = N / 256 ^ j := ⟨_, rfl⟩
    have hXN : X ≤ N := by rw [hX]; exact Nat.div_le_self _ _
    have hX2 : X / 256 = N / 256 ^ (j + 1) := by rw [hX, Nat.div_div_eq_div_mul, Nat.pow_succ]
    rw [← hX]
    have HX2 := Lib.hid hX2; clear hX2
    by_cases hlt : j < k
    · obtain ⟨i, hi⟩ : ∃ i, i + j + 1 = k := ⟨k - 1 - j, by omega⟩
      have he : (k : Int) - 1 - (j : Int) = (i : Int) := by omega
      have hset := bfill_set N k j i hi
      rw [← hX] at hset
      have HS := Lib.hid hset; clear hset
      obtain ⟨x0, hx0⟩ : ∃ x0, (bfill N k j)[i]? = some x0 := ⟨_, List.getElem?_eq_getElem (by rw [bfill_len _ _ _ hj]; omega)⟩
      obtain ⟨hc, hf⟩ := hO2.getAt i x0 hx0
      have hbx := byte_of X
      have HX := Lib.hid hX; clear hX hx0 hO2
      rw [he]
      have HE := Lib.hid he; clear he
      have hik : (i : Int) < (k : Int) := by omega
      go_wp2_with fail
      exact ⟨⟨j + 1, by omega, by congr 1; omega, by rw [← HX2.out]; congr 1, by rw [← HS.out]; exact HO2.out.setAt i (UInt8.ofNat X), HB.out.setCell (Nat.le_refl _) _⟩, by simp [intOf]⟩
    · obtain rfl : j = k := by omega
      rw [bfill_full] at HO2
      clear hO2
      have he : (j : Int) - 1 - (j : Int) = -1 := by omega
      rw [he]
      go_wp2_with fail
      go_ret
      exact ⟨_, rfl, HO2.out, HB.out⟩
end Go.Proofs.Ythpgdojjecdlcaa
set_option maxRecDepth 100000
namespace Go.Proofs.Ythpgdojjecdlcaa
open Go.RowKit Go.Shelf
section
variable {w w1 w' : World} {base X K : Nat} {f f' : NF} {l l' : PL} {v0 : Value}
theorem rissue_bad (w : World) (X : Nat) (d : List UInt8) (now : Int) (hd : d.length ≤ 100000) (hb : ¬ (d.length ≤ 40 ∧ noncB d = true)) :
    Calls Try.prog 28 #[tP X, strT d, u64v now] w fun e w' => e = .returned (.tuple #[strT [], .int .i64 4]) ∧ Below w.heap.size w w' := by
  have HN := Lib.hid (rnonce_any d w hd)
  cases hn : noncB d with
  | false =>
    rw [hn] at HN
    clear hb hn
    go_enter Try.func28, Try.ntmps28
    go_wp2_with fail
    refine HN.out.mono ?_
    rintro e w1 ⟨rfl, hb⟩
    have HB := Lib.hid hb
    clear hb HN
    go_wp2_with fail
    go_ret2
    exact ⟨rfl, HB.out⟩
  | true =>
    rw [hn] at HN
    have h40 : 40 < d.length := by
      rcases Nat.lt_or_ge 40 d.length with h | h
      · exact h
      · exact absurd ⟨h, hn⟩ hb
    have h4d : decide ((40 : Int) < (d.length : Int)) = true := decide_eq_true (by omega)
    clear hb hn
    go_enter Try.func28, Try.ntmps28
    go_wp2_with fail
    refine HN.out.mono ?_
    rintro e w1 ⟨rfl, hb⟩
    have HB := Lib.hid hb
    clear hb HN
    go_wp2_with fail
    go_ret2
    exact ⟨rfl, HB.out⟩
theorem rissue_late (h : XR w base X K f l) (d : List UInt8) (now : Int) (hd : d.length ≤ 40) (hn : noncB d = true) (hl : now < f.la) :
    Calls Try.prog 28 #[tP X, strT d, u64v now] w fun e w' => e = .returned (.tuple #[strT [], .int .i64 9]) ∧ Below w.heap.size w w' := by
  have HN := Lib.hid (rnonce_any d w (by omega))
  rw [hn] at HN
  obtain ⟨v, hX, hE⟩ := h
  have HX := Lib.hid hX
  have h4d : decide ((40 : Int) < (d.length : Int)) = false := decide_eq_false (by omega)
  clear hX hE hn
  go_enter Try.func28, Try.ntmps28
  go_wp2_with fail
  refine HN.out.mono ?_
  rintro e w1 ⟨rfl, hb⟩
  have HB := Lib.hid hb
  have c4 : w1.cell? ⟨X, 4, none⟩ = some (u64v f.la) := (HX.out.below hb HX.out.lt).at rfl
  clear hb HN
  go_wp2_with fail
  go_ret2
  exact ⟨rfl, HB.out⟩
/-- What a store of the reference keeps in mind: the mark is 0 until it is set. -/
structure RF (f : NF) (l : PL) (K : Nat) : Prop where
  wd : 0 ≤ f.wd
  md : f.md = false → f.mr = 0
  cnt : l.length ≤ K
  k1 : 1 ≤ K
  k2 : K ≤ 4096
  se0 : 0 ≤ f.se
  se1 : f.se + 1 < 18446744073709551616
  mr0 : 0 ≤ f.mr
theorem any_take_succ (l : PL) (d : List UInt8) (j : Nat) (h : j < l.length) : (∀ q ∈ l.take (j + 1), q.1 ≠ d) ↔ (∀ q ∈ l.take j, q.1 ≠ d) ∧ l[j].1 ≠ d := by
  rw [List.take_succ_eq_append_getElem h]
  constructor
  · intro hh
    exact ⟨fun q hq => hh q (List.mem_append_left _ hq), hh _ (List.mem_append_right _ (List.mem_singleton.2 rfl))⟩
  · rintro ⟨h1, h2⟩ q hq
    rcases List.mem_append.1 hq with hq | hq
    · exact h1 q hq
    · rw [List.mem_singleton] at hq; rw [hq]; exact h2
theorem ER.trnX {B : Nat} {v1 : Value} (hv : ER w B v1 l) (ht : Trn [X] w w') {cs : List Value} (hX : BlkT w X tX cs) : ER w' B v1 l := ER.kt hv (fun g c f hg => (ht.block g (Array.getElem?_eq_some_iff.1 hg).1 (fun e => by
  rw [List.mem_singleton] at e
  unfold BlkT at hX
  rw [e, hX] at hg
  cases hg)).trans hg)
theorem bytes8 (q : Nat) (w : World) (hq : q < 18446744073709551616) : Calls Try.prog 47 #[.int .u64 (q : Int), .int .i64 8] w fun e w' => ∃ v', e = .returned v' ∧ OwnB w' w.heap.size v' (be q 8) ∧ Below w.heap.size w w' := refBytes_any q 8 w hq (by omega)
theorem mrL_on {f : NF} {now : Int} {K : Nat} {l : PL} (hb : (decide (l.length = K) && (swN f now l == 0)) = false) : mrL f now K l = (f, if l.length = K then swL f now l else l) := by
  unfold mrL
  by_cases h : l.length = K
  · rw [decide_eq_true h, Bool.true_and, beq_eq_false_iff_ne] at hb
    have h0 : 0 ≤ swN f now l := by unfold swN; omega
    rw [if_neg (by simpa using h), if_pos (by omega), if_pos h]
  · rw [if_pos h, if_neg h]
theorem mrL_cut {f : NF} {now : Int} {K : Nat} {p : List UInt8 × VT} {t : PL} (hK : (p :: t).length = K) (hs : swN f now (p :: t) = 0) : mrL f now K (p :: t) = ({ f with mr := if f.mr < p.2.a then p.2.a else f.mr, md := true }, t) := by
  unfold mrL
  rw [if_neg (by simpa using hK), if_neg (by omega)]
set_option maxHeartbeats 4000000 in
theorem rissue_on (h : XR w base X K f l) (d : List UInt8) (now : Int) (hd : d.length ≤ 40) (hn : noncB d = true) (hla : ¬ now < f.la) (n0 : 0 ≤ now) (n1 : now < 18446744073709551616) (hok : okL l) (hrf : RF f l K) (hbase : base ≤ w.heap.size) :
    Calls Try.prog 28 #[tP X, strT d, u64v now] w fun e w' => e = .returned (.tuple #[strT (issN f l K d now).1.1, .int .i64 (issN f l K d now).1.2]) ∧ XR w' base X K (issN f l K d now).2.1 (issN f l K d now).2.2 ∧ Trn [X] w w' := by
  have HN := Lib.hid (rnonce_any d w (by omega))
  rw [hn] at HN
  have HISS : Hid ((∃ q ∈ l, q.1 = d) → issN f l K d now = (([], 7), f, l)) := Lib.hid (fun hq => by
    unfold issN
    rw [if_neg (by simp [hd, hn]), if_neg hla, if_pos ?_]
    obtain ⟨q, hq, e⟩ := hq
    unfold getL
    rw [Option.isSome_map, List.find?_isSome]
    exact ⟨q, hq, by simp [e]⟩)
  have HNEW : Hid ((∀ q ∈ l, q.1 ≠ d) → issN f l K d now = ((nonL d (f.se + 1), 0), { (mrL f now K l).1 with la := now, se := f.se + 1 }, (mrL f now K l).2 ++ [(d, ⟨nonL d (f.se + 1), now, false, 0⟩)])) := Lib.hid (fun hq => by
    rcases issN_cases f l K d now hrf.cnt hrf.k1 with ⟨c, hc, hc0⟩ | ⟨_, _, _, _, f', hi, hf'⟩
    · exfalso
      have hg := getL_none l d hq
      unfold issN at hc
      rw [if_neg (by simp [hd, hn]), if_neg hla, hg] at hc
      simp only [Option.isSome, Bool.false_eq_true, if_false] at hc
      have h1 : nonL d ((mrL f now K l).1.se + 1) = [] := (Prod.mk.inj (Prod.mk.inj hc).1).1
      have h2 := nonL_len d ((mrL f now K l).1.se + 1)
      rw [h1] at h2
      simp at h2
    · rw [hi, hf'])
  obtain ⟨⟨⟨rn, rc⟩, rf, rl⟩, hiss⟩ : ∃ r, r = issN f l K d now := ⟨_, rfl⟩
  rw [← hiss] at HISS HNEW ⊢
  simp only
  have HX := Lib.hid h
  obtain ⟨v, hX, hE⟩ := h
  have HX0 := Lib.hid hX
  have HES := Lib.hid hE.es
  obtain ⟨A, c, rfl, h1, h2, _, _⟩ := hE.parts
  have h4d : decide ((40 : Int) < (d.length : Int)) = false := decide_eq_false (by omega)
  have hcnt := hrf.cnt
  have hk1 := hrf.k1
  have hk2 := hrf.k2
  clear hX hE hn hiss
  go_enter Try.func28, Try.ntmps28
  go_wp2_with fail
  refine HN.out.mono ?_
  rintro e w1 ⟨rfl, hb⟩
  have HB := Lib.hid hb
  have hx1 := HX0.out.below hb HX0.out.lt
  have c4 : w1.cell? ⟨X, 4, none⟩ = some (u64v f.la) := hx1.at rfl
  have c2 : w1.cell? ⟨X, 2, none⟩ = some (.slice A l.length c) := hx1.at rfl
  clear hb HN hx1
  go_wp2_with fail
  clear c4 c2
  go_loopw [33] (fun i wr => ∃ j : Nat, j ≤ l.length ∧ i = .int .i64 (j : Int) ∧ (∀ q ∈ l.take j, q.1 ≠ d) ∧ Below w.heap.size w wr) (fun i _ => l.length - (intOf i).toNat)
  case atStart => exact ⟨0, by omega, rfl, (fun q hq => by simp at hq), HB.out⟩
  case round =>
    clear HB
    obtain ⟨j, hj, rfl, hno, hB⟩ := hrel
    have HB := Lib.hid hB
    have HNO := Lib.hid hno
    by_cases hlt : j < l.length
    · obtain ⟨g, o, rfl, hg, hc⟩ : ∃ g o, A = some ⟨g, o, none⟩ ∧ g < w.heap.size ∧ EsAt w g o l := by
        obtain ⟨A', c', e, _, _, _, h3⟩ := HES.out
        obtain ⟨g, o, rfl, hg, hc⟩ := h3 (by omega)
        cases e
        exact ⟨g, o, rfl, hg, hc⟩
      obtain ⟨e0, e1, e2, e3, e4⟩ := hc.five j hlt
      have HJ : Hid ((l[j].1 = d → ((rn, rc), rf, rl) = (([], 7), f, l)) ∧ (l[j].1 ≠ d → ∀ q ∈ l.take (j + 1), q.1 ≠ d)) := Lib.hid ⟨fun he => HISS.out ⟨_, List.getElem_mem hlt, he⟩, fun he => (any_take_succ l d j hlt).2 ⟨hno, he⟩⟩
      obtain ⟨q, hq⟩ : ∃ q, q = l[j] := ⟨_, rfl⟩
      rw [← hq] at e0 e1 e2 e3 e4 HJ
      have d0 : wr.cell? ⟨g, o + j * 5, none⟩ = some (strT q.2.s) := (hB.cell (p := ⟨g, o + j * 5, none⟩) hg).trans e0
      have d1 : wr.cell? ⟨g, o + j * 5 + 1, none⟩ = some (strT q.1) := (hB.cell (p := ⟨g, o + j * 5 + 1, none⟩) hg).trans e1
      have d2 : wr.cell? ⟨g, o + j * 5 + 2, none⟩ = some (.int .u64 q.2.a) := (hB.cell (p := ⟨g, o + j * 5 + 2, none⟩) hg).trans e2
      have d3 : wr.cell? ⟨g, o + j * 5 + 3, none⟩ = some (.bool q.2.sp) := (hB.cell (p := ⟨g, o + j * 5 + 3, none⟩) hg).trans e3
      have d4 : wr.cell? ⟨g, o + j * 5 + 4, none⟩ = some (.int .u32 q.2.ct) := (hB.cell (p := ⟨g, o + j * 5 + 4, none⟩) hg).trans e4
      clear e0 e1 e2 e3 e4 hc hq hB hno HNEW
      obtain ⟨qk, ⟨qs, qa, qsp, qct⟩⟩ := q
      simp only at d0 d1 d2 d3 d4 HJ
      by_cases he : qk = d
      · have hr := HJ.out.1 he
        obtain ⟨⟨rfl, rfl⟩, rfl, rfl⟩ : (rn = [] ∧ rc = 7) ∧ rf = f ∧ rl = l := by simpa using hr
        subst he
        clear HJ hr HISS
        go_wp2_with fail
        go_ret2
        exact ⟨rfl, HX.out.below (HB.out.alloc HB.out.size _), Trn.of_below (HB.out.alloc HB.out.size _)⟩
      · have hbe : (qk == d) = false := beq_eq_false_iff_ne.2 he
        have HJ2 := Lib.hid (HJ.out.2 he)
        clear HJ he HISS
        go_wp2_with fail
        exact ⟨⟨j + 1, by omega, by go_num, HJ2.out, HB.out.alloc HB.out.size _⟩, by simp [intOf]; omega⟩
    · obtain rfl : j = l.length := by omega
      rw [List.take_length] at HNO
      have HR := Lib.hid (HNEW.out HNO.out)
      clear hB hno HNEW HISS
      have hxr := HX0.out.below HB.out HX0.out.lt
      have c2 : wr.cell? ⟨X, 2, none⟩ = some (.slice A l.length c) := hxr.at rfl
      have c0 : wr.cell? ⟨X, 0, none⟩ = some (.int .i64 (K : Int)) := hxr.at rfl
      have HXR := Lib.hid (HX.out.below HB.out)
      have HBW : Hid (base ≤ wr.heap.size) := Lib.hid (Nat.le_trans hbase HB.out.size)
      clear hxr
      go_upto_region 13 with fail
      go_cut [57] (fun s57 wx => s57 = .bool (decide (l.length = K) && (swN f now l == 0)) ∧ XR wx base X K f (if l.length = K then swL f now l else l) ∧ Trn [X] w wx)
      case first =>
        by_cases hK : l.length = K
        · have g1 : decide ((K : Int) ≤ (l.length : Int)) = true := decide_eq_true (by omega)
          have g2 : decide (K ≤ l.length) = true := decide_eq_true (by omega)
          have HKK := Lib.hid hK
          clear hK
          go_still_tail 13, (by kernel_rfl)
          change wpList _ _ _ _ _ wr.drew
          go_wp2_with fail
          refine (rsweep_X (HXR.out.below (Below.refl _ _).drew) now n0 n1 (by omega) hok HBW.out).mono ?_
          rintro e w5 ⟨rfl, h5, t5⟩
          have H5 := Lib.hid h5
          have T5 := Lib.hid ((Trn.of_below (S := [X]) HB.out).drew.trans t5)
          obtain ⟨n5, hn5⟩ : ∃ n5, n5 = swN f now l := ⟨_, rfl⟩
          rw [← hn5]
          have HN5 := Lib.hid hn5
          clear h5 t5 hn5
          go_wp2_with fail
          go_meet
          exact ⟨by rw [decide_eq_true HKK.out, ← HN5.out]; rfl, by rw [if_pos HKK.out]; exact H5.out, T5.out⟩
        · have g1 : decide ((K : Int) ≤ (l.length : Int)) = false := decide_eq_false (by omega)
          have g2 : decide (K ≤ l.length) = false := decide_eq_false (by omega)
          have HKK := Lib.hid hK
          clear hK
          go_quiet (fail)
          go_wp2_with fail
          go_meet
          exact ⟨by rw [decide_eq_false HKK.out]; rfl, by rw [if_neg HKK.out]; exact HXR.out.below (below_drewN (Below.refl _ _) _), Trn.of_below (below_drewN HB.out _)⟩
      case rest =>
        clear c2 c0
        obtain ⟨rfl, hxc, htc⟩ := hcut
        obtain ⟨bq, hbq⟩ : ∃ bq, bq = (decide (l.length = K) && (swN f now l == 0)) := ⟨_, rfl⟩
        rw [← hbq]
        have HBQ := Lib.hid hbq
        have HXC := Lib.hid hxc
        have HTC := Lib.hid htc
        clear hbq hxc htc
        go_upto_if 57 with fail
        go_cut [10] (fun s10 wx => XR wx base X K (mrL f now K l).1 (mrL f now K l).2 ∧ Trn [X] w wx)
        case first =>
          cases bq with
          | false =>
            have hm := mrL_on HBQ.out.symm
            have HM := Lib.hid hm
            clear hm
            go_wp2_with fail
            go_meet
            exact ⟨by rw [HM.out]; exact HXC.out, HTC.out⟩
          | true =>
            obtain ⟨hK, hs0⟩ : l.length = K ∧ swN f now l = 0 := by
              have := HBQ.out.symm
              rw [Bool.and_eq_true, decide_eq_true_eq, beq_iff_eq] at this
              exact this
            have hsl : swL f now l = l := swL_none (by omega)
            have hxc := HXC.out
            rw [if_pos hK, hsl] at hxc
            cases l with
            | nil => exfalso; simp at hK; omega
            | cons p t =>
              have HM := Lib.hid (mrL_cut hK hs0)
              have hpa := (hok p (List.mem_cons_self ..)).1
              clear hK hs0 hsl HBQ HXC HNO HXR HX HES HX0 HR
              obtain ⟨v, hX, hE⟩ := hxc
              obtain ⟨V, hr2, hs2⟩ := hE.es.drop 1 1 rfl (by simp)
              obtain ⟨A2, cp2, rfl, hp1, hp2, _, hpb, hfm⟩ := hE.parts
              obtain ⟨g, rfl⟩ := hfm (by simp)
              obtain ⟨e0, e1, e2, e3, e4⟩ := (hE.es.cell (by simp)).1.five 0 (by simp)
              simp only [Nat.zero_add, Nat.zero_mul, List.getElem_cons_zero] at e0 e1 e2 e3 e4
              have x2 : wc.cell? ⟨X, 2, none⟩ = some (.slice (some ⟨g, 0, none⟩) (p :: t).length cp2) := hX.at rfl
              obtain ⟨N, hN⟩ : ∃ N, N = (p :: t).length := ⟨_, rfl⟩
              have hN1 : 1 ≤ N := by rw [hN]; simp
              have hNl : N ≤ 4096 := by rw [hN]; omega
              rw [← hN] at hX hE hr2 hs2 x2 hp1
              have htl : t.length ≤ 4096 := by rw [List.length_cons] at hN; omega
              have hH1 := Lib.hid hX
              have HX1 := hH1
              clear hH1
              have HE1 := Lib.hid hE.es
              have HS2 := Lib.hid hs2
              have hBA : Below wc.heap.size wc (wc.alloc (.cells #[] tR)) := (Below.refl _ _).alloc (Nat.le_refl _) _
              have x3 : (wc.alloc (.cells #[] tR)).cell? ⟨X, 2, none⟩ = some (.slice (some ⟨g, 0, none⟩) N cp2) := (hX.below hBA hX.lt).at rfl
              have HBA := Lib.hid hBA
              have HVA := Lib.hid (HS2.out _ (HE1.out.below hBA (Nat.le_refl _)))
              have HEM := Lib.hid (ER.empty wc)
              have HTL := Lib.hid (show ([] : PL).length + (List.drop 1 (p :: t)).length ≤ 1000000 by simp; omega)
              have HBC := Lib.hid (Nat.le_trans hbase HTC.out.size)
              clear hX hE hs2 hBA hpb hfm hok h1 hcnt hj hlt hN
              go_upto_region 16 with (at_builtin; go_loud ((with_reducible refine wpList_app_es ?g1 (.tmp 66) (.tmp 71) ?g2 wc.heap.size (.slice (some ⟨wc.heap.size, 0, none⟩) 0 0) [] (List.drop 1 (p :: t)) ?g3 ?g4 wc.heap.size V ?g5 ?g6 ?g7 ?g8 ?_); (case g1 => rfl); (case g2 => rfl); (case g3 => rfl); (case g4 => exact HEM.out); (case g5 => rfl); (case g6 => exact HVA.out); (case g7 => exact HTL.out); (case g8 => exact HBA.out.size); intro v1 w2 hv hg; have HB2 := Lib.hid (HBA.out.trans (HEM.out.belowBase hg HBA.out.size)); rw [List.nil_append, List.drop_succ_cons, List.drop_zero] at hv; obtain ⟨A3, cp3, rfl, _, _, _, _, _⟩ := hv.parts; have HST := Lib.hid (XR.st3 HX1.out HB2.out hv (Nat.le_refl _)); have c4 := (HX1.out.below HB2.out HX1.out.lt).at (o := 2) rfl; have f4 := (HX1.out.below HB2.out HX1.out.lt).free 2; clear hv hg))
              obtain ⟨W3, hW3⟩ : ∃ W3, W3 = w2.setCell ⟨X, 2, none⟩ (.slice A3 t.length cp3) := ⟨_, rfl⟩
              rw [← hW3] at HST ⊢
              have y6 : W3.cell? ⟨X, 6, none⟩ = some (.bool f.md) := HST.out.1.at rfl
              have y5 : W3.cell? ⟨X, 5, none⟩ = some (u64v f.mr) := HST.out.1.at rfl
              have z6 := HST.out.1.free 6
              have z5 := HST.out.1.free 5
              have HFM := Lib.hid (hrf.md)
              clear hW3 c4 f4 x2 x3 hr2 e0 e1 e2 e3 e4 hrf
              obtain ⟨md, hmd⟩ : ∃ md, md = f.md := ⟨_, rfl⟩
              obtain ⟨mr, hmr⟩ : ∃ mr, mr = f.mr := ⟨_, rfl⟩
              have HMD := Lib.hid hmd
              rw [← hmd] at y6
              rw [← hmr] at y5
              have HMRR := Lib.hid hmr
              clear hmd hmr
              cases md with
              | false =>
                have HMR : Hid ((if f.mr < p.2.a then p.2.a else f.mr) = p.2.a) := Lib.hid (by
                  have := HFM.out HMD.out.symm
                  rw [this]; split <;> omega)
                go_wp2_with fail
                go_meet
                rw [HM.out]
                have hx := (HST.out.1.set 5 (.int .u64 p.2.a)).set 6 (.bool true)
                have ht := ((Trn.refl [X] W3).set (p := ⟨X, 5, none⟩) (by simp) (.int .u64 p.2.a)).set (p := ⟨X, 6, none⟩) (by simp) (.bool true)
                refine ⟨XR.store (v' := .slice A3 t.length cp3) (w := wc) ?_ HST.out.2.1 ht HX1.out.lt HBC.out, (HTC.out.trans HST.out.2.2).trans ht⟩
                simp only
                rw [HMR.out]
                exact hx
              | true =>
                by_cases hlt2 : mr < p.2.a
                · have dlt : decide (mr < p.2.a) = true := decide_eq_true hlt2
                  have HMR : Hid ((if f.mr < p.2.a then p.2.a else f.mr) = p.2.a) := Lib.hid (by rw [← HMRR.out, if_pos hlt2])
                  clear hlt2
                  go_wp2_with fail
                  go_meet
                  rw [HM.out]
                  have hx := (HST.out.1.set 5 (.int .u64 p.2.a)).set 6 (.bool true)
                  have ht := ((Trn.refl [X] W3).set (p := ⟨X, 5, none⟩) (by simp) (.int .u64 p.2.a)).set (p := ⟨X, 6, none⟩) (by simp) (.bool true)
                  refine ⟨XR.store (v' := .slice A3 t.length cp3) (w := wc) ?_ HST.out.2.1 ht HX1.out.lt HBC.out, (HTC.out.trans HST.out.2.2).trans ht⟩
                  simp only
                  rw [HMR.out]
                  exact hx
                · have dlt : decide (mr < p.2.a) = false := decide_eq_false hlt2
                  have HMR : Hid ((if f.mr < p.2.a then p.2.a else f.mr) = f.mr) := Lib.hid (by rw [← HMRR.out, if_neg hlt2])
                  clear hlt2
                  go_wp2_with fail
                  go_meet
                  rw [HM.out]
                  have hx := HST.out.1.set 6 (.bool true)
                  have ht := (Trn.refl [X] W3).set (p := ⟨X, 6, none⟩) (by simp) (.bool true)
                  refine ⟨XR.store (v' := .slice A3 t.length cp3) (w := wc) ?_ HST.out.2.1 ht HX1.out.lt HBC.out, (HTC.out.trans HST.out.2.2).trans ht⟩
                  simp only
                  rw [HMR.out]
                  exact hx
        case rest =>
          obtain ⟨hxm, htm⟩ := hcut
          obtain ⟨s1, s2, s3⟩ := mrL_se f now K l
          have hcl : (mrL f now K l).2.length ≤ 4096 := Nat.le_trans (mrL_sub f now K l).length_le (by omega)
          have hse0 := hrf.se0
          have hse1 := hrf.se1
          obtain ⟨⟨wd2, se2, la2, mr2, md2⟩, hf2⟩ : ∃ f2, f2 = (mrL f now K l).1 := ⟨_, rfl⟩
          obtain ⟨l2, hl2⟩ : ∃ l2, l2 = (mrL f now K l).2 := ⟨_, rfl⟩
          have hr := HR.out
          rw [← hf2] at s1 s2 s3 hxm hr
          rw [← hl2] at hcl hxm hr
          simp only at s1 s2 s3 hr
          rw [← s1] at hr hse0 hse1
          obtain ⟨rfl, rfl, rfl, rfl⟩ : rn = nonL d (se2 + 1) ∧ rc = 0 ∧ rf = ⟨wd2, se2 + 1, now, mr2, md2⟩ ∧ rl = l2 ++ [(d, ⟨nonL d (se2 + 1), now, false, 0⟩)] := by
            simp only [Prod.mk.injEq] at hr
            exact ⟨hr.1.1, hr.1.2, hr.2.1, hr.2.2⟩
          have HTM := Lib.hid htm
          clear hr s1 s2 s3 hf2 hl2 htm HBQ HXC HTC HR HXR HX0 HX HES HNO hok hrf hcnt h1 hj hlt hla
          obtain ⟨q, hq⟩ : ∃ q : Nat, (q : Int) = se2 + 1 := ⟨(se2 + 1).toNat, by omega⟩
          have hq2 : (se2 + 1).toNat = q := by omega
          have hqb : q < 18446744073709551616 := by omega
          obtain ⟨nn, hnn⟩ : ∃ nn, nn = nonL d (se2 + 1) := ⟨_, rfl⟩
          obtain ⟨dg, hdg⟩ : ∃ dg, dg = encH (be q 8) := ⟨_, rfl⟩
          have hdl : dg.length ≤ 16 := by rw [hdg, encH_len, be_length]; omega
          have hnq : nn = d ++ 46 :: dg := by rw [hnn, hdg]; unfold nonL; rw [hq2]
          have a1 : (ByteArray.mk d.toArray) ++ (ByteArray.mk #[46]) = ByteArray.mk (d ++ [46]).toArray := str_app d [46]
          have a2 : (ByteArray.mk (d ++ [46]).toArray) ++ (ByteArray.mk dg.toArray) = ByteArray.mk nn.toArray := by rw [hnq]; exact (str_app (d ++ [46]) dg).trans (by rw [List.append_assoc]; rfl)
          have HA1 := Lib.hid a1
          have HA2 := Lib.hid a2
          have HQ := Lib.hid hq
          have HDG := Lib.hid hdg
          have HNN := Lib.hid hnn
          clear a1 a2 hq hq2 hnn hdg hnq
          obtain ⟨v, hX, hE⟩ := hxm
          obtain ⟨A2, cp2, rfl, hp1, hp2, _, _, _⟩ := hE.parts
          have x3 : wc.cell? ⟨X, 3, none⟩ = some (u64v se2) := hX.at rfl
          have x4 : wc.cell? ⟨X, 4, none⟩ = some (u64v la2) := hX.at rfl
          have z3 := hX.free 3
          have z4 := hX.free 4
          have HX1 := Lib.hid hX
          have HE1 := Lib.hid hE
          clear hX hE
          go_wp2_with fail
          obtain ⟨W4, hW4⟩ : ∃ W4, W4 = (wc.setCell ⟨X, 3, none⟩ (u64v (se2 + 1))).setCell ⟨X, 4, none⟩ (u64v now) := ⟨_, rfl⟩
          have ht4 : Trn [X] wc W4 := by rw [hW4]; exact ((Trn.refl [X] wc).set (p := ⟨X, 3, none⟩) (by simp) _).set (p := ⟨X, 4, none⟩) (by simp) _
          have hx4 : BlkT W4 X tX (rxC K ⟨wd2, se2 + 1, now, mr2, md2⟩ (.slice A2 l2.length cp2)) := by rw [hW4]; exact (HX1.out.set 3 _).set 4 _
          have he4 := ER.trnX HE1.out ht4 HX1.out
          have HX4 := Lib.hid hx4; have HE4 := Lib.hid he4; have HT4 := Lib.hid (HTM.out.trans ht4)
          rw [← hW4, ← HQ.out]
          clear ht4 hx4 he4 hW4 x3 x4 z3 z4 HX1 HE1 HTM
          refine (bytes8 q W4 hqb).mono ?_
          rintro e w5 ⟨vb5, rfl, hv5, hb5⟩
          have HX5 := Lib.hid (HX4.out.below hb5 HX4.out.lt)
          have HE5 := Lib.hid (ER.below HE4.out hb5)
          have HT5 := Lib.hid (HT4.out.trans (Trn.of_below hb5))
          have HH := Lib.hid (refHex_any w5.heap.size vb5 (be q 8) w5 hv5.sl (Nat.le_refl _) (by rw [be_length]; omega))
          rw [← HDG.out] at HH
          have hda := HA1.out
          have hdb := HA2.out
          clear hv5 hb5 HX4 HE4 HT4
          go_wp2_with fail
          refine HH.out.mono ?_
          rintro e w6 ⟨rfl, hb6⟩
          have hx6 := HX5.out.below hb6 HX5.out.lt
          have HE6 := Lib.hid (ER.below HE5.out hb6)
          have HT6 := Lib.hid (HT5.out.trans (Trn.of_below hb6))
          have hBA : Below w6.heap.size w6 (w6.alloc (.cells #[] tR)) := (Below.refl _ _).alloc (Nat.le_refl _) _
          have x2 : (w6.alloc (.cells #[] tR)).cell? ⟨X, 2, none⟩ = some (.slice A2 l2.length cp2) := (hx6.below hBA hx6.lt).at rfl
          have HBA := Lib.hid hBA
          have HES6 := Lib.hid ((ER.es HE6.out).below hBA (Nat.le_refl _))
          have HEM := Lib.hid (ER.empty w6)
          have HX6 := Lib.hid hx6
          have HTL := Lib.hid (show ([] : PL).length + l2.length ≤ 1000000 by simp; omega)
          have HTL2 := Lib.hid (show ([] ++ l2 : PL).length + [(d, (⟨nn, now, false, 0⟩ : VT))].length ≤ 1000000 by simp; omega)
          have HBC := Lib.hid (show base ≤ w6.heap.size from Nat.le_trans hbase HT6.out.size)
          clear hb6 hx6 hBA HH HX5 HE5 HT5
          go_wp2_with (at_builtin; go_loud (first
            | ((with_reducible refine wpList_app_es ?g1 (.tmp 116) (.tmp 120) ?g2 w6.heap.size (.slice (some ⟨w6.heap.size, 0, none⟩) 0 0) [] l2 ?g3 ?g4 w6.heap.size (.slice A2 l2.length cp2) ?g5 ?g6 ?g7 ?g8 ?_); (case g1 => rfl); (case g2 => rfl); (case g3 => rfl); (case g4 => exact HEM.out); (case g5 => rfl); (case g6 => exact HES6.out); (case g7 => exact HTL.out); (case g8 => exact HBA.out.size); intro v1 w7 hv hg; have HB7 := Lib.hid (HBA.out.trans (HEM.out.belowBase hg HBA.out.size)); have HV7 := Lib.hid hv; clear hv hg)
            | ((with_reducible refine wpList_app_es ?k1 (.tmp 121) (.tmp 126) ?k2 w6.heap.size v1 ([] ++ l2) [(d, ⟨nn, now, false, 0⟩)] ?k3 ?k4 (w7.heap.size + 1) (.slice (some ⟨w7.heap.size, 0, none⟩) 1 1) ?k5 ?k6 ?k7 ?k8 ?_); (case k1 => rfl); (case k2 => rfl); (case k3 => rfl); (case k4 => exact ER.below HV7.out ((Below.refl _ _).alloc (Nat.le_refl _) _)); (case k5 => rfl); (case k6 => exact ES.one w7 (d, ⟨nn, now, false, 0⟩)); (case k7 => exact HTL2.out); (case k8 => exact Nat.le_trans HB7.out.size (by simp)); intro v2 w8 hv hg; have HB8 := Lib.hid ((HB7.out.alloc HB7.out.size (.cells #[strT nn, strT d, .int .u64 now, .bool false, .int .u32 0] tR)).trans ((ER.below HV7.out ((Below.refl _ _).alloc (Nat.le_refl _) (.cells #[strT nn, strT d, .int .u64 now, .bool false, .int .u32 0] tR))).belowBase hg (Nat.le_trans HB7.out.size (by simp)))); rw [List.nil_append] at hv; obtain ⟨A3, cp3, rfl, _, _, _, _, _⟩ := hv.parts; have HST := Lib.hid (XR.st3 HX6.out HB8.out hv (Nat.le_refl _)); have c8 := (HX6.out.below HB8.out HX6.out.lt).at (o := 2) rfl; have f8 := (HX6.out.below HB8.out HX6.out.lt).free 2; clear hv hg)))
          rw [← HNN.out]
          go_ret2
          obtain ⟨q1, q2, q3⟩ := HST.out
          rw [show (l2 ++ [(d, (⟨nn, now, false, 0⟩ : VT))]).length = l2.length + 1 by rw [List.length_append]; rfl] at q1 q2 q3
          refine ⟨rfl, ⟨_, q1, ER.lower ?_ HBC.out⟩, HT6.out.trans q3⟩
          have e1 : (l2 ++ [(d, (⟨nn, now, false, 0⟩ : VT))]).length = l2.length + 1 := by rw [List.length_append]; rfl
          unfold ER at q2 ⊢
          rw [e1] at q2 ⊢
          exact q2
theorem rissue_X (h : XR w base X K f l) (d : List UInt8) (now : Int) (hd : d.length ≤ 100000) (n0 : 0 ≤ now) (n1 : now < 18446744073709551616) (hok : okL l) (hrf : RF f l K) (hbase : base ≤ w.heap.size) :
    Calls Try.prog 28 #[tP X, strT d, u64v now] w fun e w' => e = .returned (.tuple #[strT (issN f l K d now).1.1, .int .i64 (issN f l K d now).1.2]) ∧ XR w' base X K (issN f l K d now).2.1 (issN f l K d now).2.2 ∧ Trn [X] w w' := by
  by_cases h1 : d.length ≤ 40 ∧ noncB d = true
  · by_cases h2 : now < f.la
    · have hi : issN f l K d now = (([], 9), f, l) := by unfold issN; rw [if_neg (by simpa using h1), if_pos h2]
      rw [hi]
      refine (rissue_late h d now h1.1 h1.2 h2).mono ?_
      rintro e w1 ⟨rfl, hb⟩
      exact ⟨rfl, h.below hb, Trn.of_below hb⟩
    · exact rissue_on h d now h1.1 h1.2 h2 n0 n1 hok hrf hbase
  · have hi : issN f l K d now = (([], 4), f, l) := by unfold issN; rw [if_pos h1]
    rw [hi]
    refine (rissue_bad w X d now hd h1).mono ?_
    rintro e w1 ⟨rfl, hb⟩
    exact ⟨rfl, h.below hb, Trn.of_below hb⟩
end
end Go.Proofs.Ythpgdojjecdlcaa
