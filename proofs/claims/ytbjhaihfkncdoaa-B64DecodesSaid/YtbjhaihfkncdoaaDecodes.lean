/- The statement B64Decodes' own text, walked. -/
import Derived.Test.YtbjhaihfkncdoaaForth
import Derived.Test.YtbjhaihfkncdoaaAwake3
import Derived.Test.YtbjhaihfkncdoaaEncodes
namespace Go.Proofs.Ytbjhaihfkncdoaa
open Go.RowKit

theorem unS_len (w : Nat) (hw : w ≤ 8) (al s : List UInt8) : (unS w al s).1.length ≤ s.length := by
  unfold unS
  split
  · simp
  · split
    · show (byts w (s.map (pos al)) (w * s.length / 8)).length ≤ s.length
      rw [byts_length]
      have : w * s.length ≤ 8 * s.length := Nat.mul_le_mul_right _ hw
      omega
    · simp
theorem decS_len (s : List UInt8) : (decS s).1.length ≤ s.length := by
  unfold decS
  split
  · exact Nat.le_trans (unS_len 6 (by decide) _ _) (strip_le 2 s)
  · simp
theorem decU_len (s : List UInt8) : (decU s).1.length ≤ s.length := by
  unfold decU
  split
  · simp
  · exact unS_len 6 (by decide) _ _
theorem decH_len (s : List UInt8) : (decH s).1.length ≤ s.length := by
  unfold decH
  split
  · exact unS_len 4 (by decide) _ _
  · simp
set_option maxRecDepth 100000 in
set_option maxHeartbeats 4000000 in
theorem decodes_any (l : List UInt8) (w : World) (hl : l.length ≤ 9223372036854775807) :
    Calls Try.prog 4 #[str l] w fun e w' => e = .returned (.bool true) ∧ Below w.heap.size w w' := by
  go_enter Try.func4, Try.ntmps4
  go_wp2_with fail
  refine (awake3 w).mono ?_
  rintro e w1 ⟨rfl, hb⟩
  have HB0 := Lib.hid hb; clear hb
  go_wp2_with fail
  refine (cutText_any l 200 w1 hl (by decide) (by decide)).mono ?_
  rintro e w1' ⟨rfl, rfl⟩
  obtain ⟨p, hp⟩ : ∃ p, p = l.take (200 : Int).toNat := ⟨_, rfl⟩
  rw [← hp]
  have hp200 : p.length ≤ 200 := by rw [hp, List.length_take]; exact Nat.min_le_left _ _
  clear hp
  obtain ⟨ls, hls⟩ : ∃ ls, ls = (decS p).1 := ⟨_, rfl⟩
  obtain ⟨lu, hlu⟩ : ∃ lu, lu = (decU p).1 := ⟨_, rfl⟩
  obtain ⟨lh, hlh⟩ : ∃ lh, lh = (decH p).1 := ⟨_, rfl⟩
  obtain ⟨es, hes⟩ : ∃ es, es = (decS p).2 := ⟨_, rfl⟩
  obtain ⟨eu, heu⟩ : ∃ eu, eu = (decU p).2 := ⟨_, rfl⟩
  obtain ⟨eh, heh⟩ : ∃ eh, eh = (decH p).2 := ⟨_, rfl⟩
  have hls2 : ls.length ≤ 200 := by rw [hls]; exact Nat.le_trans (decS_len p) hp200
  have hlu2 : lu.length ≤ 200 := by rw [hlu]; exact Nat.le_trans (decU_len p) hp200
  have hlh2 : lh.length ≤ 200 := by rw [hlh]; exact Nat.le_trans (decH_len p) hp200
  have HES : Hid (es = 0 → encS ls = p) := Lib.hid (fun h => by rw [hls]; exact enc_decS p (by rw [← hes]; exact h))
  have HEU : Hid (eu = 0 → encU lu = p) := Lib.hid (fun h => by rw [hlu]; exact enc_decU p (by rw [← heu]; exact h))
  have HEH : Hid (eh = 0 → encH lh = p) := Lib.hid (fun h => by rw [hlh]; exact enc_decH p (by rw [← heh]; exact h))
  have Hls := Lib.hid hls; clear hls
  have Hlu := Lib.hid hlu; clear hlu
  have Hlh := Lib.hid hlh; clear hlh
  have Hes := Lib.hid hes; clear hes
  have Heu := Lib.hid heu; clear heu
  have Heh := Lib.hid heh; clear heh
  go_wp2_with fail
  refine (decode_any p w1 (by omega)).mono ?_
  rintro e x1 ⟨d0, rfl, hO, hb⟩
  rw [← Hls.out] at hO
  rw [← Hes.out]
  have S0 := Lib.hid hO.sl; clear hO
  have HB1 := Lib.hid (HB0.out.trans (hb.mono HB0.out.size)); clear hb HB0
  go_wp2_with fail
  refine (refDecode_all p false x1 (by omega)).mono ?_
  rintro e x2 ⟨d1, rfl, hO, hb⟩
  rw [show decX false p = decS p from rfl] at hO ⊢
  rw [← Hls.out] at hO
  rw [← Hes.out]
  have S0' := Lib.hid ((S0.out.below hb (Nat.le_refl _)).more hb.size); clear S0; have S0 := S0'; clear S0'
  have S1 := Lib.hid hO.sl; clear hO
  have HB2 := Lib.hid (HB1.out.trans (hb.mono HB1.out.size)); clear hb HB1
  go_wp2_with fail
  refine (decodeURL_any p x2 (by omega)).mono ?_
  rintro e x3 ⟨d2, rfl, hO, hb⟩
  rw [← Hlu.out] at hO
  rw [← Heu.out]
  have S0' := Lib.hid ((S0.out.below hb (Nat.le_refl _)).more hb.size); clear S0; have S0 := S0'; clear S0'
  have S1' := Lib.hid ((S1.out.below hb (Nat.le_refl _)).more hb.size); clear S1; have S1 := S1'; clear S1'
  have S2 := Lib.hid hO.sl; clear hO
  have HB3 := Lib.hid (HB2.out.trans (hb.mono HB2.out.size)); clear hb HB2
  go_wp2_with fail
  refine (refDecode_all p true x3 (by omega)).mono ?_
  rintro e x4 ⟨d3, rfl, hO, hb⟩
  rw [show decX true p = decU p from rfl] at hO ⊢
  rw [← Hlu.out] at hO
  rw [← Heu.out]
  have S0' := Lib.hid ((S0.out.below hb (Nat.le_refl _)).more hb.size); clear S0; have S0 := S0'; clear S0'
  have S1' := Lib.hid ((S1.out.below hb (Nat.le_refl _)).more hb.size); clear S1; have S1 := S1'; clear S1'
  have S2' := Lib.hid ((S2.out.below hb (Nat.le_refl _)).more hb.size); clear S2; have S2 := S2'; clear S2'
  have S3 := Lib.hid hO.sl; clear hO
  have HB4 := Lib.hid (HB3.out.trans (hb.mono HB3.out.size)); clear hb HB3
  go_wp2_with fail
  refine (unhex_any p x4 (by omega)).mono ?_
  rintro e x5 ⟨d4, rfl, hO, hb⟩
  rw [← Hlh.out] at hO
  rw [← Heh.out]
  have S0' := Lib.hid ((S0.out.below hb (Nat.le_refl _)).more hb.size); clear S0; have S0 := S0'; clear S0'
  have S1' := Lib.hid ((S1.out.below hb (Nat.le_refl _)).more hb.size); clear S1; have S1 := S1'; clear S1'
  have S2' := Lib.hid ((S2.out.below hb (Nat.le_refl _)).more hb.size); clear S2; have S2 := S2'; clear S2'
  have S3' := Lib.hid ((S3.out.below hb (Nat.le_refl _)).more hb.size); clear S3; have S3 := S3'; clear S3'
  have S4 := Lib.hid hO.sl; clear hO
  have HB5 := Lib.hid (HB4.out.trans (hb.mono HB4.out.size)); clear hb HB4
  go_wp2_with fail
  refine (refUnhex_any p x5 (by omega)).mono ?_
  rintro e x6 ⟨d5, rfl, hO, hb⟩
  rw [← Hlh.out] at hO
  rw [← Heh.out]
  have S0' := Lib.hid ((S0.out.below hb (Nat.le_refl _)).more hb.size); clear S0; have S0 := S0'; clear S0'
  have S1' := Lib.hid ((S1.out.below hb (Nat.le_refl _)).more hb.size); clear S1; have S1 := S1'; clear S1'
  have S2' := Lib.hid ((S2.out.below hb (Nat.le_refl _)).more hb.size); clear S2; have S2 := S2'; clear S2'
  have S3' := Lib.hid ((S3.out.below hb (Nat.le_refl _)).more hb.size); clear S3; have S3 := S3'; clear S3'
  have S4' := Lib.hid ((S4.out.below hb (Nat.le_refl _)).more hb.size); clear S4; have S4 := S4'; clear S4'
  have S5 := Lib.hid hO.sl; clear hO
  have HB6 := Lib.hid (HB5.out.trans (hb.mono HB5.out.size)); clear hb HB5
  go_wp2_with fail
  refine (same_yes x6.heap.size d0 d1 ls x6 S0.out S1.out).mono ?_
  rintro e y ⟨rfl, rfl⟩
  go_wp2_with fail
  refine (same_yes x6.heap.size d2 d3 lu x6 S2.out S3.out).mono ?_
  rintro e y ⟨rfl, rfl⟩
  go_wp2_with fail
  refine (same_yes x6.heap.size d4 d5 lh x6 S4.out S5.out).mono ?_
  rintro e y ⟨rfl, rfl⟩
  by_cases hes : es = 0
  · have Ges := Lib.hid (HES.out hes)
    have bes : (es == 0) = true := beq_iff_eq.2 hes
    have ces : (es != 0) = false := by rw [bne_eq_false_iff_eq]; exact hes
    clear hes
    by_cases heu : eu = 0
    · have Geu := Lib.hid (HEU.out heu)
      have beu : (eu == 0) = true := beq_iff_eq.2 heu
      have ceu : (eu != 0) = false := by rw [bne_eq_false_iff_eq]; exact heu
      clear heu
      by_cases heh : eh = 0
      · have Geh := Lib.hid (HEH.out heh)
        have beh : (eh == 0) = true := beq_iff_eq.2 heh
        have ceh : (eh != 0) = false := by rw [bne_eq_false_iff_eq]; exact heh
        clear heh
        go_wp2_with fail
        refine (encode_any x6.heap.size d0 ls x6 S0.out (Nat.le_refl _) (by omega)).mono ?_
        rintro e z1 ⟨rfl, hb⟩
        rw [Ges.out]
        have K1 := Lib.hid (hb); clear hb
        go_wp2_with fail
        refine (encodeURL_any x6.heap.size d2 lu z1 (S2.out.below K1.out (Nat.le_refl _)) K1.out.size (by omega)).mono ?_
        rintro e z2 ⟨rfl, hb⟩
        rw [Geu.out]
        have K2 := Lib.hid (K1.out.trans (hb.mono K1.out.size)); clear hb
        go_wp2_with fail
        refine (hex_any x6.heap.size d4 lh z2 (S4.out.below K2.out (Nat.le_refl _)) K2.out.size (by omega)).mono ?_
        rintro e z3 ⟨rfl, hb⟩
        rw [Geh.out]
        have K3 := Lib.hid (K2.out.trans (hb.mono K2.out.size)); clear hb
        go_wp2_with fail
        go_ret
        exact ⟨rfl, HB6.out.trans (K3.out.mono HB6.out.size)⟩
      · have beh : (eh == 0) = false := beq_eq_false_iff_ne.2 heh
        have ceh : (eh != 0) = true := by rw [bne_iff_ne]; exact heh
        clear heh
        go_wp2_with fail
        refine (encode_any x6.heap.size d0 ls x6 S0.out (Nat.le_refl _) (by omega)).mono ?_
        rintro e z1 ⟨rfl, hb⟩
        rw [Ges.out]
        have K1 := Lib.hid (hb); clear hb
        go_wp2_with fail
        refine (encodeURL_any x6.heap.size d2 lu z1 (S2.out.below K1.out (Nat.le_refl _)) K1.out.size (by omega)).mono ?_
        rintro e z2 ⟨rfl, hb⟩
        rw [Geu.out]
        have K2 := Lib.hid (K1.out.trans (hb.mono K1.out.size)); clear hb
        go_wp2_with fail
        go_ret
        exact ⟨rfl, HB6.out.trans (K2.out.mono HB6.out.size)⟩
    · have beu : (eu == 0) = false := beq_eq_false_iff_ne.2 heu
      have ceu : (eu != 0) = true := by rw [bne_iff_ne]; exact heu
      clear heu
      by_cases heh : eh = 0
      · have Geh := Lib.hid (HEH.out heh)
        have beh : (eh == 0) = true := beq_iff_eq.2 heh
        have ceh : (eh != 0) = false := by rw [bne_eq_false_iff_eq]; exact heh
        clear heh
        go_wp2_with fail
        refine (encode_any x6.heap.size d0 ls x6 S0.out (Nat.le_refl _) (by omega)).mono ?_
        rintro e z1 ⟨rfl, hb⟩
        rw [Ges.out]
        have K1 := Lib.hid (hb); clear hb
        go_wp2_with fail
        refine (hex_any x6.heap.size d4 lh z1 (S4.out.below K1.out (Nat.le_refl _)) K1.out.size (by omega)).mono ?_
        rintro e z2 ⟨rfl, hb⟩
        rw [Geh.out]
        have K2 := Lib.hid (K1.out.trans (hb.mono K1.out.size)); clear hb
        go_wp2_with fail
        go_ret
        exact ⟨rfl, HB6.out.trans (K2.out.mono HB6.out.size)⟩
      · have beh : (eh == 0) = false := beq_eq_false_iff_ne.2 heh
        have ceh : (eh != 0) = true := by rw [bne_iff_ne]; exact heh
        clear heh
        go_wp2_with fail
        refine (encode_any x6.heap.size d0 ls x6 S0.out (Nat.le_refl _) (by omega)).mono ?_
        rintro e z1 ⟨rfl, hb⟩
        rw [Ges.out]
        have K1 := Lib.hid (hb); clear hb
        go_wp2_with fail
        go_ret
        exact ⟨rfl, HB6.out.trans (K1.out.mono HB6.out.size)⟩
  · have bes : (es == 0) = false := beq_eq_false_iff_ne.2 hes
    have ces : (es != 0) = true := by rw [bne_iff_ne]; exact hes
    clear hes
    by_cases heu : eu = 0
    · have Geu := Lib.hid (HEU.out heu)
      have beu : (eu == 0) = true := beq_iff_eq.2 heu
      have ceu : (eu != 0) = false := by rw [bne_eq_false_iff_eq]; exact heu
      clear heu
      by_cases heh : eh = 0
      · have Geh := Lib.hid (HEH.out heh)
        have beh : (eh == 0) = true := beq_iff_eq.2 heh
        have ceh : (eh != 0) = false := by rw [bne_eq_false_iff_eq]; exact heh
        clear heh
        go_wp2_with fail
        refine (encodeURL_any x6.heap.size d2 lu x6 S2.out (Nat.le_refl _) (by omega)).mono ?_
        rintro e z1 ⟨rfl, hb⟩
        rw [Geu.out]
        have K1 := Lib.hid (hb); clear hb
        go_wp2_with fail
        refine (hex_any x6.heap.size d4 lh z1 (S4.out.below K1.out (Nat.le_refl _)) K1.out.size (by omega)).mono ?_
        rintro e z2 ⟨rfl, hb⟩
        rw [Geh.out]
        have K2 := Lib.hid (K1.out.trans (hb.mono K1.out.size)); clear hb
        go_wp2_with fail
        go_ret
        exact ⟨rfl, HB6.out.trans (K2.out.mono HB6.out.size)⟩
      · have beh : (eh == 0) = false := beq_eq_false_iff_ne.2 heh
        have ceh : (eh != 0) = true := by rw [bne_iff_ne]; exact heh
        clear heh
        go_wp2_with fail
        refine (encodeURL_any x6.heap.size d2 lu x6 S2.out (Nat.le_refl _) (by omega)).mono ?_
        rintro e z1 ⟨rfl, hb⟩
        rw [Geu.out]
        have K1 := Lib.hid (hb); clear hb
        go_wp2_with fail
        go_ret
        exact ⟨rfl, HB6.out.trans (K1.out.mono HB6.out.size)⟩
    · have beu : (eu == 0) = false := beq_eq_false_iff_ne.2 heu
      have ceu : (eu != 0) = true := by rw [bne_iff_ne]; exact heu
      clear heu
      by_cases heh : eh = 0
      · have Geh := Lib.hid (HEH.out heh)
        have beh : (eh == 0) = true := beq_iff_eq.2 heh
        have ceh : (eh != 0) = false := by rw [bne_eq_false_iff_eq]; exact heh
        clear heh
        go_wp2_with fail
        refine (hex_any x6.heap.size d4 lh x6 S4.out (Nat.le_refl _) (by omega)).mono ?_
        rintro e z1 ⟨rfl, hb⟩
        rw [Geh.out]
        have K1 := Lib.hid (hb); clear hb
        go_wp2_with fail
        go_ret
        exact ⟨rfl, HB6.out.trans (K1.out.mono HB6.out.size)⟩
      · have beh : (eh == 0) = false := beq_eq_false_iff_ne.2 heh
        have ceh : (eh != 0) = true := by rw [bne_iff_ne]; exact heh
        clear heh
        go_wp2_with fail
        go_ret
        exact ⟨rfl, HB6.out⟩
end Go.Proofs.Ytbjhaihfkncdoaa
