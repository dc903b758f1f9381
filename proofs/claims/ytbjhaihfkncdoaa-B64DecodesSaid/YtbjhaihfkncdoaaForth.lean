/- What is decoded is encoded to the same text. -/
import Derived.Test.YtbjhaihfkncdoaaRefUnhex
namespace Go.Proofs.Ytbjhaihfkncdoaa
open Go.RowKit

theorem num_numW (l : List UInt8) : num l = numW 8 (l.map UInt8.toNat) := by
  unfold num numW
  rw [List.foldl_map]
theorem num_byts (w : Nat) (vs : List Nat) (hv : ∀ d ∈ vs, d < 2 ^ w) : num (byts w vs (w * vs.length / 8)) = numW w vs / 2 ^ (w * vs.length % 8) := by
  have hN := numW_lt w vs hv
  generalize hn : w * vs.length = t at *
  have hd := Nat.div_add_mod t 8
  have hlt : numW w vs / 2 ^ (t % 8) < 2 ^ (8 * (t / 8)) := by
    rw [Nat.div_lt_iff_lt_mul (Nat.two_pow_pos _), ← Nat.pow_add, hd]; exact hN
  have h := numW_digits 8 (numW w vs / 2 ^ (t % 8)) (t / 8) hlt _ (Nat.le_refl _)
  rw [Nat.sub_self, Nat.pow_zero, Nat.div_one] at h
  rw [num_numW, ← h]
  congr 1
  unfold byts
  rw [List.map_map]
  apply List.map_congr_left
  intro k hk
  rw [List.mem_range] at hk
  simp only [Function.comp]
  unfold byt
  rw [hn, UInt8.toNat_ofNat', Nat.div_div_eq_div_mul, ← Nat.pow_add]
  congr 3
  omega
theorem numW_digit (w : Nat) (vs : List Nat) (hv : ∀ d ∈ vs, d < 2 ^ w) (k : Nat) (hk : k < vs.length) : numW w vs / 2 ^ (w * vs.length - w * (k + 1)) % 2 ^ w = vs.getD k 0 := by
  have e : vs = vs.take k ++ [vs.getD k 0] ++ vs.drop (k + 1) := by
    have e1 : vs.take (k + 1) = vs.take k ++ [vs.getD k 0] := by
      rw [List.take_succ_eq_append_getElem hk, List.getD_eq_getElem?_getD, List.getElem?_eq_getElem hk]; rfl
    rw [← e1, List.take_append_drop]
  have hl : (vs.drop (k + 1)).length = vs.length - (k + 1) := by rw [List.length_drop]
  have h3 := numW_lt w (vs.drop (k + 1)) (fun d hd => hv d (List.mem_of_mem_drop hd))
  have hx : vs.getD k 0 < 2 ^ w := by
    rw [List.getD_eq_getElem?_getD, List.getElem?_eq_getElem hk]; exact hv _ (List.getElem_mem hk)
  rw [hl, Nat.mul_sub] at h3
  conv => lhs; lhs; lhs; rw [e]
  rw [numW_append, numW_snoc, hl, Nat.mul_sub]
  generalize w * vs.length - w * (k + 1) = r at *
  rw [Nat.mul_comm _ (2 ^ r), Nat.mul_add_div (Nat.two_pow_pos _), Nat.div_eq_of_lt h3, Nat.add_zero, Nat.mul_comm, Nat.mul_add_mod, Nat.mod_eq_of_lt hx]
theorem letters_byts (w : Nat) (hw : 0 < w) (hw8 : w ≤ 8) (al : List UInt8) (ha : al.length = 2 ^ w) (p : List UInt8) (hp : ∀ c ∈ p, 0 ≤ Lib.indexByte al c) (hu : unused w (p.map (pos al)) = 0) (hr : w * p.length % 8 < w) :
    letters w al (byts w (p.map (pos al)) (w * p.length / 8)) = p := by
  obtain ⟨vs, hvs⟩ : ∃ vs, vs = p.map (pos al) := ⟨_, rfl⟩
  have hvl : vs.length = p.length := by rw [hvs, List.length_map]
  have hv : ∀ d ∈ vs, d < 2 ^ w := fun d hd => by
    rw [hvs, List.mem_map] at hd
    obtain ⟨c, _, rfl⟩ := hd
    rw [← ha]; exact pos_lt al c (by rw [ha]; exact Nat.two_pow_pos w)
  have hnum := num_byts w vs hv
  rw [← hvs] at hu ⊢
  rw [hvl] at hnum
  unfold unused at hu
  rw [hvl] at hu
  obtain ⟨bs, hbs⟩ : ∃ bs, bs = byts w vs (w * p.length / 8) := ⟨_, rfl⟩
  have hbl : bs.length = w * p.length / 8 := by rw [hbs, byts_length]
  rw [← hbs] at hnum ⊢
  have hm : many w bs.length = p.length := by
    unfold many
    rw [hbl]
    have h1 : 8 * (w * p.length / 8) + w - 1 = w * p.length + (w - 1 - w * p.length % 8) := by omega
    rw [h1, Nat.mul_add_div hw, Nat.div_eq_of_lt (by omega), Nat.add_zero]
  apply List.ext_getElem
  · rw [letters_length, hm]
  · intro k h1 h2
    have hk : k < many w bs.length := by rw [hm]; exact h2
    have hd := dig_many w hw bs k hk
    have hback : num bs * 2 ^ (w * p.length % 8) = numW w vs := by
      rw [hnum]
      have := Nat.div_add_mod (numW w vs) (2 ^ (w * p.length % 8))
      rw [hu, Nat.add_zero, Nat.mul_comm] at this
      exact this
    rw [hm, hbl, show w * p.length - 8 * (w * p.length / 8) = w * p.length % 8 by omega, hback, ← hvl, numW_digit w vs hv k (by rw [hvl]; exact h2)] at hd
    have e : (letters w al bs)[k] = al.getD (dig w bs k) 0 := by unfold letters; simp
    rw [e, hd, hvs]
    have e2 : (p.map (pos al)).getD k 0 = pos al p[k] := by simp [List.getD_eq_getElem?_getD, h2]
    rw [e2]
    obtain ⟨o, ho⟩ := Int.eq_ofNat_of_zero_le (hp p[k] (List.getElem_mem h2))
    have h3 := (Lib.indexByte_some ho).1
    unfold pos
    rw [ho, Int.toNat_natCast, List.getD_eq_getElem?_getD, h3]; rfl
theorem unS_back (w : Nat) (hw : 0 < w) (hw8 : w ≤ 8) (al : List UInt8) (ha : al.length = 2 ^ w) (p : List UInt8) (hr : w * p.length % 8 < w) (h : (unS w al p).2 = 0) : letters w al (unS w al p).1 = p := by
  unfold unS at h ⊢
  by_cases h1 : p.any (fun c => decide (Lib.indexByte al c < 0)) = true
  · rw [if_pos h1] at h; simp at h
  · rw [if_neg h1] at h ⊢
    by_cases h2 : unused w (p.map (pos al)) = 0
    · rw [if_pos h2]
      refine letters_byts w hw hw8 al ha p (fun c hc => ?_) h2 hr
      by_cases h0 : 0 ≤ Lib.indexByte al c
      · exact h0
      · exact absurd (by rw [List.any_eq_true]; exact ⟨c, hc, by simpa using h0⟩) h1
    · rw [if_neg h2] at h; simp at h
theorem trim_back (s : List UInt8) : Lib.trimSuffix s [61] ++ List.replicate (s.length - (Lib.trimSuffix s [61]).length) 61 = s := by
  rw [trim_last]
  split
  · rename_i h
    have hlt : s.length - 1 < s.length := by omega
    have e := List.take_succ_eq_append_getElem hlt
    rw [show s.length - 1 + 1 = s.length by omega, List.take_length] at e
    have h2 := h.2
    rw [List.getElem?_eq_getElem hlt] at h2
    injection h2 with h2
    rw [h2] at e
    rw [List.length_take, show s.length - min (s.length - 1) s.length = 1 by omega]
    exact e.symm
  · rw [Nat.sub_self, List.replicate_zero, List.append_nil]
theorem fill_strip (s : List UInt8) (h : s.length % 4 = 0) : fill (strip 2 s) = s ∧ (strip 2 s).length % 4 ≠ 1 := by
  have h1 := trim_back s
  have h2 := trim_back (Lib.trimSuffix s [61])
  have l1 : s.length ≤ (Lib.trimSuffix s [61]).length + 1 := by
    rw [trim_last]; split
    · rw [List.length_take]; omega
    · omega
  have l2 : (Lib.trimSuffix s [61]).length ≤ (Lib.trimSuffix (Lib.trimSuffix s [61]) [61]).length + 1 := by
    rw [trim_last (Lib.trimSuffix s [61])]; split
    · rw [List.length_take]; omega
    · omega
  have l3 := trim_le s [61]
  have l4 := trim_le (Lib.trimSuffix s [61]) [61]
  have e : strip 2 s = Lib.trimSuffix (Lib.trimSuffix s [61]) [61] := rfl
  rw [← e] at h2 l2 l4
  have e2 : strip 2 s ++ List.replicate (s.length - (strip 2 s).length) 61 = s := by
    have e3 : List.replicate (s.length - (strip 2 s).length) (61 : UInt8) = List.replicate ((Lib.trimSuffix s [61]).length - (strip 2 s).length) 61 ++ List.replicate (s.length - (Lib.trimSuffix s [61]).length) 61 := by
      rw [List.replicate_append_replicate]; congr 1; omega
    rw [e3, ← List.append_assoc, h2, h1]
  refine ⟨?_, by omega⟩
  unfold fill
  rw [show (4 - (strip 2 s).length % 4) % 4 = s.length - (strip 2 s).length by omega]
  exact e2
theorem enc_decS (s : List UInt8) (h : (decS s).2 = 0) : encS (decS s).1 = s := by
  unfold decS at h ⊢
  by_cases h4 : s.length % 4 = 0
  · rw [if_pos h4] at h ⊢
    obtain ⟨h1, h2⟩ := fill_strip s h4
    unfold encS
    rw [unS_back 6 (by decide) (by decide) alS rfl _ (by omega) h]
    exact h1
  · rw [if_neg h4] at h; simp at h
theorem enc_decU (s : List UInt8) (h : (decU s).2 = 0) : encU (decU s).1 = s := by
  unfold decU at h ⊢
  by_cases h4 : s.length % 4 = 1
  · rw [if_pos h4] at h; simp at h
  · rw [if_neg h4] at h ⊢
    exact unS_back 6 (by decide) (by decide) alU rfl _ (by omega) h
theorem enc_decH (s : List UInt8) (h : (decH s).2 = 0) : encH (decH s).1 = s := by
  unfold decH at h ⊢
  by_cases h4 : s.length % 2 = 0
  · rw [if_pos h4] at h ⊢
    exact unS_back 4 (by decide) (by decide) alH rfl _ (by omega) h
  · rw [if_neg h4] at h; simp at h
end Go.Proofs.Ytbjhaihfkncdoaa
