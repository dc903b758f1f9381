/- What is encoded comes back. -/
import Derived.Test.YtbjhaihfkncdoaaUnhex
import Derived.Test.YtbjhaihfkncdoaaNumB
namespace Go.Proofs.Ytbjhaihfkncdoaa
open Go.RowKit

/-- The digits of a number, put together again. -/
theorem numW_digits (w N m : Nat) (hN : N < 2 ^ (w * m)) : ∀ q, q ≤ m → numW w ((List.range q).map fun k => N / 2 ^ (w * m - w * (k + 1)) % 2 ^ w) = N / 2 ^ (w * m - w * q) := by
  intro q
  induction q with
  | zero => intro _; rw [Nat.mul_zero, Nat.sub_zero, Nat.div_eq_of_lt hN]; rfl
  | succ q ih =>
    intro hq
    rw [List.range_succ, List.map_append, List.map_singleton, numW_snoc, ih (by omega)]
    have h1 : w * (q + 1) ≤ w * m := Nat.mul_le_mul_left _ hq
    have h2 : w * (q + 1) = w * q + w := Nat.mul_succ w q
    have e : w * m - w * q = (w * m - w * (q + 1)) + w := by omega
    rw [e, Nat.pow_add, ← Nat.div_div_eq_div_mul, Nat.mul_comm]
    exact Nat.div_add_mod _ _
/-- Where the last digit ends. -/
theorem many_le (w n : Nat) (hw : 0 < w) : 8 * n ≤ w * many w n ∧ w * many w n < 8 * n + w := by
  unfold many
  have h1 := Nat.div_add_mod (8 * n + w - 1) w
  have h2 := Nat.mod_lt (8 * n + w - 1) hw
  omega
theorem dig_many (w : Nat) (hw : 0 < w) (l : List UInt8) (k : Nat) (hk : k < many w l.length) : dig w l k = num l * 2 ^ (w * many w l.length - 8 * l.length) / 2 ^ (w * many w l.length - w * (k + 1)) % 2 ^ w := by
  obtain ⟨h1, h2⟩ := many_le w l.length hw
  generalize many w l.length = m at *
  have h3 : w * (k + 1) ≤ w * m := Nat.mul_le_mul_left _ hk
  have h4 : w * (k + 1) = w * k + w := Nat.mul_succ w k
  unfold dig
  have e1 : w = (w * m - 8 * l.length) + (w - (w * m - 8 * l.length)) := by omega
  have e2 : 8 * l.length - w * k = (w * m - w * (k + 1)) + (w - (w * m - 8 * l.length)) := by omega
  congr 1
  conv => lhs; rw [e2]
  have e3 : num l * 2 ^ w = num l * 2 ^ (w * m - 8 * l.length) * 2 ^ (w - (w * m - 8 * l.length)) := by rw [Nat.mul_assoc, ← Nat.pow_add, ← e1]
  rw [e3, Nat.pow_add, Nat.mul_div_mul_right _ _ (Nat.two_pow_pos _)]
theorem numW_letters (w : Nat) (hw : 0 < w) (l : List UInt8) : numW w ((List.range (many w l.length)).map (dig w l)) = num l * 2 ^ (w * many w l.length - 8 * l.length) := by
  have hN : num l * 2 ^ (w * many w l.length - 8 * l.length) < 2 ^ (w * many w l.length) := by
    have h1 := num_lt l
    have h2 := many_le w l.length hw
    have e : 2 ^ (w * many w l.length) = 2 ^ (8 * l.length) * 2 ^ (w * many w l.length - 8 * l.length) := by rw [← Nat.pow_add]; congr 1; omega
    rw [e, ← p256]
    exact Nat.mul_lt_mul_of_pos_right h1 (Nat.two_pow_pos _)
  have h := numW_digits w _ (many w l.length) hN _ (Nat.le_refl _)
  rw [Nat.sub_self, Nat.pow_zero, Nat.div_one] at h
  rw [← h]
  congr 1
  apply List.map_congr_left
  intro k hk
  rw [List.mem_range] at hk
  exact dig_many w hw l k hk
/-- An alphabet in which each letter has its own place. -/
def Alph (w : Nat) (al : List UInt8) : Prop := al.length = 2 ^ w ∧ ∀ d, d < 2 ^ w → Lib.indexByte al (al.getD d 0) = d
theorem alph_S : Alph 6 alS := ⟨rfl, fun d hd => by
  have : ∀ d : Fin 64, Lib.indexByte alS (alS.getD d.val 0) = d.val := by decide +kernel
  exact this ⟨d, hd⟩⟩
theorem alph_U : Alph 6 alU := ⟨rfl, fun d hd => by
  have : ∀ d : Fin 64, Lib.indexByte alU (alU.getD d.val 0) = d.val := by decide +kernel
  exact this ⟨d, hd⟩⟩
theorem alph_H : Alph 4 alH := ⟨rfl, fun d hd => by
  have : ∀ d : Fin 16, Lib.indexByte alH (alH.getD d.val 0) = d.val := by decide +kernel
  exact this ⟨d, hd⟩⟩
theorem byts_get (w : Nat) (vs : List Nat) (m j : Nat) (h : j < (byts w vs m).length) : (byts w vs m)[j] = byt w vs j := by simp [byts]
theorem unS_letters (w : Nat) (hw : 0 < w) (hw8 : w ≤ 8) (al : List UInt8) (ha : Alph w al) (l : List UInt8) : unS w al (letters w al l) = (l, 0) := by
  have hvs : (List.range (many w l.length)).map (dig w l) = (letters w al l).map (pos al) := by
    unfold letters
    rw [List.map_map]
    apply List.map_congr_left
    intro k _
    simp only [Function.comp]
    unfold pos
    rw [ha.2 _ (dig_lt w l k)]; rfl
  obtain ⟨h1, h2⟩ := many_le w l.length hw
  have hN := numW_letters w hw l
  have hlen : ((List.range (many w l.length)).map (dig w l)).length = many w l.length := by simp
  have hu : unused w ((List.range (many w l.length)).map (dig w l)) = 0 := by
    unfold unused
    rw [hN, hlen, show w * many w l.length % 8 = w * many w l.length - 8 * l.length by omega, Nat.mul_mod_left]
  rw [unS_ok w al (letters w al l) _ hvs (fun c hc => by
    unfold letters at hc
    rw [List.mem_map] at hc
    obtain ⟨k, _, rfl⟩ := hc
    rw [ha.2 _ (dig_lt w l k)]; omega) hu, letters_length, show w * many w l.length / 8 = l.length by omega]
  congr 1
  apply List.ext_getElem
  · rw [byts_length]
  · intro j hj hj2
    rw [byts_get]
    unfold byt
    rw [hN, hlen]
    have e : w * many w l.length - 8 * (j + 1) = (w * many w l.length - 8 * l.length) + 8 * (l.length - 1 - j) := by omega
    rw [e, Nat.pow_add, Nat.mul_comm (num l), Nat.mul_div_mul_left _ _ (Nat.two_pow_pos _), ← p256]
    apply UInt8.toNat_inj.1
    rw [UInt8.toNat_ofNat']
    have := num_byte l j hj2
    rw [List.getD_eq_getElem?_getD, List.getElem?_eq_getElem hj2] at this
    exact this
theorem trim_snoc (x : List UInt8) : Lib.trimSuffix (x ++ [61]) [61] = x := by
  unfold Lib.trimSuffix Lib.hasSuffix
  rw [if_pos (by simp)]
  simp
theorem trim_other (x : List UInt8) (h : ∀ c ∈ x, c ≠ 61) : Lib.trimSuffix x [61] = x := by
  unfold Lib.trimSuffix Lib.hasSuffix
  rw [if_neg]
  intro hs
  rw [List.isSuffixOf_iff_suffix] at hs
  obtain ⟨y, hy⟩ := hs
  exact h 61 (by rw [← hy]; simp) rfl
theorem strip_fill (x : List UInt8) (h : ∀ c ∈ x, c ≠ 61) (h1 : x.length % 4 ≠ 1) : strip 2 (fill x) = x := by
  unfold fill
  have hc : (4 - x.length % 4) % 4 = 0 ∨ (4 - x.length % 4) % 4 = 1 ∨ (4 - x.length % 4) % 4 = 2 := by omega
  show Lib.trimSuffix (Lib.trimSuffix (x ++ List.replicate ((4 - x.length % 4) % 4) 61) [61]) [61] = x
  rcases hc with hc | hc | hc <;> rw [hc]
  · rw [List.replicate_zero, List.append_nil, trim_other x h, trim_other x h]
  · rw [show List.replicate 1 (61 : UInt8) = [61] from rfl, trim_snoc, trim_other x h]
  · rw [show List.replicate 2 (61 : UInt8) = [61] ++ [61] from rfl, ← List.append_assoc, trim_snoc, trim_snoc]
theorem letters_ne (l : List UInt8) : ∀ c ∈ letters 6 alS l, c ≠ 61 := by
  intro c hc
  unfold letters at hc
  rw [List.mem_map] at hc
  obtain ⟨k, _, rfl⟩ := hc
  have : ∀ d : Fin 64, alS.getD d.val 0 ≠ 61 := by decide +kernel
  exact this ⟨dig 6 l k, dig_lt 6 l k⟩
theorem dec_encS (l : List UInt8) : decS (encS l) = (l, 0) := by
  unfold decS
  have h4 : (encS l).length % 4 = 0 := by unfold encS fill; rw [List.length_append, List.length_replicate]; omega
  rw [if_pos h4]
  unfold encS
  rw [strip_fill _ (letters_ne l) (by rw [letters_length]; unfold many; omega)]
  exact unS_letters 6 (by decide) (by decide) alS alph_S l
theorem dec_encU (l : List UInt8) : decU (encU l) = (l, 0) := by
  unfold decU
  rw [if_neg (by unfold encU; rw [letters_length]; unfold many; omega)]
  exact unS_letters 6 (by decide) (by decide) alU alph_U l
theorem dec_encH (l : List UInt8) : decH (encH l) = (l, 0) := by
  unfold decH
  rw [if_pos (by unfold encH; rw [letters_length]; unfold many; omega)]
  exact unS_letters 4 (by decide) (by decide) alH alph_H l
end Go.Proofs.Ytbjhaihfkncdoaa
