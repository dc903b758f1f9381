/- What is saved and loaded, as lists. -/
import Derived.Test.YtkbelfoeofhppaaDoorShaLoad
namespace Go.Proofs.YtkbelfoeofhppaaDoor
theorem be_num : ∀ (l : List UInt8), be (num l) l.length = l := by
  intro l
  obtain ⟨n, hn⟩ : ∃ n, l.length = n := ⟨_, rfl⟩
  induction n generalizing l with
  | zero => rw [List.eq_nil_of_length_eq_zero hn]; rfl
  | succ n ih =>
    have e : l = l.take n ++ [l.getD n 0] := by
      have := take_snoc l n (by omega)
      rw [List.take_of_length_le (by omega)] at this
      exact this
    have hl : (l.take n).length = n := by rw [List.length_take]; omega
    have h2 := ih (l.take n) hl
    rw [hl] at h2
    rw [hn]
    conv => rhs; rw [e]
    have e2 : num l = num (l.take n) * 256 + (l.getD n 0).toNat := by
      conv => lhs; rw [e]
      rw [num_snoc]
    have hb := (l.getD n 0).toNat_lt
    show be (num l / 256) n ++ [UInt8.ofNat (num l)] = _
    rw [e2, show (num (l.take n) * 256 + (l.getD n 0).toNat) / 256 = num (l.take n) by omega, h2]
    congr 2
    apply UInt8.toNat_inj.1
    rw [UInt8.toNat_ofNat']
    omega
theorem wb_bword (p : List UInt8) (k : Nat) (h : 4 * k + 4 ≤ p.length) : wb (bword p k) = (p.drop (4 * k)).take 4 := by
  have hl : ((p.drop (4 * k)).take 4).length = 4 := by rw [List.length_take, List.length_drop]; omega
  have hn := num_lt ((p.drop (4 * k)).take 4)
  rw [hl] at hn
  rw [wb_be, ← bword_num p k h, BitVec.toNat_ofNat, Nat.mod_eq_of_lt (by omega)]
  have := be_num ((p.drop (4 * k)).take 4)
  rwa [hl] at this
theorem wbs_stB (p : List UInt8) (h : 32 ≤ p.length) : ∀ k, k ≤ 8 → wbs ((stB p).list.take k) = p.take (4 * k) := by
  intro k
  induction k with
  | zero => intro _; rfl
  | succ k ih =>
    intro hk
    rw [wbs_take _ _ (show k < 8 by omega), stB_list p k (by omega), ih (by omega), wb_bword p k (by omega), show 4 * (k + 1) = 4 * k + 4 by omega, List.take_add]
/-- What is loaded saves the same bytes. -/
theorem saved_loaded (p : List UInt8) (h : 40 ≤ p.length) : saved (stB p) (cntB p) (p.drop 40) = p := by
  have e1 := wbs_stB p (by omega) 8 (Nat.le_refl _)
  rw [List.take_of_length_le (show (stB p).list.length ≤ 8 from Nat.le_refl _)] at e1
  have l8 : ((p.drop 32).take 8).length = 8 := by rw [List.length_take, List.length_drop]; omega
  have e2 := be_num ((p.drop 32).take 8)
  rw [l8] at e2
  unfold saved
  rw [e1, show cntB p = num ((p.drop 32).take 8) by unfold cntB; rfl, e2, show 4 * 8 = 32 from rfl, List.append_assoc, show p.drop 40 = (p.drop 32).drop 8 by rw [List.drop_drop], List.take_append_drop, List.take_append_drop]
end Go.Proofs.YtkbelfoeofhppaaDoor
