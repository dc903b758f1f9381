/- The reference of table: lists by index, lists by key. -/
import Derived.Test.YtipgjpmaflcpkaaTeRow
set_option maxRecDepth 100000
namespace Go.Proofs.Ytipgjpmaflcpkaa
/-- Where a key stands; the length: nowhere. -/
def fiL : PL → List UInt8 → Nat
  | [], _ => 0
  | q :: t, k => if q.1 = k then 0 else fiL t k + 1
theorem fiL_le : ∀ (l : PL) (k : List UInt8), fiL l k ≤ l.length
  | [], _ => Nat.le_refl _
  | q :: t, k => by
    show (if q.1 = k then 0 else fiL t k + 1) ≤ t.length + 1
    have := fiL_le t k
    split <;> omega
theorem fiL_has : ∀ (l : PL) (k : List UInt8), hasL l k = decide (fiL l k < l.length)
  | [], _ => rfl
  | q :: t, k => by
    have ih := fiL_has t k
    unfold hasL at ih ⊢
    rw [List.any_cons, ih]
    show _ = decide ((if q.1 = k then 0 else fiL t k + 1) < t.length + 1)
    by_cases h : q.1 = k
    · rw [if_pos h, h]; simp
    · rw [if_neg h, show (q.1 == k) = false from beq_eq_false_iff_ne.2 h]; simp
theorem fiL_at : ∀ (l : PL) (k : List UInt8) (h : fiL l k < l.length), l[fiL l k].1 = k
  | [], _, h => absurd h (by simp [fiL])
  | q :: t, k, h => by
    by_cases hq : q.1 = k
    · have e : fiL (q :: t) k = 0 := if_pos hq
      simp only [e, List.getElem_cons_zero]
      exact hq
    · have e : fiL (q :: t) k = fiL t k + 1 := if_neg hq
      simp only [e, List.getElem_cons_succ]
      exact fiL_at t k (by rw [e] at h; simpa using h)
theorem fiL_ne : ∀ (l : PL) (k : List UInt8) (j : Nat) (h : j < l.length), j < fiL l k → l[j].1 ≠ k
  | [], _, _, h, _ => absurd h (by simp)
  | q :: t, k, j, h, hj => by
    by_cases hq : q.1 = k
    · rw [show fiL (q :: t) k = 0 from if_pos hq] at hj; omega
    · rw [show fiL (q :: t) k = fiL t k + 1 from if_neg hq] at hj
      cases j with
      | zero => exact hq
      | succ i => exact fiL_ne t k i (by simpa using h) (by omega)
theorem getL_fi : ∀ (l : PL) (k : List UInt8), getL l k = (l[fiL l k]?).map (·.2)
  | [], _ => rfl
  | q :: t, k => by
    unfold getL
    rw [List.find?_cons]
    by_cases hq : q.1 = k
    · rw [show fiL (q :: t) k = 0 from if_pos hq, show (q.1 == k) = true from beq_iff_eq.2 hq]; rfl
    · rw [show fiL (q :: t) k = fiL t k + 1 from if_neg hq, show (q.1 == k) = false from beq_eq_false_iff_ne.2 hq]
      exact getL_fi t k
theorem find_fi : ∀ (l : PL) (k : List UInt8), l.find? (fun p => p.1 == k) = l[fiL l k]?
  | [], _ => rfl
  | q :: t, k => by
    rw [List.find?_cons]
    by_cases hq : q.1 = k
    · rw [show fiL (q :: t) k = 0 from if_pos hq, show (q.1 == k) = true from beq_iff_eq.2 hq]; rfl
    · rw [show fiL (q :: t) k = fiL t k + 1 from if_neg hq, show (q.1 == k) = false from beq_eq_false_iff_ne.2 hq]
      exact find_fi t k
abbrev Keyed (l : PL) : Prop := (l.map (·.1)).Nodup
theorem others_self : ∀ (l : PL) (k : List UInt8), k ∉ l.map (·.1) → l.filter (fun p => !(p.1 == k)) = l := by
  intro l k h
  rw [List.filter_eq_self]
  intro p hp
  have : p.1 ≠ k := fun e => h (List.mem_map.2 ⟨p, hp, e⟩)
  simp [this]
theorem drop_fi : ∀ (l : PL) (k : List UInt8), Keyed l → fiL l k < l.length → l.filter (fun p => !(p.1 == k)) = l.take (fiL l k) ++ l.drop (fiL l k + 1)
  | [], _, _, h => absurd h (by simp [fiL])
  | q :: t, k, hk, h => by
    obtain ⟨h1, h2⟩ := List.nodup_cons.1 hk
    by_cases hq : q.1 = k
    · subst hq
      rw [show fiL (q :: t) q.1 = 0 from if_pos rfl, List.filter_cons_of_neg (by simp), others_self t q.1 h1]; rfl
    · have e : fiL (q :: t) k = fiL t k + 1 := if_neg hq
      rw [e] at h ⊢
      rw [List.filter_cons_of_pos (by simp [hq]), drop_fi t k h2 (by simpa using h)]
      rfl
theorem put_self : ∀ (l : PL) (k : List UInt8) (v : VT), k ∉ l.map (·.1) → (l.map fun p => if p.1 == k then (k, v) else p) = l
  | [], _, _, _ => rfl
  | q :: t, k, v, h => by
    have hq : q.1 ≠ k := fun e => h (by rw [← e]; exact List.mem_cons_self ..)
    rw [List.map_cons, put_self t k v (fun e => h (List.mem_cons_of_mem _ e)), if_neg (by simpa using hq)]
theorem set_fi : ∀ (l : PL) (k : List UInt8) (v : VT), Keyed l → fiL l k < l.length → (l.map fun p => if p.1 == k then (k, v) else p) = l.set (fiL l k) (k, v)
  | [], _, _, _, h => absurd h (by simp [fiL])
  | q :: t, k, v, hk, h => by
    obtain ⟨h1, h2⟩ := List.nodup_cons.1 hk
    by_cases hq : q.1 = k
    · subst hq
      rw [show fiL (q :: t) q.1 = 0 from if_pos rfl, List.map_cons, put_self t q.1 v h1, if_pos (by simp)]; rfl
    · have e : fiL (q :: t) k = fiL t k + 1 := if_neg hq
      rw [e] at h ⊢
      rw [List.map_cons, set_fi t k v h2 (by simpa using h), if_neg (by simpa using hq)]
      rfl
theorem setL_fi (l : PL) (k : List UInt8) (v : VT) (hk : Keyed l) : setL l k v = if fiL l k < l.length then (0, l.set (fiL l k) (k, v)) else (6, l) := by
  unfold setL
  rw [fiL_has]
  by_cases h : fiL l k < l.length
  · rw [if_pos h, decide_eq_true h, if_pos rfl, set_fi l k v hk h]
  · rw [if_neg h, decide_eq_false h]; rfl
theorem dropL_fi (l : PL) (k : List UInt8) (hk : Keyed l) : dropL l k = if fiL l k < l.length then (0, l.take (fiL l k) ++ l.drop (fiL l k + 1)) else (6, l) := by
  unfold dropL
  rw [fiL_has]
  by_cases h : fiL l k < l.length
  · rw [if_pos h, decide_eq_true h, if_pos rfl, drop_fi l k hk h]
  · rw [if_neg h, decide_eq_false h]; rfl
theorem renewL_fi (l : PL) (k : List UInt8) (hk : Keyed l) : renewL l k = if h : fiL l k < l.length then (0, l.take (fiL l k) ++ l.drop (fiL l k + 1) ++ [l[fiL l k]]) else (6, l) := by
  unfold renewL
  rw [find_fi]
  by_cases h : fiL l k < l.length
  · rw [dif_pos h, List.getElem?_eq_getElem h]
    show (0, l.filter _ ++ _) = _
    rw [drop_fi l k hk h]
  · rw [dif_neg h, List.getElem?_eq_none (by omega)]
theorem putL_fi (cap : Nat) (l : PL) (k : List UInt8) (v : VT) : putL cap l k v = if fiL l k < l.length then (7, l) else if l.length = cap then (8, l) else (0, l ++ [(k, v)]) := by
  unfold putL
  rw [fiL_has]
  by_cases h : fiL l k < l.length
  · rw [if_pos h, decide_eq_true h]; rfl
  · rw [if_neg h, decide_eq_false h]; rfl
end Go.Proofs.Ytipgjpmaflcpkaa
