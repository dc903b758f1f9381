/- ring: the law RingHolds, its entries as lists. -/
import Derived.Test.YtcjjhaonogfcjaaDoorRqN
import Derived.Test.YtcjjhaonogfcjaaDoorRkW
import Derived.Test.YtcjjhaonogfcjaaDoorCut2
set_option maxRecDepth 100000
namespace Go.Proofs.YtcjjhaonogfcjaaDoor
open Go.RowKit
def q1 : EnL := macE [111, 110, 101] (keyT 1)
def q2 : EnL := macE [116, 119, 111] (keyT 1)
def q3 (tx : List UInt8) : EnL := macE (tgN 1) tx
def q4 (tx : List UInt8) : EnL := macE (tgN 2) tx
def q5 (tx : List UInt8) : EnL := macE (tgN 1) (tx ++ [0])
theorem q_key {a b : EnL} (h : a.key ≠ b.key) : a ≠ b := fun e => h (by rw [e])
theorem q_text {a b : EnL} (h : a.text ≠ b.text) : a ≠ b := fun e => h (by rw [e])
theorem kl (n : Nat) (l : List UInt8) (h : l.length ≠ 32) : l ≠ tgN n := fun e => h (by rw [e]; exact tgN_len n)
theorem k12 : tgN 1 ≠ tgN 2 := fun e => absurd (tgN_inj (by omega) (by omega) e) (by omega)
theorem eg1 : tagE [] q1 = tgN 1 ∧ esE [] q1 = [q1] := tag_new (es := []) (by simp) (by simp)
theorem eg2 : tagE [q1] q2 = tgN 2 ∧ esE [q1] q2 = [q1, q2] :=
  tag_new (es := [q1]) (by simp only [List.mem_singleton]; exact q_key (by decide)) (by simp)
theorem eg3 (tx : List UInt8) : tagE [q1, q2] (q3 tx) = tgN 3 ∧ esE [q1, q2] (q3 tx) = [q1, q2, q3 tx] :=
  tag_new (es := [q1, q2]) (by
    simp only [List.mem_cons, List.not_mem_nil, or_false, not_or]
    exact ⟨q_key (fun e => kl 1 _ (by decide) (Eq.symm e)), q_key (fun e => kl 1 _ (by decide) (Eq.symm e))⟩) (by simp)
theorem eg4 (tx : List UInt8) : tagE [q1, q2, q3 tx] (q4 tx) = tgN 4 ∧ esE [q1, q2, q3 tx] (q4 tx) = [q1, q2, q3 tx, q4 tx] :=
  tag_new (es := [q1, q2, q3 tx]) (by
    simp only [List.mem_cons, List.not_mem_nil, or_false, not_or]
    exact ⟨q_key (fun e => kl 2 _ (by decide) (Eq.symm e)), q_key (fun e => kl 2 _ (by decide) (Eq.symm e)), q_key (fun e => k12 (Eq.symm e))⟩) (by simp)
theorem eg34 (tx : List UInt8) : tagE [q1, q2, q3 tx, q4 tx] (q3 tx) = tgN 3 ∧ q3 tx ∈ [q1, q2, q3 tx, q4 tx] ∧ esE [q1, q2, q3 tx, q4 tx] (q3 tx) = [q1, q2, q3 tx, q4 tx] := by
  have h3 := tag_keep (es := [q1, q2]) (E := q3 tx) (e := q3 tx)
  have hm : q3 tx ∈ [q1, q2, q3 tx] := by simp
  have hk := (tag_keep (e := q4 tx) hm).1
  rw [(eg4 tx).2] at hk
  have hn : tagE [q1, q2, q3 tx] (q3 tx) = tgN 3 := by
    unfold tagE tgN
    rw [if_pos hm, show [q1, q2, q3 tx] = [q1, q2] ++ [q3 tx] from rfl, numE_new]
    · rfl
    · simp only [List.mem_cons, List.not_mem_nil, or_false, not_or]
      exact ⟨q_key (fun e => kl 1 _ (by decide) (Eq.symm e)), q_key (fun e => kl 1 _ (by decide) (Eq.symm e))⟩
  have hm4 : q3 tx ∈ [q1, q2, q3 tx, q4 tx] := by simp
  exact ⟨hk.trans hn, hm4, by unfold esE; rw [if_pos hm4]⟩
theorem eg5 (tx : List UInt8) : tagE [q1, q2, q3 tx, q4 tx] (q5 tx) = tgN 5 ∧ esE [q1, q2, q3 tx, q4 tx] (q5 tx) = [q1, q2, q3 tx, q4 tx] ++ [q5 tx] :=
  tag_new (es := [q1, q2, q3 tx, q4 tx]) (by
    simp only [List.mem_cons, List.not_mem_nil, or_false, not_or]
    exact ⟨q_key (fun e => kl 1 _ (by decide) (Eq.symm e)), q_key (fun e => kl 1 _ (by decide) (Eq.symm e)), q_text (fun e => by have := congrArg List.length e; simp [q5, q3, macE] at this), q_key (fun e => k12 e)⟩) (by simp)
theorem eg35 (tx : List UInt8) : tagE ([q1, q2, q3 tx, q4 tx] ++ [q5 tx]) (q3 tx) = tgN 3 ∧ q3 tx ∈ [q1, q2, q3 tx, q4 tx] ++ [q5 tx] := by
  have h := tag_keep (e := q5 tx) (eg34 tx).2.1
  rw [(eg5 tx).2, (eg34 tx).1] at h
  exact h
theorem tg_ne {a b : Nat} (ha : a < 100) (hb : b < 100) (h : a ≠ b) : (tgN a == tgN b) = false :=
  beq_eq_false_iff_ne.2 (fun e => h (tgN_inj (by omega) (by omega) e))
/-- A literal of three bytes. -/
theorem sl_lit3 (x y z : UInt8) (w : World) (f : Nat × Nat) : Sl (w.alloc (.cells #[vb x, vb y, vb z] 5 f)) (w.heap.size + 1) (.slice (some ⟨w.heap.size, 0, none⟩) 3 3) [x, y, z] := by
  refine ⟨_, 3, rfl, (fun h => by cases h), Nat.le_refl _, by omega, fun _ => ⟨_, 0, rfl, by omega, fun j h => ?_⟩⟩
  have hb := heap_alloc_new w (.cells #[vb x, vb y, vb z] 5 f)
  have hc : ∀ i, (w.alloc (.cells #[vb x, vb y, vb z] 5 f)).cell? ⟨w.heap.size, i, none⟩ = #[vb x, vb y, vb z][i]? := by
    intro i
    show (match (w.alloc (.cells #[vb x, vb y, vb z] 5 f)).heap[w.heap.size]? with | some (.cells c _ _) => c[i]? | _ => none) = _
    rw [hb]
  match j, h with
  | 0, _ => exact hc 0
  | 1, _ => exact hc 1
  | 2, _ => exact hc 2
/-- Which epochs there are after so many rotations. -/
def epsN (k t : Nat) : List Nat := List.range' (1 + (t + 1 - k)) (min k (t + 1))
theorem epsN_next (k t : Nat) : keepQ k (epsN k t ++ [t + 1 + 1]) = epsN k (t + 1) := by
  have h1 : epsN k t ++ [t + 1 + 1] = List.range' (1 + (t + 1 - k)) (min k (t + 1) + 1) := by
    unfold epsN
    rw [List.range'_1_concat, show 1 + (t + 1 - k) + min k (t + 1) = t + 1 + 1 by omega]
  rw [h1]
  unfold keepQ epsN
  rw [List.length_range']
  by_cases h : t + 1 < k
  · rw [if_neg (by omega), show min k (t + 1) + 1 = min k (t + 1 + 1) by omega, show t + 1 - k = t + 1 + 1 - k by omega]
  · rw [if_pos (by omega), List.range'_succ, List.drop_one, List.tail_cons, show 1 + (t + 1 - k) + 1 = 1 + (t + 1 + 1 - k) by omega, show min k (t + 1) = min k (t + 1 + 1) by omega]
theorem epsN_one (k t : Nat) (hk : 1 ≤ k) : 1 ∈ epsN k t ↔ t < k := by
  unfold epsN
  rw [List.mem_range'_1]
  omega
end Go.Proofs.YtcjjhaonogfcjaaDoor
