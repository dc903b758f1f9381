/- A message that comes part by part: its state and its rest. Nothing of the program is imported. -/
import Derived.Test.YteadncmhcbdicaaDoorSha
namespace Go.Proofs.YteadncmhcbdicaaDoor

/-- The state behind k blocks of q. -/
def runN (s : St) (q : List UInt8) : Nat → St
  | 0 => s
  | k + 1 => compress (runN s q k) ((q.drop (64 * k)).take 64)
theorem runN_zero (s : St) (q : List UInt8) : runN s q 0 = s := rfl
theorem runN_succ (s : St) (q : List UInt8) (k : Nat) : runN s q (k + 1) = compress (runN s q k) ((q.drop (64 * k)).take 64) := rfl
/-- The state behind all whole blocks, and what stands behind them. -/
def stOf (s : St) (q : List UInt8) : St := runN s q (q.length / 64)
def restOf (q : List UInt8) : List UInt8 := q.drop (64 * (q.length / 64))
theorem restOf_length (q : List UInt8) : (restOf q).length = q.length % 64 := by unfold restOf; rw [List.length_drop]; omega
theorem restOf_small (q : List UInt8) (h : q.length < 64) : restOf q = q := by unfold restOf; rw [Nat.div_eq_of_lt h]; rfl
theorem stOf_small (s : St) (q : List UInt8) (h : q.length < 64) : stOf s q = s := by unfold stOf; rw [Nat.div_eq_of_lt h]; rfl
theorem runN_app (s : St) (a b : List UInt8) : ∀ k, 64 * k ≤ a.length → runN s (a ++ b) k = runN s a k := by
  intro k
  induction k with
  | zero => intro _; rfl
  | succ k ih =>
    intro h
    rw [runN_succ, runN_succ, ih (by omega), List.drop_append_of_le_length (by omega), List.take_append_of_le_length (by rw [List.length_drop]; omega)]
theorem runN_add (s : St) (a b : List UInt8) (i : Nat) (h : a.length = 64 * i) : ∀ j, runN s (a ++ b) (i + j) = runN (runN s a i) b j := by
  intro j
  induction j with
  | zero => rw [runN_zero, Nat.add_zero, runN_app _ _ _ _ (by omega)]
  | succ j ih =>
    rw [← Nat.add_assoc, runN_succ, runN_succ, ih, List.drop_append, List.drop_of_length_le (by omega), List.nil_append, show 64 * (i + j) - a.length = 64 * j from by omega]
/-- A text cut at a whole number of blocks. -/
theorem stOf_app (s : St) (a b : List UInt8) (i : Nat) (h : a.length = 64 * i) : stOf s (a ++ b) = stOf (stOf s a) b := by
  unfold stOf
  rw [List.length_append, show (a.length + b.length) / 64 = i + b.length / 64 from by omega, runN_add s a b i h, show a.length / 64 = i from by omega]
theorem restOf_app (a b : List UInt8) (i : Nat) (h : a.length = 64 * i) : restOf (a ++ b) = restOf b := by
  unfold restOf
  rw [List.length_append, List.drop_append, List.drop_of_length_le (by omega), List.nil_append]
  congr 1; omega
theorem split_rest (q : List UInt8) : q.take (64 * (q.length / 64)) ++ restOf q = q := by unfold restOf; exact List.take_append_drop _ _
theorem take_whole (q : List UInt8) : (q.take (64 * (q.length / 64))).length = 64 * (q.length / 64) := by rw [List.length_take]; omega
theorem stOf_take (s : St) (q : List UInt8) : stOf s (q.take (64 * (q.length / 64))) = stOf s q := by
  have h := stOf_app s (q.take (64 * (q.length / 64))) (restOf q) _ (take_whole q)
  rw [split_rest] at h
  rw [h, stOf_small _ (restOf q) (by rw [restOf_length]; omega)]
/-- Feeding goes on as if all had come at once. -/
theorem stOf_feed (s : St) (q p : List UInt8) : stOf (stOf s q) (restOf q ++ p) = stOf s (q ++ p) := by
  have h := stOf_app s (q.take (64 * (q.length / 64))) (restOf q ++ p) _ (take_whole q)
  rw [← List.append_assoc, split_rest] at h
  rw [h, stOf_take]
theorem restOf_feed (q p : List UInt8) : restOf (restOf q ++ p) = restOf (q ++ p) := by
  have h := restOf_app (q.take (64 * (q.length / 64))) (restOf q ++ p) _ (take_whole q)
  rw [← List.append_assoc, split_rest] at h
  exact h.symm
/-- One block, and the rest. -/
theorem stOf_block (s : St) (a b : List UInt8) (h : a.length = 64) : stOf s (a ++ b) = stOf (compress s a) b := by
  rw [stOf_app s a b 1 (by omega)]
  congr 1
  unfold stOf
  rw [h, show 64 / 64 = 1 from rfl, runN_succ, runN_zero, Nat.mul_zero, List.drop_zero, List.take_of_length_le (by omega)]
/-- The fold over the numbers of the whole blocks, from place k on, is the run. -/
theorem fold_runN (s : St) (p : List UInt8) (k : Nat) : ∀ (l : List Nat) (n : Nat), l = List.range n → l.foldl (fun s x => compress s ((p.drop (k + 64 * x)).take 64)) s = runN s (p.drop k) n := by
  intro l n h; subst h
  induction n with
  | zero => rfl
  | succ n ih => rw [List.range_succ, List.foldl_append, ih, List.foldl_cons, List.foldl_nil, runN_succ, List.drop_drop]
attribute [irreducible] runN
end Go.Proofs.YteadncmhcbdicaaDoor
