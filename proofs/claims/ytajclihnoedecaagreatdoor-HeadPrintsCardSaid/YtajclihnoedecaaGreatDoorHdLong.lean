/- HeadLong: the long head, as lists, and the law's walk. -/
import Derived.Test.YtajclihnoedecaaGreatDoorHdAwk
import Derived.Lib.ConvBytes
import Derived.Lib.IndexMore
namespace Go.Proofs.YtajclihnoedecaaGreatDoor
open Go.RowKit Go.Shelf
theorem conv_newc (s : List UInt8) (w : World) (hs : s.length ≤ 100000) : ∃ c W, (convert 9 22 (str s)).run Tryz.prog w = .ok (.slice (some ⟨w.heap.size, 0, none⟩) s.length c) W ∧ Below w.heap.size w W ∧ Bs W w.heap.size 0 s ∧ w.heap.size < W.heap.size ∧ s.length ≤ c ∧ c ≤ 9223372036854775807 := by
  have hz : (ByteArray.mk s.toArray).size = s.length := by simp [ByteArray.size]
  refine ⟨_, _, Lib.run_convert_string_bytes w 9 22 5 ⟨s.toArray⟩ Tryz.underlying9 Tryz.underlying22 Tryz.underlying5, Lib.bytesWorld_below w _ _, fun j h => ?_, by rw [Lib.bytesWorld_size]; omega, ?_, ?_⟩
  · rw [Nat.zero_add, Lib.bytesWorld_cell w _ _ j (by simpa [ByteArray.size] using h)]
    simp [vb, bn, List.getD_eq_getElem?_getD, List.getElem?_eq_getElem h]
  · have := grownCap_ge w (ByteArray.mk s.toArray).size 0 5
    rwa [hz] at this
  · have := grownCap_le_maxLen w (ByteArray.mk s.toArray).size 0 5 (by rw [hz]; unfold maxLen; omega)
    unfold maxLen at this
    omega
/-- No end can begin in these bytes, whatever stands behind them. -/
def nx : List UInt8 → Bool
  | d :: e :: _ => d != 10 || e != 13
  | _ => false
def nf : List UInt8 → Bool
  | [] => true
  | c :: t => (c != 13 || nx t) && nf t
theorem nf_cons (c : UInt8) (t : List UInt8) : nf (c :: t) = ((c != 13 || nx t) && nf t) := rfl
theorem nf_miss {c : UInt8} {a t : List UInt8} (h : nf (c :: a) = true) : crcr.isPrefixOf (c :: (a ++ t)) = false := by
  rw [nf_cons, Bool.and_eq_true] at h
  have h1 := h.1
  cases a with
  | nil =>
    have : (c != 13) = true := by simpa [nx] using h1
    have hc : (13 == c) = false := by rw [beq_eq_false_iff_ne]; intro e; subst e; exact absurd this (by decide)
    simp [crcr, List.isPrefixOf, hc]
  | cons d a =>
    cases a with
    | nil =>
      have : (c != 13) = true := by simpa [nx] using h1
      have hc : (13 == c) = false := by rw [beq_eq_false_iff_ne]; intro e; subst e; exact absurd this (by decide)
      simp [crcr, List.isPrefixOf, hc]
    | cons e a =>
      have h2 : (c != 13 || (d != 10 || e != 13)) = true := h1
      rw [Bool.or_eq_true, Bool.or_eq_true] at h2
      show ((13 == c) && ((10 == d) && ((13 == e) && _))) = false
      rcases h2 with h2 | h2 | h2
      · have hc : (13 == c) = false := by rw [beq_eq_false_iff_ne]; intro x; subst x; exact absurd h2 (by decide)
        rw [hc]; rfl
      · have hc : (10 == d) = false := by rw [beq_eq_false_iff_ne]; intro x; subst x; exact absurd h2 (by decide)
        rw [hc, Bool.false_and, Bool.and_false]
      · have hc : (13 == e) = false := by rw [beq_eq_false_iff_ne]; intro x; subst x; exact absurd h2 (by decide)
        rw [hc, Bool.false_and, Bool.and_false, Bool.and_false]
theorem nf_index : ∀ (a t : List UInt8), nf a = true → Lib.index (a ++ t) crcr = if Lib.index t crcr = -1 then -1 else Lib.index t crcr + a.length
  | [], t, _ => by
    have := Lib.index_ge t crcr
    by_cases h : Lib.index t crcr = -1 <;> simp [h]
  | c :: a, t, h => by
    have hm := nf_miss (t := t) h
    rw [nf_cons, Bool.and_eq_true] at h
    have ih := nf_index a t h.2
    rw [List.cons_append, hix_miss hm, ih]
    have hge := Lib.index_ge t crcr
    by_cases hi : Lib.index t crcr = -1
    · rw [if_pos hi, if_pos hi]; rfl
    · rw [if_neg hi, if_neg hi]
      have : ((Lib.index t crcr + (a.length : Int) == -1) = false) := by rw [beq_eq_false_iff_ne]; omega
      rw [this]
      simp; omega
theorem nf_app : ∀ (a b : List UInt8), (∀ c ∈ a, c ≠ 13) → nf b = true → nf (a ++ b) = true
  | [], _, _, h => h
  | c :: a, b, ha, h => by
    have hc : (c != 13) = true := by rw [bne_iff_ne]; exact ha c (List.mem_cons_self ..)
    rw [List.cons_append, nf_cons, hc, Bool.true_or, Bool.true_and]
    exact nf_app a b (fun x hx => ha x (List.mem_cons_of_mem _ hx)) h
theorem rl_line : ∀ (a cur t : List UInt8), (∀ c ∈ a, c ≠ 13) → rl cur (a ++ 13 :: 10 :: t) = (cur ++ a, true) :: rl [] t
  | [], cur, t, _ => by
    rw [List.nil_append, rl, if_pos ⟨rfl, rfl⟩, List.append_nil]; rfl
  | c :: a, cur, t, h => by
    rw [List.cons_append, rl, if_neg (fun x => h c (List.mem_cons_self ..) x.1), rl_line a (cur ++ [c]) t (fun x hx => h x (List.mem_cons_of_mem _ hx))]
    simp
def preH : List UInt8 := [71, 69, 84, 32, 47, 32, 72, 84, 84, 80, 47, 49, 46, 49, 13, 10, 88, 58, 32]
def getS : List UInt8 := [71, 69, 84, 32, 47, 32, 72, 84, 84, 80, 47, 49, 46, 49]
def ys (m : Nat) : List UInt8 := List.replicate m 121
theorem ys_mem {m : Nat} {c : UInt8} (h : c ∈ ys m) : c = 121 := List.eq_of_mem_replicate h
theorem nf_long (m : Nat) : nf (preH ++ ys m) = true := by
  have h1 : nf (ys m) = true := by
    have := nf_app (ys m) [] (fun c hc => by rw [ys_mem hc]; decide) rfl
    rwa [List.append_nil] at this
  have h2 : nf (10 :: 88 :: 58 :: 32 :: ys m) = true := nf_app [10, 88, 58, 32] (ys m) (by decide) h1
  have h3 : nf (13 :: 10 :: 88 :: 58 :: 32 :: ys m) = true := by rw [nf_cons, h2]; rfl
  exact nf_app getS (13 :: 10 :: 88 :: 58 :: 32 :: ys m) (by decide) h3
def longH (m : Nat) : List UInt8 := preH ++ ys m ++ crcr
theorem longH_len (m : Nat) : (longH m).length = m + 23 := by
  unfold longH; rw [List.length_append, List.length_append]
  show 19 + (List.replicate m 121).length + 4 = _
  rw [List.length_replicate]; omega
theorem long_body (m : Nat) : (preH ++ ys m).length = m + 19 := by
  rw [List.length_append]
  show 19 + (List.replicate m 121).length = _
  rw [List.length_replicate]; omega
theorem long_end {m : Nat} (h : m + 23 ≤ 4096) : endL (longH m) = ((m + 19 : Nat) : Int) := by
  unfold endL
  rw [List.take_of_length_le (by rw [longH_len]; exact h)]
  unfold longH
  rw [nf_index _ _ (nf_long m), long_body]
  show (if Lib.index crcr crcr = -1 then -1 else Lib.index crcr crcr + ((m + 19 : Nat) : Int)) = _
  rw [show Lib.index crcr crcr = 0 from by decide, if_neg (by decide)]; omega
theorem long_over {m : Nat} (h : 4096 < m + 23) (h2 : m + 19 ≤ 4096) : endL (longH m) = -1 := by
  unfold endL
  have e : (longH m).take 4096 = (preH ++ ys m) ++ crcr.take (4096 - (m + 19)) := by
    unfold longH
    rw [List.take_append, long_body, List.take_of_length_le (by rw [long_body]; exact h2)]
  rw [e, nf_index _ _ (nf_long m), if_pos]
  have hk : 4096 - (m + 19) < 4 := by omega
  match 4096 - (m + 19), hk with
  | 0, _ => decide
  | 1, _ => decide
  | 2, _ => decide
  | 3, _ => decide
theorem long_lines {m : Nat} (h : m + 23 ≤ 4096) : headLines (longH m) = [getS, 88 :: 58 :: 32 :: ys m] := by
  have e : (longH m).take (((m + 19 : Nat) : Int).toNat + 2) = getS ++ 13 :: 10 :: ((88 :: 58 :: 32 :: ys m) ++ 13 :: 10 :: []) := by
    show (preH ++ ys m ++ crcr).take (m + 19 + 2) = _
    rw [List.take_append, long_body, List.take_of_length_le (by rw [long_body]; omega), show m + 19 + 2 - (m + 19) = 2 by omega]
    rfl
  unfold headLines
  rw [long_end h, e, linesL_rl, rl_line getS [] _ (by decide), rl_line (88 :: 58 :: 32 :: ys m) [] []]
  · simp [rl]
  · intro c hc
    rcases List.mem_cons.1 hc with rfl | hc
    · decide
    rcases List.mem_cons.1 hc with rfl | hc
    · decide
    rcases List.mem_cons.1 hc with rfl | hc
    · decide
    rw [ys_mem hc]; decide
theorem long_field {m : Nat} (h : 1 ≤ m) : fieldL (88 :: 58 :: 32 :: ys m) = some ([88], ys m) := by
  have hi : Lib.index (88 :: 58 :: 32 :: ys m) [58] = 1 := by
    rw [hix_miss (by simp [List.isPrefixOf]), hix_hit (by simp [List.isPrefixOf])]; rfl
  have hc : Lib.cut (88 :: 58 :: 32 :: ys m) [58] = ([88], 32 :: ys m, true) := by
    unfold Lib.cut; rw [hi, if_pos (by decide)]; rfl
  obtain ⟨k, rfl⟩ : ∃ k, m = k + 1 := ⟨m - 1, by omega⟩
  have ht : Lib.trimS (32 :: ys (k + 1)) [32, 9] = ys (k + 1) := by
    have e1 : (32 :: ys (k + 1)).reverse = 121 :: (ys k ++ [32]) := by
      rw [List.reverse_cons]
      show (List.replicate (k + 1) (121 : UInt8)).reverse ++ [32] = _
      rw [List.reverse_replicate, List.replicate_succ]; rfl
    have e2 : Lib.trimRightS (32 :: ys (k + 1)) [32, 9] = 32 :: ys (k + 1) := by
      unfold Lib.trimRightS
      rw [e1, List.dropWhile_cons, if_neg (by decide), ← e1, List.reverse_reverse]
    unfold Lib.trimS
    rw [e2]
    unfold Lib.trimLeftS
    rw [List.dropWhile_cons, if_pos (by decide)]
    show List.dropWhile _ (List.replicate (k + 1) (121 : UInt8)) = List.replicate (k + 1) 121
    rw [List.replicate_succ, List.dropWhile_cons, if_neg (by decide)]
  have hx : txtB (ys (k + 1)) = true := List.all_eq_true.2 (fun c hc => by rw [ys_mem hc]; decide)
  unfold fieldL
  rw [hc]
  show (if true = true ∧ tokB [88] = true ∧ txtB (Lib.trimS (32 :: ys (k + 1)) [32, 9]) = true then some ([88], Lib.trimS (32 :: ys (k + 1)) [32, 9]) else none) = _
  rw [ht, if_pos ⟨rfl, by decide, hx⟩]
theorem long_ok {m : Nat} (h : m + 23 ≤ 4096) (h1 : 1 ≤ m) : reqP (longH m) = ([([88], ys m)], ((m + 23 : Nat) : Int), 0) := by
  have hf : fieldsL [88 :: 58 :: 32 :: ys m] = some [([88], ys m)] := by
    rw [fieldsL, long_field h1]; rfl
  unfold reqP parseL
  rw [if_neg (by rw [long_end h]; omega), long_lines h]
  show (if (reqT getS).2.2 = false then _ else match fieldsL [88 :: 58 :: 32 :: ys m] with
    | none => _
    | some fs => _) = _
  rw [if_neg (by decide +kernel), hf, long_end h]
  show (if 24 < 1 then _ else _) = _
  rw [if_neg (by decide)]
  congr 2
theorem long_bad {m : Nat} (h : 4096 < m + 23) (h2 : m + 19 ≤ 4096) : reqP (longH m) = ([], 0, 3) := by
  unfold reqP parseL
  rw [if_pos (long_over h h2), if_neg (by rw [longH_len]; omega)]
theorem long_ascii (m : Nat) : (longH m).all (fun b => decide (b.toNat < 128)) = true := by
  unfold longH
  rw [List.all_append, List.all_append]
  have : (ys m).all (fun b => decide (b.toNat < 128)) = true := List.all_eq_true.2 (fun c hc => by rw [ys_mem hc]; decide)
  rw [this]; decide
end Go.Proofs.YtajclihnoedecaaGreatDoor
