/- trace: what a line is read as, by the program and by the reference, as lists: both are its event, or an error. -/
import Derived.Test.YtoehkhbppmgfkaaGreatDoorHxA
import Derived.Test.YtoehkhbppmgfkaaGreatDoorSplR
import Derived.Test.YtoehkhbppmgfkaaGreatDoorTvNum
import Derived.Lib.ParseIntBMem
namespace Go.Proofs.YtoehkhbppmgfkaaGreatDoor
open Go.RowKit Go.Shelf
/-- The numbers that strconv tells, beside an error too. -/
def uz (l : List UInt8) : Nat := match Lib.parseUintB 64 l with
  | .ok u => u
  | .syntax => 0
  | .range => 18446744073709551615
def az (l : List UInt8) : Int := match Lib.atoiAll l with
  | .ok v => v
  | .syntax => 0
  | .range => Lib.atoiSat l
theorem foldl_ge : ∀ (l : List UInt8) (acc : Nat), acc ≤ l.foldl (fun n c => 10 * n + (c.toNat - 48)) acc
  | [], _ => Nat.le_refl _
  | c :: r, acc => by
    have := foldl_ge r (10 * acc + (c.toNat - 48))
    rw [List.foldl_cons]; omega
theorem parseM : ∀ (l : List UInt8) (acc : Nat), l.all isD = true → l.foldl (fun n c => 10 * n + (c.toNat - 48)) acc ≤ 18446744073709551615 → Lib.parseUintM 18446744073709551615 acc l = .ok (l.foldl (fun n c => 10 * n + (c.toNat - 48)) acc)
  | [], acc, _, _ => rfl
  | c :: r, acc, h, hb => by
    simp only [List.all_cons, Bool.and_eq_true] at h
    obtain ⟨h1, h2⟩ := h
    unfold isD at h1
    simp only [Bool.and_eq_true, decide_eq_true_eq] at h1
    rw [List.foldl_cons] at hb ⊢
    have hg := foldl_ge r (10 * acc + (c.toNat - 48))
    rw [Lib.parseUintM, if_pos h1, if_neg (by omega), if_neg (by omega), Nat.mul_comm acc 10]
    exact parseM r _ h2 hb
theorem uz_dec (n : Nat) (h : n ≤ 18446744073709551615) : uz (Lib.decDigits n) = n := by
  obtain ⟨f1, f2, f3, _⟩ := digits_facts n
  have hp := parseM (Lib.decDigits n) 0 f1 (by show valD (Lib.decDigits n) ≤ _; rw [f2]; exact h)
  have hv : (Lib.decDigits n).foldl (fun n c => 10 * n + (c.toNat - 48)) 0 = n := f2
  rw [hv] at hp
  have hb : Lib.parseUintB 64 (Lib.decDigits n) = .ok n := by
    unfold Lib.parseUintB
    rw [if_neg f3]
    exact hp
  unfold uz
  rw [hb]
theorem uz_lt (l : List UInt8) : uz l < 18446744073709551616 := by
  unfold uz
  cases h : Lib.parseUintB 64 l with
  | ok u =>
    have key : ∀ (l : List UInt8) (acc u : Nat), acc ≤ 18446744073709551615 → Lib.parseUintM 18446744073709551615 acc l = .ok u → u ≤ 18446744073709551615 := by
      intro l
      induction l with
      | nil => intro acc u ha hu; simp only [Lib.parseUintM] at hu; injection hu with hu; omega
      | cons c r ih =>
        intro acc u ha hu
        rw [Lib.parseUintM] at hu
        split at hu
        · split at hu
          · cases hu
          · split at hu
            · cases hu
            · exact ih _ u (by omega) hu
        · cases hu
    unfold Lib.parseUintB at h
    split at h
    · cases h
    · have := key l 0 u (by omega) h
      show u < _
      omega
  | «syntax» => show 0 < _; omega
  | range => show 18446744073709551615 < _; omega
theorem az_itoa (c : Int) (h0 : 0 ≤ c) (h1 : c ≤ 2147483647) : az (Lib.itoa c) = c := by
  obtain ⟨u, rfl⟩ : ∃ u : Nat, c = u := ⟨c.toNat, by omega⟩
  rw [Lib.itoa_nonneg]
  obtain ⟨f1, f2, f3, _⟩ := digits_facts u
  have hl : (Lib.decDigits u).length ≤ 10 := by rw [Lib.decDigits_length]; exact nDigits_le u 9 (by omega)
  have ha := atoi_val f1 f3
  rw [f2] at ha
  unfold az
  rw [Lib.atoiAll_short _ (by omega), ha]
  rfl
theorem az_bounds (l : List UInt8) : -9223372036854775808 ≤ az l ∧ az l ≤ 9223372036854775807 := by
  unfold az
  cases h : Lib.atoiAll l with
  | ok v => exact Lib.atoiAll_bounds h
  | «syntax» => show (-9223372036854775808 : Int) ≤ 0 ∧ (0 : Int) ≤ 9223372036854775807; exact ⟨by decide, by decide⟩
  | range => show _ ≤ Lib.atoiSat l ∧ Lib.atoiSat l ≤ _; unfold Lib.atoiSat; split <;> exact ⟨by decide, by decide⟩
theorem isD_notL {l : List UInt8} (h : l.all isD = true) {c : UInt8} (hc : isD c = false) : c ∉ l := fun hm => by
  rw [List.all_eq_true] at h
  rw [h c hm] at hc; cases hc
theorem plain_not {s : List UInt8} (h : plainL s = true) : (32 : UInt8) ∉ s ∧ s.length ≤ 32 := by
  unfold plainL at h
  simp only [Bool.and_eq_true, decide_eq_true_eq] at h
  refine ⟨fun hm => ?_, h.2⟩
  have := List.all_eq_true.1 h.1.1 _ hm
  exact absurd this (by decide)
theorem encH_not (t : List UInt8) : (32 : UInt8) ∉ encH t := by
  intro hm
  unfold encH letters at hm
  rw [List.mem_map] at hm
  obtain ⟨k, _, hk⟩ := hm
  have h16 := dig_lt 4 t k
  have key : ∀ d : Fin 16, alH.getD d.val 0 ≠ 32 := by decide
  exact key ⟨_, h16⟩ hk
theorem encH_lenL (t : List UInt8) : (encH t).length = 2 * t.length := by unfold encH; rw [letters_length]; unfold many; omega
theorem textF_not (t : List UInt8) : (32 : UInt8) ∉ textF t := by
  unfold textF
  split
  · decide
  · exact encH_not t
theorem textF_dec (t : List UInt8) : (decH (textF t)).1 = t := by
  unfold textF
  split
  · rename_i h; rw [h]; rfl
  · rw [dec_encH]
/-- The five fields of a line. -/
def fieldsOf (e : EvL) : List (List UInt8) := [Lib.decDigits e.n, Lib.decDigits e.tick, e.kind, Lib.itoa e.conn, textF e.text]
theorem EvL.Ok.not {e : EvL} (h : e.Ok) : (32 : UInt8) ∉ Lib.decDigits e.n ∧ (32 : UInt8) ∉ Lib.decDigits e.tick ∧ (32 : UInt8) ∉ e.kind ∧ (32 : UInt8) ∉ Lib.itoa e.conn ∧ (32 : UInt8) ∉ textF e.text := by
  refine ⟨isD_notL (digits_facts _).1 (by decide), isD_notL (digits_facts _).1 (by decide), (plain_not h.k).1, ?_, textF_not _⟩
  obtain ⟨u, hu⟩ : ∃ u : Nat, e.conn = u := ⟨e.conn.toNat, by have := h.c0; omega⟩
  rw [hu, Lib.itoa_nonneg]
  exact isD_notL (digits_facts _).1 (by decide)
theorem spl_line {e : EvL} (h : e.Ok) : spl 32 (evLine e) = fieldsOf e := by
  obtain ⟨a, b, c, d, f⟩ := h.not
  unfold evLine fieldsOf
  rw [spl_at _ _ a, spl_at _ _ b, spl_at _ _ c, spl_at _ _ d, spl_none _ f]
theorem ix_one (c : UInt8) (b : List UInt8) : ∀ a : List UInt8, c ∉ a → Lib.index (a ++ c :: b) [c] = a.length
  | [], _ => by
    show Lib.index (c :: b) [c] = 0
    unfold Lib.index; rw [if_pos (by simp [List.isPrefixOf])]
  | x :: a, h => by
    have hx : x ≠ c := fun e => h (by simp [e])
    have ih := ix_one c b a (fun h2 => h (by simp [h2]))
    rw [List.cons_append, Lib.index, if_neg (by simp [List.isPrefixOf, Ne.symm hx]), ih, if_neg (by simp), List.length_cons]
    omega
theorem ix_none (c : UInt8) : ∀ a : List UInt8, c ∉ a → Lib.index a [c] = -1
  | [], _ => rfl
  | x :: a, h => by
    have hx : x ≠ c := fun e => h (by simp [e])
    have ih := ix_none c a (fun h2 => h (by simp [h2]))
    rw [Lib.index, if_neg (by simp [List.isPrefixOf, Ne.symm hx]), ih]; rfl
theorem splitK_at (c : UInt8) (a b : List UInt8) (h : c ∉ a) (k : Nat) : Lib.splitK [c] 0 (k + 1) (a ++ c :: b) = a :: Lib.splitK [c] 0 k b := by
  rw [Lib.splitK, ix_one c b a h, if_neg (by simp)]
  have h1 : ((a.length : Nat) : Int).toNat = a.length := by omega
  rw [h1, Nat.add_zero, List.take_left, show ([c] : List UInt8).length = 1 from rfl]
  congr 2
  rw [show a.length + 1 = (a ++ [c]).length by simp, show a ++ c :: b = (a ++ [c]) ++ b by simp, List.drop_left]
theorem splitN_line {e : EvL} (h : e.Ok) : Lib.splitN (evLine e) [32] 5 = fieldsOf e := by
  obtain ⟨a, b, c, d, f⟩ := h.not
  have hl : 4 ≤ (evLine e).length := by unfold evLine; simp; omega
  unfold Lib.splitN
  rw [show min 5 ((evLine e).length + 1) - 1 = 4 by omega]
  unfold evLine fieldsOf
  rw [splitK_at _ _ _ a, splitK_at _ _ _ b, splitK_at _ _ _ c, splitK_at _ _ _ d]
  rfl
/-- The program's event of a line's parts. -/
def rdP (ps : List (List UInt8)) : EvL := ⟨uz (ps.getD 0 []), uz (ps.getD 1 []), ps.getD 2 [], az (ps.getD 3 []), (decH (ps.getD 4 [])).1⟩
theorem rdP_fields {e : EvL} (h : e.Ok) : rdP (fieldsOf e) = e := by
  obtain ⟨n, tk, kd, cn, tx⟩ := e
  obtain ⟨o1, o2, o3, o4, o5, o6, o7⟩ := h
  simp only at o1 o2 o3 o4 o5 o6 o7
  show EvL.mk (uz (Lib.decDigits n)) (uz (Lib.decDigits tk)) kd (az (Lib.itoa cn)) (decH (textF tx)).1 = _
  rw [uz_dec n (by omega), uz_dec tk (by omega), az_itoa cn o5 o6, textF_dec]
/-- Is a text a line, for the program? -/
def okP (s : List UInt8) : Prop := (Lib.splitN s [32] 5).length = 5 ∧ (rdP (Lib.splitN s [32] 5)).Ok ∧ evLine (rdP (Lib.splitN s [32] 5)) = s
theorem okP_iff (s : List UInt8) : okP s ↔ ∃ e : EvL, e.Ok ∧ evLine e = s := by
  constructor
  · rintro ⟨_, h2, h3⟩; exact ⟨_, h2, h3⟩
  · rintro ⟨e, h, rfl⟩
    unfold okP
    rw [splitN_line h, rdP_fields h]
    exact ⟨rfl, h, rfl⟩
/-- The reference's text of the fifth part; is it one? -/
def txR (p : List UInt8) : List UInt8 := if p = [45] then [] else (decH p).1
def txO (p : List UInt8) : Bool := p == [45] || ((decH p).2 == 0 && !(decH p).1.isEmpty)
def rdR (ws : List (List UInt8)) : EvL := ⟨valN (ws.getD 0 []), valN (ws.getD 1 []), ws.getD 2 [], (valN (ws.getD 3 []) : Int), txR (ws.getD 4 [])⟩
def okR (s : List UInt8) : Prop := (spl 32 s).length = 5 ∧ txO ((spl 32 s).getD 4 []) = true ∧ numOk ((spl 32 s).getD 0 []) = true ∧ numOk ((spl 32 s).getD 1 []) = true ∧ numOk ((spl 32 s).getD 3 []) = true ∧ (rdR (spl 32 s)).Ok
theorem isN_isD : isN = isD := rfl
theorem valN_valD : valN = valD := rfl
theorem numOk_dec (n : Nat) (h : n < 10000000000000000) : numOk (Lib.decDigits n) = true ∧ valN (Lib.decDigits n) = n := by
  obtain ⟨f1, f2, f3, f4⟩ := digits_facts n
  have hl : (Lib.decDigits n).length ≤ 16 := by rw [Lib.decDigits_length]; exact nDigits_le n 15 (by omega)
  have h1 : 1 ≤ (Lib.decDigits n).length := List.length_pos_iff.2 f3
  refine ⟨?_, f2⟩
  unfold numOk
  rw [isN_isD, f1, decide_eq_true h1, decide_eq_true hl]
  simp only [Bool.true_and, Bool.or_eq_true, decide_eq_true_eq]
  rcases Nat.lt_or_ge n 1 with h0 | h0
  · left
    have : n = 0 := by omega
    subst this
    rw [Lib.decDigits_length, Lib.nDigits_small (by decide)]; exact Nat.le_refl _
  · right
    intro e
    apply f4 h0
    generalize Lib.decDigits n = l at *
    cases l with
    | nil => exact absurd rfl f3
    | cons c r =>
      have : c.toNat = 48 := e
      simp only [List.head?_cons, Option.some.injEq]
      exact UInt8.toNat_inj.1 this
theorem dec_numOk {l : List UInt8} (h : numOk l = true) : Lib.decDigits (valN l) = l := by
  unfold numOk at h
  simp only [Bool.and_eq_true, Bool.or_eq_true, decide_eq_true_eq] at h
  obtain ⟨⟨⟨h1, h2⟩, h3⟩, h4⟩ := h
  rw [isN_isD] at h1
  rw [valN_valD]
  refine digits_val l.length l rfl h1 (List.length_pos_iff.1 h2) (fun e => ?_)
  rcases h4 with h4 | h4
  · omega
  · exfalso
    cases l with
    | nil => simp at h2
    | cons c r =>
      have hc : c = 48 := by simpa using e
      subst hc
      exact h4 rfl
theorem txO_text (t : List UInt8) : txO (textF t) = true ∧ txR (textF t) = t := by
  unfold textF
  split
  · rename_i h; rw [h]; exact ⟨rfl, rfl⟩
  · rename_i h
    have hn : encH t ≠ [45] := fun e => by have h1 := congrArg List.length e; rw [encH_lenL] at h1; simp at h1; omega
    unfold txO txR
    rw [if_neg hn, dec_encH]
    refine ⟨?_, rfl⟩
    have : t.isEmpty = false := by cases t with | nil => exact absurd rfl h | cons => rfl
    simp [this]
theorem text_txO {p : List UInt8} (h : txO p = true) : textF (txR p) = p := by
  unfold txO at h
  simp only [Bool.or_eq_true, beq_iff_eq, Bool.and_eq_true, Bool.not_eq_true'] at h
  unfold txR
  split
  · rename_i e; rw [e]; rfl
  · rename_i e
    rcases h with h | ⟨h1, h2⟩
    · exact absurd h e
    · unfold textF
      rw [if_neg (fun q => by rw [q] at h2; cases h2), enc_decH p h1]
theorem rdR_fields {e : EvL} (h : e.Ok) : rdR (fieldsOf e) = e := by
  obtain ⟨n, tk, kd, cn, tx⟩ := e
  obtain ⟨o1, o2, o3, o4, o5, o6, o7⟩ := h
  simp only at o1 o2 o3 o4 o5 o6 o7
  obtain ⟨u, rfl⟩ : ∃ u : Nat, cn = u := ⟨cn.toNat, by omega⟩
  show EvL.mk (valN (Lib.decDigits n)) (valN (Lib.decDigits tk)) kd ((valN (Lib.itoa (u : Int)) : Nat) : Int) (txR (textF tx)) = _
  rw [Lib.itoa_nonneg, (numOk_dec n (by omega)).2, (numOk_dec tk (by omega)).2, (numOk_dec u (by omega)).2, (txO_text tx).2]
theorem spl_join {c : UInt8} : ∀ (l : List UInt8) (p : List UInt8) (ps : List (List UInt8)), spl c l = p :: ps → l = p ++ ps.flatMap (fun q => c :: q)
  | [], p, ps, h => by
    simp only [spl, List.cons.injEq] at h
    obtain ⟨rfl, rfl⟩ := h
    rfl
  | x :: t, p, ps, h => by
    by_cases hx : x = c
    · subst hx
      rw [spl_hit] at h
      injection h with h1 h2
      subst h1
      cases hs : spl x t with
      | nil => exact absurd hs (spl_ne x t)
      | cons q qs =>
        have ih := spl_join t q qs hs
        rw [hs] at h2
        subst h2
        rw [List.flatMap_cons, List.nil_append, List.cons_append, ← ih]
    · obtain ⟨q, qs, e1, e2⟩ := spl_miss hx t
      have ih := spl_join t q qs e1
      rw [e2] at h
      injection h with h1 h2
      subst h1 h2
      rw [List.cons_append, ← ih]
theorem five {α : Type} {l : List α} (h : l.length = 5) : ∃ a b c d e, l = [a, b, c, d, e] := by
  match l, h with
  | [a, b, c, d, e], _ => exact ⟨a, b, c, d, e, rfl⟩
theorem okR_iff (s : List UInt8) : okR s ↔ ∃ e : EvL, e.Ok ∧ evLine e = s := by
  constructor
  · rintro ⟨h1, h2, h3, h4, h5, h6⟩
    refine ⟨_, h6, ?_⟩
    obtain ⟨a, b, c, d, e, hs⟩ := five h1
    have hj := spl_join s _ _ hs
    rw [hs] at h2 h3 h4 h5 ⊢
    have g2 : txO e = true := h2
    have g3 : numOk a = true := h3
    have g4 : numOk b = true := h4
    have g5 : numOk d = true := h5
    show Lib.decDigits (valN a) ++ 32 :: (Lib.decDigits (valN b) ++ 32 :: (c ++ 32 :: (Lib.itoa ((valN d : Nat) : Int) ++ 32 :: textF (txR e)))) = s
    rw [Lib.itoa_nonneg, dec_numOk g3, dec_numOk g4, dec_numOk g5, text_txO g2, hj]
    simp
  · rintro ⟨e, h, rfl⟩
    unfold okR
    rw [spl_line h, rdR_fields h]
    have o := h
    obtain ⟨o1, o2, o3, o4, o5, o6, o7⟩ := o
    obtain ⟨u, hu⟩ : ∃ u : Nat, e.conn = u := ⟨e.conn.toNat, by omega⟩
    refine ⟨rfl, (txO_text _).1, (numOk_dec _ (by omega)).1, (numOk_dec _ (by omega)).1, ?_, h⟩
    show numOk (Lib.itoa e.conn) = true
    rw [hu, Lib.itoa_nonneg]
    exact (numOk_dec _ (by omega)).1
/-- What a text is read as, and the error: by the program and by the reference the same. -/
noncomputable def rdL (s : List UInt8) : EvL × Int := @ite _ (okP s) (Classical.propDecidable _) (rdP (Lib.splitN s [32] 5), 0) (⟨0, 0, [], 0, []⟩, 4)
theorem rdL_ok {s : List UInt8} (h : okP s) : rdL s = (rdP (Lib.splitN s [32] 5), 0) := if_pos h
theorem rdL_no {s : List UInt8} (h : ¬ okP s) : rdL s = (⟨0, 0, [], 0, []⟩, 4) := if_neg h
theorem rdL_line {e : EvL} (h : e.Ok) : rdL (evLine e) = (e, 0) := by
  rw [rdL_ok ((okP_iff _).2 ⟨e, h, rfl⟩), splitN_line h, rdP_fields h]
theorem rdL_okR {s : List UInt8} (h : okR s) : rdL s = (rdR (spl 32 s), 0) := by
  obtain ⟨e, he, rfl⟩ := (okR_iff s).1 h
  rw [rdL_line he, spl_line he, rdR_fields he]
theorem rdL_noR {s : List UInt8} (h : ¬ okR s) : rdL s = (⟨0, 0, [], 0, []⟩, 4) := rdL_no (fun q => h ((okR_iff s).2 ((okP_iff s).1 q)))
end Go.Proofs.YtoehkhbppmgfkaaGreatDoor
