/- rule as lists: words, patterns, what holds, what covers. Nothing of the program is imported. -/
import Derived.Test.YtpihpoapapfnkaaGreatDoorRuSp
import Derived.Test.YtpihpoapapfnkaaGreatDoorDecL
namespace Go.Proofs.YtpihpoapapfnkaaGreatDoor
open Go
/-- A rule. -/
structure RuL where
  allow : Bool
  role : List UInt8
  ten : List UInt8
  host : List UInt8
  frm : Int
  til : Int
theorem RuL.eq {a b : RuL} (h1 : a.allow = b.allow) (h2 : a.role = b.role) (h3 : a.ten = b.ten) (h4 : a.host = b.host) (h5 : a.frm = b.frm) (h6 : a.til = b.til) : a = b := by
  cases a; cases b; simp_all
def rlow (b : UInt8) : UInt8 := if 65 ≤ b.toNat ∧ b.toNat ≤ 90 then b + 32 else b
/-- Does a host fit a pattern? -/
def matchB (p h : List UInt8) : Bool := matchR p (h.map rlow)
/-- As rule.Match goes. -/
def progM (p h : List UInt8) : Bool :=
  if (Lib.cut p [42]).2.2 = false then h.map rlow == p
  else if Lib.hasPrefix (h.map rlow) (Lib.cut p [42]).1 = false then false
  else greedy (spl 42 (Lib.cut p [42]).2.1) (Lib.trimPrefix (h.map rlow) (Lib.cut p [42]).1)
theorem ix1_nil (c : UInt8) : Lib.index [] [c] = -1 := rfl
theorem ix1_hit (c : UInt8) (t : List UInt8) : Lib.index (c :: t) [c] = 0 := gix_hit (by rw [pre1]; simp)
theorem ix1_miss {c x : UInt8} (hx : x ≠ c) (t : List UInt8) : Lib.index (x :: t) [c] = if Lib.index t [c] == -1 then -1 else Lib.index t [c] + 1 :=
  gix_miss (by rw [pre1, beq_eq_false_iff_ne]; exact Ne.symm hx)
/-- Cutting at a byte. -/
theorem cut1 (c : UInt8) : ∀ (s : List UInt8), (c ∉ s ∧ Lib.cut s [c] = (s, [], false)) ∨ (∃ a b, s = a ++ c :: b ∧ c ∉ a ∧ Lib.cut s [c] = (a, b, true))
  | [] => .inl ⟨by simp, rfl⟩
  | x :: t => by
    by_cases hx : x = c
    · subst hx
      refine .inr ⟨[], t, rfl, by simp, ?_⟩
      unfold Lib.cut
      rw [ix1_hit]; simp
    · rcases cut1 c t with ⟨h1, h2⟩ | ⟨a, b, rfl, h1, h2⟩
      · refine .inl ⟨by simp [h1, Ne.symm hx], ?_⟩
        unfold Lib.cut at h2 ⊢
        by_cases hm : Lib.index t [c] = -1
        · rw [ix1_miss hx, hm]; simp
        · have hg := Lib.index_ge t [c]
          rw [if_pos (by omega)] at h2
          simp at h2
      · refine .inr ⟨x :: a, b, rfl, by simp [h1, Ne.symm hx], ?_⟩
        unfold Lib.cut at h2 ⊢
        by_cases hm : Lib.index (a ++ c :: b) [c] = -1
        · rw [hm] at h2; simp at h2
        · have hg := Lib.index_ge (a ++ c :: b) [c]
          rw [if_pos (by omega)] at h2
          have he := ix1_miss hx (a ++ c :: b)
          rw [if_neg (by rw [beq_iff_eq]; exact hm)] at he
          rw [he, if_pos (by omega)]
          obtain ⟨i, hi⟩ : ∃ i : Nat, Lib.index (a ++ c :: b) [c] = i := ⟨(Lib.index (a ++ c :: b) [c]).toNat, by omega⟩
          rw [hi] at h2 ⊢
          simp only [Int.toNat_natCast, Prod.mk.injEq, and_true] at h2
          obtain ⟨h3, h4⟩ := h2
          rw [show ((i : Int) + 1).toNat = i + 1 by omega, List.take_succ_cons, h3, show i + 1 + [c].length = (i + [c].length) + 1 by omega, List.drop_succ_cons, h4]
theorem progM_eq (p h : List UInt8) : progM p h = matchB p h := by
  unfold progM matchB
  obtain ⟨H, hH⟩ : ∃ H, H = h.map rlow := ⟨_, rfl⟩
  rw [← hH]
  rw [Bool.eq_iff_iff, matchR_iff]
  rcases cut1 42 p with ⟨h1, h2⟩ | ⟨a, b, rfl, h1, h2⟩
  · rw [h2, if_pos rfl, beq_iff_eq, G_lit p H h1]
  · rw [h2, if_neg (by simp), G_app]
    cases hp : Lib.hasPrefix H a with
    | false =>
      rw [if_pos rfl]
      constructor
      · intro e; cases e
      · rintro ⟨u, v, rfl, g, _⟩
        rw [(G_lit a u h1).1 g] at hp
        rw [(pre_iff (a ++ v) a).2 ⟨v, rfl⟩] at hp
        cases hp
    | true =>
      rw [if_neg (by simp)]
      obtain ⟨v, rfl⟩ := (pre_iff H a).1 hp
      have ht : Lib.trimPrefix (a ++ v) a = v := by unfold Lib.trimPrefix; rw [hp, if_pos rfl]; simp
      rw [ht, greedy_iff _ _ (spl_ne 42 b) (spl_mem b), starJoin_spl]
      constructor
      · intro g; exact ⟨a, v, rfl, (G_lit a a h1).2 rfl, g⟩
      · rintro ⟨u, w, e, g, g2⟩
        rw [(G_lit a u h1).1 g] at e
        rw [List.append_cancel_left e]; exact g2
/-- A word of a rule, another one: are they for the same? -/
def forB (w o : List UInt8) : Bool := w == [42] || w == o
def holdsB (r : RuL) (role ten host : List UInt8) (port : Int) : Bool :=
  forB r.role role && forB r.ten ten && matchB r.host host && decide (r.frm ≤ port) && decide (port ≤ r.til)
/-- As coversHost goes. -/
def overP (a b : List UInt8) : Bool :=
  if a = b then true else if a.count 42 ≠ 1 then false
  else ((Lib.cut a [42]).2.1 == [] && Lib.hasPrefix b (Lib.cut a [42]).1) || ((Lib.cut a [42]).1 == [] && Lib.hasSuffix b (Lib.cut a [42]).2.1)
def coversB (a b : RuL) : Bool := forB a.role b.role && forB a.ten b.ten && overP a.host b.host && decide (a.frm ≤ b.frm) && decide (b.til ≤ a.til)
theorem forB_trans {a b c : List UInt8} (h1 : forB a b = true) (h2 : forB b c = true) : forB a c = true := by
  unfold forB at *
  simp only [Bool.or_eq_true, beq_iff_eq] at *
  rcases h1 with h1 | rfl
  · exact .inl h1
  · exact h2
theorem G_star_end {p h : List UInt8} (hp : (42 : UInt8) ∉ p) : G (p ++ [42]) h ↔ ∃ v, h = p ++ v := by
  rw [G_app]
  constructor
  · rintro ⟨u, v, rfl, g, _⟩; rw [(G_lit p u hp).1 g]; exact ⟨v, rfl⟩
  · rintro ⟨v, rfl⟩; exact ⟨p, v, rfl, (G_lit p p hp).2 rfl, G_any v⟩
theorem over_sound {a b h : List UInt8} (ho : overP a b = true) (hm : matchB b h = true) : matchB a h = true := by
  unfold matchB at *
  rw [matchR_iff] at *
  unfold overP at ho
  split at ho
  · rename_i e; rw [e]; exact hm
  · split at ho
    · cases ho
    · rename_i _ hc
      rcases cut1 42 a with ⟨h1, h2⟩ | ⟨x, y, rfl, h1, h2⟩
      · exfalso; apply hc; rw [List.count_eq_zero.2 h1]; decide
      · rw [h2] at ho
        have hy : (42 : UInt8) ∉ y := by
          rw [Decidable.not_not, List.count_append, List.count_eq_zero.2 h1, List.count_cons_self] at hc
          exact List.count_eq_zero.1 (by omega)
        simp only [Bool.or_eq_true, Bool.and_eq_true, beq_iff_eq] at ho
        rcases ho with ⟨rfl, hp⟩ | ⟨rfl, hs⟩
        · obtain ⟨u, rfl⟩ := (pre_iff b x).1 hp
          obtain ⟨v, w, e, g, _⟩ := (G_app _ _ _).1 hm
          rw [(G_lit x v h1).1 g] at e
          exact (G_star_end h1).2 ⟨w, e⟩
        · obtain ⟨u, rfl⟩ := (suf_iff b y).1 hs
          obtain ⟨v, w, e, _, g⟩ := (G_app _ _ _).1 hm
          rw [(G_lit y w hy).1 g] at e
          exact (G_star _ _).2 ⟨v, y, e, (G_lit y y hy).2 rfl⟩
theorem covers_sound {a b : RuL} {role ten host : List UInt8} {port : Int} (hc : coversB a b = true) (hb : holdsB b role ten host port = true) : holdsB a role ten host port = true := by
  unfold coversB at hc
  unfold holdsB at hb ⊢
  simp only [Bool.and_eq_true, decide_eq_true_eq] at *
  obtain ⟨⟨⟨⟨c1, c2⟩, c3⟩, c4⟩, c5⟩ := hc
  obtain ⟨⟨⟨⟨b1, b2⟩, b3⟩, b4⟩, b5⟩ := hb
  exact ⟨⟨⟨⟨forB_trans c1 b1, forB_trans c2 b2⟩, over_sound c3 b3⟩, by omega⟩, by omega⟩
/-- The first rule that holds. -/
def whichL (role ten host : List UInt8) (port : Int) : List RuL → Option Nat
  | [] => none
  | r :: l => if holdsB r role ten host port = true then some 0 else (whichL role ten host port l).map (· + 1)
/-- May it be? -/
def mayL (role ten host : List UInt8) (port : Int) : List RuL → Bool
  | [] => false
  | r :: l => if holdsB r role ten host port = true then r.allow else mayL role ten host port l
theorem whichL_none {role ten host : List UInt8} {port : Int} : ∀ {l : List RuL}, (∀ r ∈ l, holdsB r role ten host port = false) → whichL role ten host port l = none
  | [], _ => rfl
  | r :: l, h => by
    rw [whichL, if_neg (by rw [h r (by simp)]; simp), whichL_none (fun x hx => h x (by simp [hx]))]; rfl
theorem whichL_at {role ten host : List UInt8} {port : Int} : ∀ {l : List RuL} (i : Nat) (hi : i < l.length), (∀ r ∈ l.take i, holdsB r role ten host port = false) → holdsB l[i] role ten host port = true → whichL role ten host port l = some i
  | r :: l, 0, _, _, h => by rw [whichL, if_pos (show holdsB r role ten host port = true from h)]
  | r :: l, i + 1, hi, h, h2 => by
    rw [whichL, if_neg (by rw [h r (by simp)]; simp), whichL_at i (by simpa using hi) (fun x hx => h x (by simp [hx])) h2]; rfl
theorem whichL_cases (role ten host : List UInt8) (port : Int) : ∀ l : List RuL, (whichL role ten host port l = none ∧ (∀ r ∈ l, holdsB r role ten host port = false) ∧ mayL role ten host port l = false) ∨
    (∃ (i : Nat) (hi : i < l.length), whichL role ten host port l = some i ∧ (∀ r ∈ l.take i, holdsB r role ten host port = false) ∧ holdsB l[i] role ten host port = true ∧ mayL role ten host port l = l[i].allow)
  | [] => .inl ⟨rfl, by simp, rfl⟩
  | r :: l => by
    cases h : holdsB r role ten host port with
    | true => exact .inr ⟨0, by simp, by rw [whichL, if_pos h], by simp, h, by rw [mayL, if_pos h]; rfl⟩
    | false =>
      rcases whichL_cases role ten host port l with ⟨a, b, c⟩ | ⟨i, hi, a, b, c, d⟩
      · refine .inl ⟨by rw [whichL, if_neg (by simp [h]), a]; rfl, fun x hx => ?_, by rw [mayL, if_neg (by simp [h]), c]⟩
        rcases List.mem_cons.1 hx with rfl | hx
        · exact h
        · exact b x hx
      · refine .inr ⟨i + 1, by simpa using hi, by rw [whichL, if_neg (by simp [h]), a]; rfl, fun x hx => ?_, c, by rw [mayL, if_neg (by simp [h]), d]; rfl⟩
        rw [List.take_succ_cons] at hx
        rcases List.mem_cons.1 hx with rfl | hx
        · exact h
        · exact b x hx
end Go.Proofs.YtpihpoapapfnkaaGreatDoor
