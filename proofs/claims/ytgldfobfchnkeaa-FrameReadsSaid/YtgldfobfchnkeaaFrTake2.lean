/- take at a Reader that goes on, at a broken one, at none. -/
import Derived.Test.YtgldfobfchnkeaaFrTake
namespace Go.Proofs.Ytgldfobfchnkeaa
open Go.RowKit Go.Shelf

def keys (fs : List Told) : List (UInt8 × List UInt8) := fs.map fun x => (x.1, x.2.2)
/-- Of the bytes l0 the frames fs stand in front, and l behind them. -/
inductive Eats (l0 : List UInt8) : List (UInt8 × List UInt8) → List UInt8 → Prop
  | nil : Eats l0 [] l0
  | snoc {fs : List (UInt8 × List UInt8)} {l r b : List UInt8} {k : UInt8} : Eats l0 fs l → un l = .fr k b r → Eats l0 (fs ++ [(k, b)]) r
def eatLen (fs : List (UInt8 × List UInt8)) : Nat := (fs.map fun x => 3 + x.2.length).sum
theorem eatLen_snoc (fs : List (UInt8 × List UInt8)) (k : UInt8) (b : List UInt8) : eatLen (fs ++ [(k, b)]) = eatLen fs + (3 + b.length) := by unfold eatLen; simp
theorem Eats.len {l0 l : List UInt8} {fs : List (UInt8 × List UInt8)} (h : Eats l0 fs l) : l0.length = eatLen fs + l.length := by
  induction h with
  | nil => simp [eatLen]
  | snoc h hu ih => rw [eatLen_snoc, ih, (un_len hu).2.2.1]; omega
theorem Chg.later {w A B : World} {g : Nat} {V : Value} (h : Chg w A g V) (hb : Below w.heap.size A B) : Chg w B g V :=
  ⟨hb.os.trans h.os, hb.tape.trans h.tape, hb.output.trans h.output, Nat.le_trans h.size hb.size, fun k hk hg hv => (hb.block k hk).trans (h.block k hk hg hv)⟩
theorem Rd.later {A B : World} {b base g bad : Nat} {V : Value} {l : List UInt8} (h : Rd A base g V l bad) (hb : Below b A B) (hg : g < b) (hV : ∀ k, V.ownBlock = some k → k < b) : Rd B base g V l bad :=
  ⟨h.blk.below hb hg, h.own.same (fun k _ e => hb.block k (hV k e)), h.ne, h.le, h.fit⟩
theorem Chg.keepsAt {A B : World} {b g : Nat} {V : Value} (h : Chg A B g V) (hg : g < b) (hV : ∀ k, V.ownBlock = some k → k < b) : KeepsAt b A B :=
  ⟨h.size, fun k hk hl => h.block k hl (by omega) (fun e => by have := hV k e; omega)⟩
/-- How many bytes the Reader at block g holds. -/
def rdLen (g : Nat) (W : World) : Nat := match W.cell? ⟨g, 0, none⟩ with | some (.slice _ n _) => n | _ => 0
theorem Rd.rdLen {W : World} {base g bad : Nat} {V : Value} {l : List UInt8} (h : Rd W base g V l bad) : rdLen g W = l.length := by
  obtain ⟨A, c, rfl, _⟩ := h.own.sl
  unfold Go.Proofs.Ytgldfobfchnkeaa.rdLen
  rw [h.blk.at (o := 0) rfl]
/-- The Reader behind a take that ended by an error, or because there were enough. -/
def After (W : World) (base g : Nat) (l0 : List UInt8) (m : Nat) (fs : List Told) (V : Value) : Prop :=
  ∃ l, Eats l0 (keys fs) l ∧ ((fs.length = m ∧ Rd W base g V l 0) ∨ (fs.length < m ∧ ∃ c, un l = .no c ∧ Rd W base g V (if c = 2 then l else []) (if c = 2 then 0 else c)))
theorem take_ok {w : World} {base g : Nat} {V : Value} {l0 : List UInt8} (h : Rd w base g V l0 0) (m : Nat) (h1 : 1 ≤ m) (h2 : m ≤ 1000) :
    Calls Try.prog 20 #[.pointer (some ⟨g, 0, none⟩), .int .i64 (m : Int)] w fun e W' => ∃ v fs V', e = .returned v ∧ W'.ownsRow w.heap.size 27 2 v fs.length (fcells fs) ∧ (∀ x ∈ fs, OwnB W' w.heap.size x.2.1 x.2.2) ∧ After W' base g l0 m fs V' ∧ Chg w W' g V ∧ (V'.ownBlock = none ∨ V'.ownBlock = V.ownBlock) := by
  have hg : g < w.heap.size := h.blk.lt
  have hVb : ∀ k, V.ownBlock = some k → k < w.heap.size := fun k e => (h.own.lt k e).2
  refine (take_core (.pointer (some ⟨g, 0, none⟩)) (.inr ⟨g, rfl⟩) m h1 h2 w
    (fun pre W => ∃ l V', Eats l0 (keys pre) l ∧ Rd W base g V' l 0 ∧ Chg w W g V ∧ (V'.ownBlock = none ∨ V'.ownBlock = V.ownBlock))
    (fun pre W => ∃ l V' c, Eats l0 (keys pre) l ∧ un l = .no c ∧ Rd W base g V' (if c = 2 then l else []) (if c = 2 then 0 else c) ∧ Chg w W g V ∧ (V'.ownBlock = none ∨ V'.ownBlock = V.ownBlock))
    (rdLen g) (fun pre => l0.length - eatLen (keys pre)) ?_ ?_ ?_ ?_ ?_ ?_ ?_).mono ?_
  · rintro pre A B ⟨l, V', he, hr, hc, hv⟩ hb
    have hv' : ∀ k, V'.ownBlock = some k → k < w.heap.size := fun k e => by rcases hv with e' | e'; rw [e'] at e; cases e; exact hVb k (by rw [← e', e])
    exact ⟨l, V', he, hr.later hb hg hv', hc.later hb, hv⟩
  · rintro pre A B ⟨l, V', c, he, hu, hr, hc, hv⟩ hb
    have hv' : ∀ k, V'.ownBlock = some k → k < w.heap.size := fun k e => by rcases hv with e' | e'; rw [e'] at e; cases e; exact hVb k (by rw [← e', e])
    exact ⟨l, V', c, he, hu, hr.later hb hg hv', hc.later hb, hv⟩
  · rintro pre A ⟨l, V', he, hr, hc, hv⟩; exact hc.size
  · rintro pre A ⟨l, V', c, he, hu, hr, hc, hv⟩; exact hc.size
  · rintro pre W ⟨l, V', he, hr, hc, hv⟩
    rw [hr.rdLen]
    have := he.len
    omega
  · rintro pre W ⟨l, V', he, hr, hc, hv⟩
    have hv' : ∀ k, V'.ownBlock = some k → k < w.heap.size := fun k e => by rcases hv with e' | e'; rw [e'] at e; cases e; exact hVb k (by rw [← e', e])
    have hnew : Newer w V V' := fun k e => by rcases hv with e' | e'; rw [e'] at e; cases e; exact .inl (by rw [← e', e])
    rcases hu : un l with c | ⟨k, body, rest⟩
    · have hcc : ∀ {W' : World} {V2 : Value} {e : Ending}, e = .returned (.tuple #[.agg #[.int .u8 0, .slice none 0 0], .int .i64 (c : Int)]) → Rd W' base g V2 (if c = 2 then l else []) (if c = 2 then 0 else c) → Chg W W' g V' → (V2.ownBlock = none ∨ V2.ownBlock = V.ownBlock) →
          KeepsAt w.heap.size W W' ∧ ((∃ c : Int, (c != 0) = true ∧ e = .returned (.tuple #[.agg #[.int .u8 0, .slice none 0 0], .int .i64 c]) ∧ ∃ l V' c, Eats l0 (keys pre) l ∧ un l = .no c ∧ Rd W' base g V' (if c = 2 then l else []) (if c = 2 then 0 else c) ∧ Chg w W' g V ∧ (V'.ownBlock = none ∨ V'.ownBlock = V.ownBlock)) ∨ (∃ x : Told, (∃ A n c, x.2.1 = .slice A n c) ∧ e = .returned (.tuple #[toldV x, .int .i64 0]) ∧ (∃ l V', Eats l0 (keys (pre ++ [x])) l ∧ Rd W' base g V' l 0 ∧ Chg w W' g V ∧ (V'.ownBlock = none ∨ V'.ownBlock = V.ownBlock)) ∧ OwnB W' w.heap.size x.2.1 x.2.2 ∧ l0.length - eatLen (keys (pre ++ [x])) < l0.length - eatLen (keys pre))) := by
        intro W' V2 e he' hr' hc' hv2
        exact ⟨hc'.keepsAt hg hv', .inl ⟨c, by have := un_no hu; simp; omega, he', l, V2, c, he, hu, hr', hc.trans hnew hc', hv2⟩⟩
      rcases un_no hu with rfl | rfl | rfl
      · exact (next_err hr 1 (.inl rfl) hu).mono fun e w' ⟨he', hr', hc'⟩ => hcc he' hr' hc' (.inl rfl)
      · exact (next_short hr hu).mono fun e w' ⟨he', hb⟩ => hcc he' (hr.below hb) (Chg.of_below hb _ _) hv
      · exact (next_err hr 3 (.inr rfl) hu).mono fun e w' ⟨he', hr', hc'⟩ => hcc he' hr' hc' (.inl rfl)
    · refine (next_fr hr k body rest hu).mono ?_
      rintro e w' ⟨v', V2, he', hO, hr', hc', hV2⟩
      have hen := (Eats.snoc he hu).len
      have hkk : keys (pre ++ [(k, v', body)]) = keys pre ++ [(k, body)] := by unfold keys; simp
      refine ⟨hc'.keepsAt hg hv', .inr ⟨(k, v', body), ?_, he', ⟨rest, V2, by rw [hkk]; exact Eats.snoc he hu, hr', hc.trans hnew hc', by rw [hV2]; exact hv⟩, hO.lower hc.size, ?_⟩⟩
      · obtain ⟨A, c, h, _⟩ := hO.sl; exact ⟨A, _, c, h⟩
      · rw [hkk]
        rw [eatLen_snoc] at hen ⊢
        omega
  · exact ⟨l0, V, Eats.nil, h, Chg.refl _ _ _, .inr rfl⟩
  · rintro e W' ⟨v, fs, he, hrow, hbd, ⟨⟨l, V', c, h1, h2, h3, h4, h5⟩, hlt⟩ | ⟨⟨l, V', h1, h2, h3, h4⟩, heq⟩⟩
    · exact ⟨v, fs, V', he, hrow, hbd, ⟨l, h1, .inr ⟨hlt, c, h2, h3⟩⟩, h4, h5⟩
    · exact ⟨v, fs, V', he, hrow, hbd, ⟨l, h1, .inl ⟨heq, h2⟩⟩, h3, h4⟩
theorem newer_of {w : World} {V V' : Value} (h : V'.ownBlock = none ∨ V'.ownBlock = V.ownBlock) : Newer w V V' := fun k e => by rcases h with e' | e'; rw [e'] at e; cases e; exact .inl (by rw [← e', e])
theorem take_bad {w : World} {base g bad : Nat} {V : Value} {l0 : List UInt8} (h : Rd w base g V l0 bad) (hb : bad ≠ 0) (m : Nat) (h1 : 1 ≤ m) (h2 : m ≤ 1000) :
    Calls Try.prog 20 #[.pointer (some ⟨g, 0, none⟩), .int .i64 (m : Int)] w fun e W' => ∃ v, e = .returned v ∧ W'.ownsRow w.heap.size 27 2 v 0 [] ∧ Below w.heap.size w W' := by
  refine (take_core (.pointer (some ⟨g, 0, none⟩)) (.inr ⟨g, rfl⟩) m h1 h2 w
    (fun pre W => pre = [] ∧ Below w.heap.size w W) (fun pre W => pre = [] ∧ Below w.heap.size w W) (fun _ => 0) (fun _ => 0)
    (fun pre A B hs hb => ⟨hs.1, hs.2.trans hb⟩) (fun pre A B hs hb => ⟨hs.1, hs.2.trans hb⟩) (fun _ _ hs => hs.2.size) (fun _ _ hs => hs.2.size) (fun _ _ _ => rfl) ?_ ⟨rfl, Below.refl _ _⟩).mono ?_
  · rintro pre W ⟨rfl, hB⟩
    refine (next_bad (h.below hB) hb).mono ?_
    rintro e w' ⟨he, hb'⟩
    exact ⟨⟨hb'.size, fun k _ hl => hb'.block k hl⟩, .inl ⟨bad, by simp; omega, he, rfl, hB.trans (hb'.mono hB.size)⟩⟩
  · rintro e W' ⟨v, fs, he, hrow, hbd, ⟨⟨rfl, h3⟩, _⟩ | ⟨⟨rfl, h3⟩, heq⟩⟩
    · exact ⟨v, he, hrow, h3⟩
    · exact ⟨v, he, hrow, h3⟩
theorem take_nil (w : World) (m : Nat) (h1 : 1 ≤ m) (h2 : m ≤ 1000) :
    Calls Try.prog 20 #[.pointer none, .int .i64 (m : Int)] w fun e W' => ∃ v, e = .returned v ∧ W'.ownsRow w.heap.size 27 2 v 0 [] ∧ Below w.heap.size w W' := by
  refine (take_core (.pointer none) (.inl rfl) m h1 h2 w
    (fun pre W => pre = [] ∧ Below w.heap.size w W) (fun pre W => pre = [] ∧ Below w.heap.size w W) (fun _ => 0) (fun _ => 0)
    (fun pre A B hs hb => ⟨hs.1, hs.2.trans hb⟩) (fun pre A B hs hb => ⟨hs.1, hs.2.trans hb⟩) (fun _ _ hs => hs.2.size) (fun _ _ hs => hs.2.size) (fun _ _ _ => rfl) ?_ ⟨rfl, Below.refl _ _⟩).mono ?_
  · rintro pre W ⟨rfl, hB⟩
    refine (next_nil W).mono ?_
    rintro e w' ⟨he, hb'⟩
    exact ⟨⟨hb'.size, fun k _ hl => hb'.block k hl⟩, .inl ⟨6, rfl, he, rfl, hB.trans (hb'.mono hB.size)⟩⟩
  · rintro e W' ⟨v, fs, he, hrow, hbd, ⟨⟨rfl, h3⟩, _⟩ | ⟨⟨rfl, h3⟩, heq⟩⟩
    · exact ⟨v, he, hrow, h3⟩
    · exact ⟨v, he, hrow, h3⟩
set_option maxHeartbeats 400000 in
theorem take_zero (p : Value) (w : World) : Calls Try.prog 20 #[p, .int .i64 0] w fun e W' => e = .returned (.slice none 0 0) ∧ Below w.heap.size w W' := by
  go_enter Try.func20, Try.ntmps20
  go_wp2_with fail
  go_ret
  exact ⟨rfl, ((Below.refl _ _).alloc (Nat.le_refl _) _).alloc (by simp) _⟩
end Go.Proofs.Ytgldfobfchnkeaa
