/- FrameReads: both Readers in one state. -/
import Derived.Test.YtgldfobfchnkeaaFrRN
import Derived.Test.YtgldfobfchnkeaaFrParts2
namespace Go.Proofs.Ytgldfobfchnkeaa
open Go.RowKit

abbrev St : Type := List UInt8 × Nat
/-- What a Reader answers, and what it is then. -/
def ans (nb : Bool) (s : St) : Option (UInt8 × List UInt8) × Nat :=
  if nb then (none, 6) else if s.2 ≠ 0 then (none, s.2) else match un s.1 with | .fr k b _ => (some (k, b), 0) | .no c => (none, c)
def nxt (nb : Bool) (s : St) : St :=
  if nb then s else if s.2 ≠ 0 then s else match un s.1 with | .fr _ _ r => (r, 0) | .no c => if c = 2 then s else ([], c)
def fdn (nb : Bool) (s : St) (p : List UInt8) : Nat := if nb then 0 else if s.2 ≠ 0 then 0 else if p.length ≤ 8192 - s.1.length then p.length else 8192 - s.1.length
def fds (nb : Bool) (s : St) (p : List UInt8) : St := if nb then s else if s.2 ≠ 0 then s else (s.1 ++ p.take (fdn nb s p), 0)
def Ans (a : Option (UInt8 × List UInt8) × Nat) (e : Ending) (w' : World) : Prop :=
  match a.1 with
  | some (k, b) => ∃ v, e = .returned (.tuple #[.agg #[vb k, v], .int .i64 0]) ∧ Sl w' w'.heap.size v b
  | none => e = .returned (.tuple #[.agg #[.int .u8 0, .slice none 0 0], .int .i64 (a.2 : Int)])
def AnsO (base : Nat) (a : Option (UInt8 × List UInt8) × Nat) (e : Ending) (w' : World) : Prop :=
  match a.1 with
  | some (k, b) => ∃ v, e = .returned (.tuple #[.agg #[vb k, v], .int .i64 0]) ∧ OwnB w' base v b
  | none => e = .returned (.tuple #[.agg #[.int .u8 0, .slice none 0 0], .int .i64 (a.2 : Int)])
/-- Both Readers: the program's is s, in the slice V; the reference's is sx, in Vx; or there are none. -/
structure S2 (w1 : World) (nb : Bool) (r x V Vx : Value) (s sx : St) (W : World) : Prop where
  b : Below w1.heap.size w1 W
  c : (nb = true ∧ r = .pointer none ∧ x = .pointer none ∧ V = .slice none 0 0 ∧ Vx = .slice none 0 0) ∨
    (nb = false ∧ r = .pointer (some ⟨w1.heap.size, 0, none⟩) ∧ x = .pointer (some ⟨w1.heap.size + 1, 0, none⟩) ∧ Rd W w1.heap.size w1.heap.size V s.1 s.2 ∧ Blk W (w1.heap.size + 1) [Vx, .int .i64 (sx.2 : Int)] ∧ Sl W W.heap.size Vx sx.1 ∧ sx.1.length ≤ 8192 ∧ (∀ k, Vx.ownBlock = some k → k < W.heap.size) ∧
      V.ownBlock ≠ some (w1.heap.size + 1) ∧ Vx.ownBlock ≠ some w1.heap.size ∧ Vx.ownBlock ≠ some (w1.heap.size + 1) ∧ (V.ownBlock = none ∨ V.ownBlock ≠ Vx.ownBlock))
theorem sl_none {w : World} {B : Nat} : Sl w B (.slice none 0 0) [] := ⟨none, 0, rfl, fun _ => rfl, by simp, by omega, fun h => by simp at h⟩
section
variable {w1 W W' : World} {nb : Bool} {r x V V' Vx Vx' : Value} {s s' sx sx' : St}
theorem S2.below (h : S2 w1 nb r x V Vx s sx W) (hb : Below W.heap.size W W') : S2 w1 nb r x V Vx s sx W' := by
  refine ⟨h.b.trans (hb.mono h.b.size), ?_⟩
  rcases h.c with h1 | ⟨h0, h1, h2, h3, h4, h5, h6, hL, h7⟩
  · exact .inl h1
  · exact .inr ⟨h0, h1, h2, h3.below hb, h4.below hb h4.lt, (h5.below hb (Nat.le_refl _)).more hb.size, h6, (fun k e => Nat.lt_of_lt_of_le (hL k e) hb.size), h7⟩
/-- Blocks of neither Reader may turn. -/
theorem S2.kept (h : S2 w1 nb r x V Vx s sx W) {j : Nat} (hg : W.grownBy W' (some j)) (hj : w1.heap.size ≤ j) (h1 : nb = false → j ≠ w1.heap.size ∧ j ≠ w1.heap.size + 1) (h2 : V.ownBlock ≠ some j) (h3 : Vx.ownBlock ≠ some j) : S2 w1 nb r x V Vx s sx W' := by
  refine ⟨h.b.trans ((Below.refl _ _).grown hg h.b.size (fun k e => by cases e; exact hj)), ?_⟩
  rcases h.c with h1 | ⟨h0, k1, k2, k3, k4, k5, k6, kL, k7⟩
  · exact .inl h1
  · obtain ⟨q1, q2⟩ := h1 h0
    have hc : Chg W W' j (.slice none 0 0) := Chg.of_grown hg (.inr (.inl rfl))
    exact .inr ⟨h0, k1, k2, k3.grown hg (by simpa using Ne.symm q1) (.inr h2), k4.grown hg (by simpa using Ne.symm q2), (k5.chg hc (Nat.le_refl _) h3 (.inl rfl)).more hg.size, k6, (fun k e => Nat.lt_of_lt_of_le (kL k e) hg.size), k7⟩
theorem next_S (h : S2 w1 nb r x V Vx s sx W) : Calls Try.prog 18 #[r] W fun e W' => ∃ V', AnsO W.heap.size (ans nb s) e W' ∧ S2 w1 nb r x V' Vx (nxt nb s) sx W' ∧ Chg W W' w1.heap.size V ∧ (V'.ownBlock = none ∨ V'.ownBlock = V.ownBlock) := by
  rcases h.c with ⟨rfl, rfl, rfl, rfl, rfl⟩ | ⟨rfl, rfl, rfl, k3, k4, k5, k6, kL, k7, k8, k9, k10⟩
  · refine (next_nil W).mono fun e W' ⟨he, hb⟩ => ⟨.slice none 0 0, he, ?_, Chg.of_below hb _ _, .inl rfl⟩
    exact ⟨h.b.trans (hb.mono h.b.size), .inl ⟨rfl, rfl, rfl, rfl, rfl⟩⟩
  · have fin : ∀ {W' : World} {V' : Value} {t : St}, Rd W' w1.heap.size w1.heap.size V' t.1 t.2 → Chg W W' w1.heap.size V → (V'.ownBlock = none ∨ V'.ownBlock = V.ownBlock) → S2 w1 false (.pointer (some ⟨w1.heap.size, 0, none⟩)) (.pointer (some ⟨w1.heap.size + 1, 0, none⟩)) V' Vx t sx W' := by
      intro W' V' t hr hc hv
      refine ⟨h.b.trans (k3.chgBelow hc), .inr ⟨rfl, rfl, rfl, hr, hc.blk k4 (by omega) k7, (k5.chg hc (Nat.le_refl _) k8 k10).more hc.size, k6, (fun k e => Nat.lt_of_lt_of_le (kL k e) hc.size), ?_, k8, k9, ?_⟩⟩
      · rcases hv with e | e
        · rw [e]; simp
        · rw [e]; exact k7
      · rcases hv with e | e
        · exact .inl e
        · rw [e]; exact k10
    obtain ⟨l, bad⟩ := s
    by_cases hb : bad = 0
    · subst hb
      rcases hu : un l with c | ⟨k, body, rest⟩
      · have ha : ans false (l, 0) = (none, c) := by simp [ans, hu]
        rw [ha]
        rcases un_no hu with rfl | rfl | rfl
        · have hn : nxt false (l, 0) = ([], 1) := by simp [nxt, hu]
          rw [hn]
          exact (next_err k3 1 (.inl rfl) hu).mono fun e W' ⟨he, hr, hc⟩ => ⟨_, he, fin (t := ([], 1)) hr hc (.inl rfl), hc, .inl rfl⟩
        · have hn : nxt false (l, 0) = (l, 0) := by simp [nxt, hu]
          rw [hn]
          exact (next_short k3 hu).mono fun e W' ⟨he, hb⟩ => ⟨V, he, fin (t := (l, 0)) (k3.below hb) (Chg.of_below hb _ _) (.inr rfl), Chg.of_below hb _ _, .inr rfl⟩
        · have hn : nxt false (l, 0) = ([], 3) := by simp [nxt, hu]
          rw [hn]
          exact (next_err k3 3 (.inr rfl) hu).mono fun e W' ⟨he, hr, hc⟩ => ⟨_, he, fin (t := ([], 3)) hr hc (.inl rfl), hc, .inl rfl⟩
      · have ha : ans false (l, 0) = (some (k, body), 0) := by simp [ans, hu]
        have hn : nxt false (l, 0) = (rest, 0) := by simp [nxt, hu]
        rw [ha, hn]
        exact (next_fr k3 k body rest hu).mono fun e W' ⟨v', V', he, hO, hr, hc, hv⟩ => ⟨V', ⟨v', he, hO⟩, fin (t := (rest, 0)) hr hc (.inr hv), hc, .inr hv⟩
    · have ha : ans false (l, bad) = (none, bad) := by simp [ans, hb]
      have hn : nxt false (l, bad) = (l, bad) := by simp [nxt, hb]
      rw [ha, hn]
      exact (next_bad k3 hb).mono fun e W' ⟨he, hb⟩ => ⟨V, he, fin (t := (l, bad)) (k3.below hb) (Chg.of_below hb _ _) (.inr rfl), Chg.of_below hb _ _, .inr rfl⟩
theorem rnext_S (h : S2 w1 nb r x V Vx s sx W) : Calls Try.prog 19 #[x] W fun e W' => ∃ Vx', Ans (ans nb sx) e W' ∧ S2 w1 nb r x V Vx' s (nxt nb sx) W' ∧ Chg W W' (w1.heap.size + 1) (.slice none 0 0) ∧ (Vx'.ownBlock = none ∨ Vx'.ownBlock = Vx.ownBlock) := by
  rcases h.c with ⟨rfl, rfl, rfl, rfl, rfl⟩ | ⟨rfl, rfl, rfl, k3, k4, k5, k6, kL, k7, k8, k9, k10⟩
  · refine (rnext_nil W).mono fun e W' ⟨he, hb⟩ => ⟨.slice none 0 0, he, ?_, Chg.of_below hb _ _, .inl rfl⟩
    exact ⟨h.b.trans (hb.mono h.b.size), .inl ⟨rfl, rfl, rfl, rfl, rfl⟩⟩
  · have fin : ∀ {W' : World} {Vx' : Value} {t : St}, Blk W' (w1.heap.size + 1) [Vx', .int .i64 (t.2 : Int)] → Sl W W.heap.size Vx' t.1 → t.1.length ≤ 8192 → Chg W W' (w1.heap.size + 1) (.slice none 0 0) → (Vx'.ownBlock = none ∨ Vx'.ownBlock = Vx.ownBlock) → S2 w1 false (.pointer (some ⟨w1.heap.size, 0, none⟩)) (.pointer (some ⟨w1.heap.size + 1, 0, none⟩)) V Vx' s t W' := by
      intro W' Vx' t hr hs hl hc hv
      have hne : Vx'.ownBlock ≠ some w1.heap.size ∧ Vx'.ownBlock ≠ some (w1.heap.size + 1) ∧ (V.ownBlock = none ∨ V.ownBlock ≠ Vx'.ownBlock) := by
        rcases hv with e | e
        · rw [e]; refine ⟨by simp, by simp, ?_⟩
          by_cases h0 : V.ownBlock = none
          · exact .inl h0
          · exact .inr h0
        · rw [e]; exact ⟨k8, k9, k10⟩
      have hbb : Below w1.heap.size W W' := hc.below (by omega) (fun k e => by cases e) h.b.size
      refine ⟨h.b.trans hbb, .inr ⟨rfl, rfl, rfl, ⟨hc.blk k3.blk (by omega) (by simp [Value.ownBlock]), k3.own.chg hc k7 (.inl rfl), k3.ne, k3.le, k3.fit⟩, hr, (hs.chg hc (Nat.le_refl _) hne.2.1 (.inl rfl)).more hc.size, hl, ?_, k7, hne⟩⟩
      intro k e
      rcases hv with e' | e'
      · rw [e'] at e; cases e
      · exact Nat.lt_of_lt_of_le (kL k (by rw [← e', e])) hc.size
    obtain ⟨l, bad⟩ := sx
    by_cases hb : bad = 0
    · subst hb
      rcases hu : un l with c | ⟨k, body, rest⟩
      · have ha : ans false (l, 0) = (none, c) := by simp [ans, hu]
        rw [ha]
        rcases un_no hu with rfl | rfl | rfl
        · have hn : nxt false (l, 0) = ([], 1) := by simp [nxt, hu]
          rw [hn]
          exact (rnext_err k4 k5 k6 1 (.inl rfl) hu).mono fun e W' ⟨he, hr, hc⟩ => ⟨_, he, fin (t := ([], 1)) hr sl_none (by simp) hc (.inl rfl), hc, .inl rfl⟩
        · have hn : nxt false (l, 0) = (l, 0) := by simp [nxt, hu]
          rw [hn]
          exact (rnext_short k4 k5 k6 hu).mono fun e W' ⟨he, hb⟩ => ⟨Vx, he, fin (t := (l, 0)) (k4.below hb k4.lt) k5 k6 (Chg.of_below hb _ _) (.inr rfl), Chg.of_below hb _ _, .inr rfl⟩
        · have hn : nxt false (l, 0) = ([], 3) := by simp [nxt, hu]
          rw [hn]
          exact (rnext_err k4 k5 k6 3 (.inr rfl) hu).mono fun e W' ⟨he, hr, hc⟩ => ⟨_, he, fin (t := ([], 3)) hr sl_none (by simp) hc (.inl rfl), hc, .inl rfl⟩
      · have ha : ans false (l, 0) = (some (k, body), 0) := by simp [ans, hu]
        have hn : nxt false (l, 0) = (rest, 0) := by simp [nxt, hu]
        rw [ha, hn]
        have hrl : rest.length ≤ 8192 := by have := (un_len hu).2.2.1; have h6 : l.length ≤ 8192 := k6; omega
        exact (rnext_fr k4 k5 k6 k body rest hu).mono fun e W' ⟨v', V', he, hO, hr, ⟨hs, hv⟩, hc⟩ => ⟨V', ⟨v', he, hO⟩, fin (t := (rest, 0)) hr hs hrl hc (.inr hv), hc, .inr hv⟩
    · have ha : ans false (l, bad) = (none, bad) := by simp [ans, hb]
      have hn : nxt false (l, bad) = (l, bad) := by simp [nxt, hb]
      rw [ha, hn]
      exact (rnext_bad k4 hb).mono fun e W' ⟨he, hb⟩ => ⟨Vx, he, fin (t := (l, bad)) (k4.below hb k4.lt) k5 k6 (Chg.of_below hb _ _) (.inr rfl), Chg.of_below hb _ _, .inr rfl⟩
end
end Go.Proofs.Ytgldfobfchnkeaa
