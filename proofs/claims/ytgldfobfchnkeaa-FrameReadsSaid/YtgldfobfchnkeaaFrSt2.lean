/- FrameReads: Feed and take at both Readers' state. -/
import Derived.Test.YtgldfobfchnkeaaFrSt
namespace Go.Proofs.Ytgldfobfchnkeaa
open Go.RowKit Go.Shelf

/-- The frames that take tells, and what the Reader is then. -/
def tk (nb : Bool) : Nat → St → List (UInt8 × List UInt8) × St
  | 0, s => ([], s)
  | m + 1, s => match (ans nb s).1 with
    | some x => (x :: (tk nb m (nxt nb s)).1, (tk nb m (nxt nb s)).2)
    | none => ([], nxt nb s)
theorem tk_eats {l0 l : List UInt8} {F : List (UInt8 × List UInt8)} (h : Eats l0 F l) : ∀ j, tk false (F.length + j) (l0, 0) = (F ++ (tk false j (l, 0)).1, (tk false j (l, 0)).2) := by
  induction h with
  | nil => intro j; simp
  | snoc h hu ih =>
    intro j
    rename_i fs l r b k
    have e : (fs ++ [(k, b)]).length + j = fs.length + (j + 1) := by simp; omega
    rw [e, ih (j + 1)]
    have ha : (ans false (l, 0)).1 = some (k, b) := by simp [ans, hu]
    have hn : nxt false (l, 0) = (r, 0) := by simp [nxt, hu]
    simp only [tk, ha, hn, List.append_assoc, List.cons_append, List.nil_append]
theorem tk_none {nb : Bool} {m : Nat} {s : St} (h : (ans nb s).1 = none) (hm : 1 ≤ m) : tk nb m s = ([], nxt nb s) := by
  obtain ⟨j, rfl⟩ : ∃ j, m = j + 1 := ⟨m - 1, by omega⟩
  simp only [tk, h]
section
variable {w1 W : World} {nb : Bool} {r x V Vx : Value} {s sx : St}
theorem S2.rdTo (h : S2 w1 false r x V Vx s sx W) {W' : World} {V' : Value} {t : St} (hr : Rd W' w1.heap.size w1.heap.size V' t.1 t.2) (hc : Chg W W' w1.heap.size V) (hn : Newer W V V') : S2 w1 false r x V' Vx t sx W' := by
  rcases h.c with ⟨h0, _⟩ | ⟨_, rfl, rfl, k3, k4, k5, k6, kL, k7, k8, k9, k10⟩
  · cases h0
  · refine ⟨h.b.trans (k3.chgBelow hc), .inr ⟨rfl, rfl, rfl, hr, hc.blk k4 (by omega) k7, (k5.chg hc (Nat.le_refl _) k8 k10).more hc.size, k6, (fun k e => Nat.lt_of_lt_of_le (kL k e) hc.size), ?_, k8, k9, ?_⟩⟩
    · intro e
      rcases hn _ e with h1 | h1
      · exact k7 h1
      · have := k4.lt; omega
    · cases hV : V'.ownBlock with
      | none => exact .inl rfl
      | some k =>
        right
        intro e
        rcases hn k hV with h1 | h1
        · rcases k10 with h2 | h2
          · rw [h2] at h1; cases h1
          · exact h2 (by rw [h1, ← e])
        · have := kL k e.symm; omega
theorem S2.refTo (h : S2 w1 false r x V Vx s sx W) {W' : World} {Vx' : Value} {t : St} (hr : Blk W' (w1.heap.size + 1) [Vx', .int .i64 (t.2 : Int)]) (ho : OwnB W' W.heap.size Vx' t.1) (hl : t.1.length ≤ 8192) (hg : W.grownBy W' (some (w1.heap.size + 1))) : S2 w1 false r x V Vx' s t W' := by
  rcases h.c with ⟨h0, _⟩ | ⟨_, rfl, rfl, k3, k4, k5, k6, kL, k7, k8, k9, k10⟩
  · cases h0
  · have hne : ∀ k, Vx'.ownBlock = some k → W.heap.size ≤ k ∧ k < W'.heap.size := ho.lt
    have h4 := k4.lt
    refine ⟨h.b.trans ((Below.refl _ _).grown hg h.b.size (fun k e => by cases e; omega)), .inr ⟨rfl, rfl, rfl, k3.grown hg (by simp) (.inr k7), hr, ho.sl, hl, (fun k e => (hne k e).2), k7, ?_, ?_, ?_⟩⟩
    · intro e; have := (hne _ e).1; omega
    · intro e; have := (hne _ e).1; omega
    · cases hV : V.ownBlock with
      | none => exact .inl rfl
      | some k =>
        right
        intro e
        have := (hne k e.symm).1
        have := (k3.own.lt k hV).2
        omega
theorem feed_S (h : S2 w1 nb r x V Vx s sx W) (B : Nat) (v : Value) (p : List UInt8) (hv : Sl W B v p) : Calls Try.prog 21 #[r, v] W fun e W' => e = .returned (.int .i64 (fdn nb s p : Int)) ∧ ∃ V', S2 w1 nb r x V' Vx (fds nb s p) sx W' ∧ Chg W W' w1.heap.size V ∧ Newer W V V' := by
  rcases h.c with ⟨rfl, rfl, rfl, rfl, rfl⟩ | ⟨rfl, rfl, rfl, k3, _⟩
  · refine (feed_nil v W).mono ?_
    rintro e W' ⟨rfl, rfl⟩
    exact ⟨rfl, _, h, Chg.refl _ _ _, Newer.refl _ _⟩
  · obtain ⟨l, bad⟩ := s
    by_cases hb : bad = 0
    · subst hb
      refine (feed_any k3 B v p hv (fdn false (l, 0) p) (by simp [fdn])).mono ?_
      rintro e W' ⟨rfl, V', hr, hc, hn⟩
      exact ⟨rfl, V', h.rdTo (t := fds false (l, 0) p) (by simpa [fds] using hr) hc hn, hc, hn⟩
    · refine (feed_bad k3 hb v).mono ?_
      rintro e W' ⟨rfl, rfl⟩
      have h1 : fdn false (l, bad) p = 0 := by simp [fdn, hb]
      have h2 : fds false (l, bad) p = (l, bad) := by simp [fds, hb]
      rw [h1, h2]
      exact ⟨rfl, _, h, Chg.refl _ _ _, Newer.refl _ _⟩
theorem rfeed_S (h : S2 w1 nb r x V Vx s sx W) (B : Nat) (v : Value) (p : List UInt8) (hv : Sl W B v p) (hB : B ≤ W.heap.size) : Calls Try.prog 22 #[x, v] W fun e W' => e = .returned (.int .i64 (fdn nb sx p : Int)) ∧ ∃ Vx', S2 w1 nb r x V Vx' s (fds nb sx p) W' ∧ W.grownBy W' (some (w1.heap.size + 1)) ∧ (Vx'.ownBlock = Vx.ownBlock ∨ ∀ k, Vx'.ownBlock = some k → W.heap.size ≤ k) := by
  rcases h.c with ⟨rfl, rfl, rfl, rfl, rfl⟩ | ⟨rfl, rfl, rfl, k3, k4, k5, k6, _⟩
  · refine (rfeed_nil v W).mono ?_
    rintro e W' ⟨rfl, rfl⟩
    exact ⟨rfl, _, h, World.grownBy.refl W _, .inl rfl⟩
  · obtain ⟨l, bad⟩ := sx
    by_cases hb : bad = 0
    · subst hb
      refine (rfeed_any k4 k5 k6 B v p hv hB (fdn false (l, 0) p) (by simp [fdn])).mono ?_
      rintro e W' ⟨rfl, V', hr, ho, hg⟩
      have hfit : (l ++ p.take (fdn false (l, 0) p)).length ≤ 8192 := by
        have h6 : l.length ≤ 8192 := k6
        simp only [List.length_append, List.length_take, fdn]
        simp
        split <;> omega
      exact ⟨rfl, V', h.refTo (t := fds false (l, 0) p) (by simpa [fds] using hr) (by simpa [fds] using ho) (by simpa [fds] using hfit) hg, hg, .inr (fun k e => (ho.lt k e).1)⟩
    · refine (rfeed_bad k4 hb v).mono ?_
      rintro e W' ⟨rfl, rfl⟩
      have h1 : fdn false (l, bad) p = 0 := by simp [fdn, hb]
      have h2 : fds false (l, bad) p = (l, bad) := by simp [fds, hb]
      rw [h1, h2]
      exact ⟨rfl, _, h, World.grownBy.refl W _, .inl rfl⟩
theorem take_S (h : S2 w1 nb r x V Vx s sx W) (m : Nat) (hm : m ≤ 1000) : Calls Try.prog 20 #[r, .int .i64 (m : Int)] W fun e W' => ∃ v fs V', e = .returned v ∧ W'.ownsRow W.heap.size 27 2 v fs.length (fcells fs) ∧ (∀ y ∈ fs, OwnB W' W.heap.size y.2.1 y.2.2) ∧ keys fs = (tk nb m s).1 ∧ S2 w1 nb r x V' Vx (tk nb m s).2 sx W' ∧ W.heap.size ≤ W'.heap.size := by
  by_cases h0 : m = 0
  · subst h0
    refine (take_zero r W).mono ?_
    rintro e W' ⟨rfl, hb⟩
    exact ⟨_, [], V, rfl, World.ownsRow_nil _ _ _ _, (fun _ h => by cases h), rfl, h.below hb, hb.size⟩
  have h1 : 1 ≤ m := by omega
  rcases h.c with ⟨rfl, rfl, rfl, rfl, rfl⟩ | ⟨rfl, rfl, rfl, k3, _⟩
  · refine (take_nil W m h1 hm).mono ?_
    rintro e W' ⟨v, rfl, hr, hb⟩
    have ht : tk true m s = ([], s) := by rw [tk_none (by rfl) h1]; rfl
    rw [ht]
    exact ⟨_, [], _, rfl, hr, (fun _ h => by cases h), rfl, h.below hb, hb.size⟩
  · obtain ⟨l, bad⟩ := s
    by_cases hb : bad = 0
    · subst hb
      refine (take_ok k3 m h1 hm).mono ?_
      rintro e W' ⟨v, fs, V', rfl, hr, hbd, ⟨l2, he, hcase⟩, hc, hv⟩
      have hkl := keys_length fs
      rcases hcase with ⟨hl, hrd⟩ | ⟨hl, c, hu, hrd⟩
      · have ht := tk_eats he 0
        rw [hkl, Nat.add_zero, hl] at ht
        rw [ht]
        exact ⟨v, fs, V', rfl, hr, hbd, by simp [tk], h.rdTo (t := (tk false 0 (l2, 0)).2) hrd hc (newer_of hv), hc.size⟩
      · have ht := tk_eats he (m - fs.length)
        rw [hkl, show fs.length + (m - fs.length) = m by omega] at ht
        have ha : (ans false (l2, 0)).1 = none := by simp [ans, hu]
        have hn := tk_none (m := m - fs.length) ha (by omega)
        rw [ht, hn]
        refine ⟨v, fs, V', rfl, hr, hbd, by simp, h.rdTo (t := nxt false (l2, 0)) ?_ hc (newer_of hv), hc.size⟩
        by_cases h2 : c = 2
        · subst h2; simpa [nxt, hu] using hrd
        · simp only [if_neg h2] at hrd; simpa [nxt, hu, h2] using hrd
    · refine (take_bad k3 hb m h1 hm).mono ?_
      rintro e W' ⟨v, rfl, hr, hb'⟩
      have ht : tk false m (l, bad) = ([], (l, bad)) := by rw [tk_none (by simp [ans, hb]) h1]; simp [nxt, hb]
      rw [ht]
      exact ⟨_, [], _, rfl, hr, (fun _ h => by cases h), rfl, h.below hb', hb'.size⟩
theorem S2.ltV (h : S2 w1 nb r x V Vx s sx W) : (∀ k, V.ownBlock = some k → k < W.heap.size) ∧ ∀ k, Vx.ownBlock = some k → k < W.heap.size := by
  rcases h.c with ⟨rfl, rfl, rfl, rfl, rfl⟩ | ⟨rfl, rfl, rfl, k3, k4, k5, k6, kL, _⟩
  · exact ⟨fun k e => by (cases e), fun k e => by (cases e)⟩
  · exact ⟨fun k e => (k3.own.lt k e).2, kL⟩
/-- Flip at a slice that lies in a block of its own. -/
theorem flip_S (h : S2 w1 nb r x V Vx s sx W) (B : Nat) (v : Value) (p : List UInt8) (ho : OwnB W B v p) (hl : p.length ≤ 100000) (hB : w1.heap.size + 2 ≤ B) (h1 : ∀ k, v.ownBlock = some k → V.ownBlock ≠ some k ∧ Vx.ownBlock ≠ some k) :
    Calls Try.prog 23 #[v] W fun e W' => e = .returned (.tuple #[]) ∧ S2 w1 nb r x V Vx s sx W' ∧ W.heap.size ≤ W'.heap.size := by
  refine (flip_any B v p W ho hl).mono ?_
  rintro e W' ⟨rfl, hg⟩
  cases hv : v.ownBlock with
  | none =>
    rw [hv] at hg
    exact ⟨rfl, h.below ((Below.refl _ _).grown hg (Nat.le_refl _) (fun k e => by (cases e))), hg.size⟩
  | some j =>
    rw [hv] at hg
    have hj := (ho.lt j hv).1
    exact ⟨rfl, h.kept hg (by omega) (fun _ => ⟨by omega, by omega⟩) (h1 j hv).1 (h1 j hv).2, hg.size⟩
def anK (a : Option (UInt8 × List UInt8) × Nat) : UInt8 := match a.1 with | some x => x.1 | none => 0
def anB (a : Option (UInt8 × List UInt8) × Nat) : List UInt8 := match a.1 with | some x => x.2 | none => []
def anC (a : Option (UInt8 × List UInt8) × Nat) : Int := match a.1 with | some _ => 0 | none => a.2
theorem AnsO.all {base : Nat} {a : Option (UInt8 × List UInt8) × Nat} {e : Ending} (h : AnsO base a e W) : ∃ A c, e = .returned (.tuple #[.agg #[vb (anK a), .slice A (anB a).length c], .int .i64 (anC a)]) ∧ OwnB W base (.slice A (anB a).length c) (anB a) := by
  obtain ⟨o, n⟩ := a
  cases o with
  | none => exact ⟨none, 0, h, OwnB.nil _ _⟩
  | some y =>
    obtain ⟨k, b⟩ := y
    obtain ⟨v, he, ho⟩ := h
    obtain ⟨A, c, rfl, _⟩ := ho.sl
    exact ⟨A, c, he, ho⟩
theorem Ans.all {a : Option (UInt8 × List UInt8) × Nat} {e : Ending} (h : Ans a e W) : ∃ A c, e = .returned (.tuple #[.agg #[vb (anK a), .slice A (anB a).length c], .int .i64 (anC a)]) ∧ Sl W W.heap.size (.slice A (anB a).length c) (anB a) := by
  obtain ⟨o, n⟩ := a
  cases o with
  | none => exact ⟨none, 0, h, sl_none⟩
  | some y =>
    obtain ⟨k, b⟩ := y
    obtain ⟨v, he, ho⟩ := h
    obtain ⟨A, c, rfl, _⟩ := id ho
    exact ⟨A, c, he, ho⟩
theorem none_code {nb : Bool} {s : St} (h : (ans nb s).1 = none) : ((anC (ans nb s)) != 0) = true := by
  have : anC (ans nb s) = ((ans nb s).2 : Int) := by unfold anC; rw [h]
  rw [this]
  unfold ans at h ⊢
  split
  · rfl
  · split
    · rename_i hb; simp; omega
    · rename_i hn hb
      rw [if_neg hn, if_neg hb] at h
      split
      · rename_i hu; rw [hu] at h; cases h
      · rename_i c hu; have := un_no hu; simp; omega
end
/-- Behind j rounds of the reference the frames from the j-th on are still to come. -/
structure Tl (nb : Bool) (m : Nat) (fs : List Told) (s2 : St) (j : Nat) (sk : St) : Prop where
  a : (keys fs).drop j = (tk nb (m - j) sk).1
  b : (tk nb (m - j) sk).2 = s2
  c : j ≤ fs.length
  d : j ≤ m
theorem Tl.none {nb : Bool} {m j : Nat} {fs : List Told} {s2 sk : St} (h : Tl nb m fs s2 j sk) (hj : j < m) (ha : (ans nb sk).1 = none) : fs.length = j ∧ nxt nb sk = s2 := by
  have h1 := h.a
  have h2 := h.b
  rw [tk_none ha (by omega)] at h1 h2
  have h3 := congrArg List.length h1
  rw [List.length_drop, keys_length] at h3
  have := h.c
  exact ⟨by simp at h3; omega, h2⟩
theorem Tl.some {nb : Bool} {m j : Nat} {fs : List Told} {s2 sk : St} (h : Tl nb m fs s2 j sk) (hj : j < m) {y : UInt8 × List UInt8} (ha : (ans nb sk).1 = some y) : ∃ hl : j < fs.length, fs[j].1 = y.1 ∧ fs[j].2.2 = y.2 ∧ Tl nb m fs s2 (j + 1) (nxt nb sk) := by
  obtain ⟨p, hp⟩ : ∃ p, m - j = p + 1 := ⟨m - j - 1, by omega⟩
  have h1 := h.a
  have h2 := h.b
  rw [hp] at h1 h2
  simp only [tk, ha] at h1 h2
  have hl : j < fs.length := by
    have h3 := congrArg List.length h1
    rw [List.length_drop, keys_length] at h3
    simp at h3; omega
  have hp2 : m - (j + 1) = p := by omega
  rw [List.drop_eq_getElem_cons (by rw [keys_length]; exact hl)] at h1
  injection h1 with h3 h4
  have h5 : (fs[j].1, fs[j].2.2) = y := by rw [← h3]; simp [keys]
  refine ⟨hl, by rw [← h5], by rw [← h5], ?_, ?_, hl, hj⟩
  · rw [hp2]; exact h4
  · rw [hp2]; exact h2
theorem Tl.done {nb : Bool} {m j : Nat} {fs : List Told} {s2 sk : St} (h : Tl nb m fs s2 j sk) (hj : ¬ j < m) : sk = s2 := by
  have := h.d
  have h2 := h.b
  rw [show m - j = 0 by omega] at h2
  exact h2
/-- What the nested loop keeps: the frames that take told lie as they lay. -/
structure Lp (w1 : World) (nb : Bool) (r x V2 : Value) (s2 : St) (m base : Nat) (vf : Value) (fs : List Told) (j : Nat) (Vk : Value) (sk : St) (W : World) : Prop where
  s : S2 w1 nb r x V2 Vk s2 sk W
  t : Tl nb m fs s2 j sk
  row : W.ownsRow base 27 2 vf fs.length (fcells fs)
  bd : ∀ y ∈ fs, OwnB W base y.2.1 y.2.2
  hB : w1.heap.size + 2 ≤ base
  sz : base ≤ W.heap.size
section
variable {w1 W W' : World} {nb : Bool} {r x V2 Vk Vk' vf : Value} {s2 sk sk' : St} {m base j j' : Nat} {fs : List Told}
theorem Lp.below (h : Lp w1 nb r x V2 s2 m base vf fs j Vk sk W) (hb : Below W.heap.size W W') : Lp w1 nb r x V2 s2 m base vf fs j Vk sk W' :=
  ⟨h.s.below hb, h.t, ownsRow_same h.row (fun k hk _ => hb.block k hk), fun y hy => (h.bd y hy).below hb, h.hB, Nat.le_trans h.sz hb.size⟩
theorem Lp.step (h : Lp w1 nb r x V2 s2 m base vf fs j Vk sk W) (hs : S2 w1 nb r x V2 Vk' s2 sk' W') (hc : Chg W W' (w1.heap.size + 1) (.slice none 0 0)) (ht : Tl nb m fs s2 j' sk') : Lp w1 nb r x V2 s2 m base vf fs j' Vk' sk' W' := by
  have hb := h.hB
  exact ⟨hs, ht, ownsRow_chg h.row hc (by omega) (.inl rfl), fun y hy => (h.bd y hy).chg hc (fun e => by have := ((h.bd y hy).lt _ e).1; omega) (.inl rfl), hb, Nat.le_trans h.sz hc.size⟩
end
end Go.Proofs.Ytgldfobfchnkeaa
