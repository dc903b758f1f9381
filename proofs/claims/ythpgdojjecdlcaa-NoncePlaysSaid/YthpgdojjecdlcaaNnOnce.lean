/- nonce: what NonceOnce keeps of a store, as lists. -/
import Derived.Test.YthpgdojjecdlcaaNnMap
set_option maxRecDepth 100000
namespace Go.Proofs.Ythpgdojjecdlcaa
open Go.RowKit Go.Shelf
/-- The number of a nonce's last two digits. -/
def lastN (s : List UInt8) : Nat :=
  let v := fun (c : UInt8) => if c.toNat ≤ 57 then c.toNat - 48 else c.toNat - 87
  v (s.getD (s.length - 2) 0) * 16 + v (s.getD (s.length - 1) 0)
theorem lastN_dig (i : Nat) (h : i < 256) : lastN (encH (be i 8)) = i := by
  have : ∀ j : Fin 256, lastN (encH (be j.val 8)) = j.val := by decide +kernel
  exact this ⟨i, h⟩
theorem lastN_app (a b : List UInt8) (hb : 2 ≤ b.length) : lastN (a ++ b) = lastN b := by
  unfold lastN
  rw [List.length_append]
  have h1 : (a ++ b).getD (a.length + b.length - 2) 0 = b.getD (b.length - 2) 0 := by
    rw [List.getD_eq_getElem?_getD, List.getD_eq_getElem?_getD, List.getElem?_append_right (by omega)]
    congr 2; omega
  have h2 : (a ++ b).getD (a.length + b.length - 1) 0 = b.getD (b.length - 1) 0 := by
    rw [List.getD_eq_getElem?_getD, List.getD_eq_getElem?_getD, List.getElem?_append_right (by omega)]
    congr 2; omega
  rw [h1, h2]
theorem lastN_nonL (d : List UInt8) (se : Int) (h0 : 0 ≤ se) (h : se < 256) : (lastN (nonL d se) : Int) = se := by
  unfold nonL
  rw [show d ++ 46 :: encH (be se.toNat 8) = (d ++ [46]) ++ encH (be se.toNat 8) by simp, lastN_app _ _ (by rw [encH_len, be_length]; omega), lastN_dig _ (by omega)]
  omega
theorem getL_has {l : PLn} {k : List UInt8} {v : VT} (h : getL l k = some v) : hasL l k = true := by
  unfold hasL
  rw [List.any_eq_true]
  exact ⟨_, getL_mem l h, by simp⟩
theorem mrL_sub (f : NF) (now : Int) (K : Nat) (l : PLn) : (mrL f now K l).2.Sublist l := by
  unfold mrL
  split
  · exact List.Sublist.refl _
  · split
    · exact List.filter_sublist
    · split
      · exact List.Sublist.refl _
      · exact List.sublist_cons_self ..
theorem mrL_room (f : NF) (now : Int) (K : Nat) (l : PLn) (hc : l.length ≤ K) (hk : 1 ≤ K) : (mrL f now K l).2.length < K := by
  unfold mrL
  by_cases h1 : l.length = K
  · rw [if_neg (by simpa using h1)]
    by_cases h2 : 0 < swN f now l
    · rw [if_pos h2]
      have := sw_len f now l
      show (swL f now l).length < K
      omega
    · rw [if_neg h2]
      cases l with
      | nil => simp at h1; omega
      | cons p t => rw [List.length_cons] at h1; show t.length < K; omega
  · rw [if_pos h1]
    show l.length < K; omega
theorem issN_cases (f : NF) (l : PLn) (K : Nat) (d : List UInt8) (now : Int) (hc : l.length ≤ K) (hk : 1 ≤ K) :
    (∃ c, issN f l K d now = (([], c), f, l) ∧ c ≠ 0) ∨ (d.length ≤ 40 ∧ noncB d = true ∧ ¬ now < f.la ∧ getL l d = none ∧ ∃ f', issN f l K d now = ((nonL d (f.se + 1), 0), f', (mrL f now K l).2 ++ [(d, ⟨nonL d (f.se + 1), now, false, 0⟩)]) ∧ f' = { (mrL f now K l).1 with la := now, se := f.se + 1 }) := by
  unfold issN
  by_cases h1 : d.length ≤ 40 ∧ noncB d = true
  · rw [if_neg (by simpa using h1)]
    by_cases h2 : now < f.la
    · rw [if_pos h2]; exact .inl ⟨9, rfl, by decide⟩
    · rw [if_neg h2]
      cases hg : getL l d with
      | some v => exact .inl ⟨7, rfl, by decide⟩
      | none =>
        refine .inr ⟨h1.1, h1.2, h2, rfl, { (mrL f now K l).1 with la := now, se := f.se + 1 }, ?_, rfl⟩
        simp only [Option.isSome, Bool.false_eq_true, if_false]
        have hn : hasL (mrL f now K l).2 d = false := by
          cases hh : hasL (mrL f now K l).2 d with
          | false => rfl
          | true =>
            unfold hasL at hh
            rw [List.any_eq_true] at hh
            obtain ⟨q, hq, e⟩ := hh
            unfold getL at hg
            rw [Option.map_eq_none_iff, List.find?_eq_none] at hg
            exact absurd e (hg q ((mrL_sub f now K l).subset hq))
        have hr := mrL_room f now K l hc hk
        unfold isN putL
        simp only
        rw [(mrL_se f now K l).1, hn]
        simp only [Bool.false_eq_true, if_false]
        rw [if_neg (by omega)]
  · rw [if_pos h1]; exact .inl ⟨4, rfl, by decide⟩
/-- What the store and the law's three maps hold, when the nonces GS were given out. -/
structure OI (f : NF) (l : PLn) (GS : List (List UInt8)) (sp : List UInt8 → Bool) (ct : List UInt8 → Int) (N : Int) : Prop where
  se : f.se = (GS.length : Int)
  gs : ∀ n ∈ GS, n.length ≤ 100 ∧ ∃ d i, n = nonL d i ∧ 1 ≤ i ∧ i ≤ f.se
  kn : (l.map (·.1)).Nodup
  ky : ∀ q ∈ l, q.1 = drL q.2.s ∧ q.2.s ∈ GS
  spE : ∀ q ∈ l, sp q.2.s = true → q.2.sp = true
  ctE : ∀ q ∈ l, ct q.2.s ≤ q.2.ct
  tm : ∀ q ∈ l, 0 ≤ q.2.a ∧ q.2.a ≤ N
  spG : ∀ k, sp k = true → k ∈ GS
  ctG : ∀ k, 0 < ct k → k ∈ GS
theorem OI.start (wd : Int) : OI ⟨wd, 0, 0, 0, false⟩ [] [] (fun _ => false) (fun _ => 0) 0 :=
  ⟨rfl, fun _ h => by simp at h, by simp, fun _ h => by simp at h, fun _ h => by simp at h, fun _ h => by simp at h, fun _ h => by simp at h, fun _ h => by simp at h, fun _ h => by simp at h⟩
section
variable {f : NF} {l l' : PLn} {GS : List (List UInt8)} {sp : List UInt8 → Bool} {ct : List UInt8 → Int} {N N' now q : Int} {K : Nat} {s d : List UInt8}
theorem OI.later (h : OI f l GS sp ct N) (hn : N ≤ N') : OI f l GS sp ct N' :=
  ⟨h.se, h.gs, h.kn, h.ky, h.spE, h.ctE, fun q hq => by have := h.tm q hq; omega, h.spG, h.ctG⟩
theorem OI.ok (h : OI f l GS sp ct N) (hn : N < 18446744073709551616) : okL l := fun q hq => by have := h.tm q hq; omega
theorem OI.sub (h : OI f l GS sp ct N) (hs : l'.Sublist l) : OI f l' GS sp ct N :=
  ⟨h.se, h.gs, (hs.map _).nodup h.kn, fun q hq => h.ky q (hs.subset hq), fun q hq => h.spE q (hs.subset hq), fun q hq => h.ctE q (hs.subset hq), fun q hq => h.tm q (hs.subset hq), h.spG, h.ctG⟩
theorem OI.sweep (h : OI f l GS sp ct N) (now : Int) : OI f (swL f now l) GS sp ct N := h.sub List.filter_sublist
/-- An entry is set: its nonce is what it was. -/
theorem OI.set (h : OI f l GS sp ct N) {e e' : VT} (hg : getL l (drL s) = some e) (hs : e.s = s) (hs' : e'.s = s) (ha : e'.a = e.a) {sp' : List UInt8 → Bool} {ct' : List UInt8 → Int}
    (h1 : sp' s = true → e'.sp = true) (h2 : ct' s ≤ e'.ct) (h3 : ∀ k, k ≠ s → sp' k = sp k ∧ ct' k = ct k) :
    s ∈ GS ∧ setL l (drL s) e' = (0, (setL l (drL s) e').2) ∧ OI f (setL l (drL s) e').2 GS sp' ct' N := by
  have hmem := getL_mem l hg
  have hky := h.ky _ hmem
  simp only at hky
  rw [hs] at hky
  have hse : setL l (drL s) e' = (0, l.map fun p => if p.1 == drL s then (drL s, e') else p) := by unfold setL; rw [getL_has hg, if_pos rfl]
  refine ⟨hky.2, by rw [hse], ?_⟩
  rw [hse]
  simp only
  have hin : ∀ q ∈ l.map (fun p => if p.1 == drL s then (drL s, e') else p), q = (drL s, e') ∨ (q ∈ l ∧ q.1 ≠ drL s) := by
    intro q hq
    obtain ⟨p, hp, rfl⟩ := List.mem_map.1 hq
    cases hb : p.1 == drL s with
    | true => exact .inl rfl
    | false => exact .inr ⟨by simpa [hb] using hp, by simpa [hb] using beq_eq_false_iff_ne.1 hb⟩
  have hno : ∀ q ∈ l, q.1 ≠ drL s → q.2.s ≠ s := fun q hq hne e => hne (by rw [(h.ky q hq).1, e])
  refine ⟨h.se, h.gs, ?_, ?_, ?_, ?_, ?_, ?_, ?_⟩
  · have : (l.map (fun p => if p.1 == drL s then (drL s, e') else p)).map (·.1) = l.map (·.1) := by
      rw [List.map_map]
      refine List.map_congr_left fun p _ => ?_
      show (if p.1 == drL s then (drL s, e') else p).1 = p.1
      cases hb : p.1 == drL s with
      | true => exact (beq_iff_eq.1 hb).symm
      | false => rfl
    rw [this]; exact h.kn
  · intro q hq
    rcases hin q hq with rfl | ⟨hq, _⟩
    · exact ⟨by rw [hs'], by rw [hs']; exact hky.2⟩
    · exact h.ky q hq
  · intro q hq
    rcases hin q hq with rfl | ⟨hq, hne⟩
    · rw [hs']; exact h1
    · rw [(h3 _ (hno q hq hne)).1]; exact h.spE q hq
  · intro q hq
    rcases hin q hq with rfl | ⟨hq, hne⟩
    · rw [hs']; exact h2
    · rw [(h3 _ (hno q hq hne)).2]; exact h.ctE q hq
  · intro q hq
    rcases hin q hq with rfl | ⟨hq, _⟩
    · simp only; rw [ha]; exact h.tm _ hmem
    · exact h.tm q hq
  · intro k hk
    by_cases e : k = s
    · rw [e]; exact hky.2
    · rw [(h3 k e).1] at hk; exact h.spG k hk
  · intro k hk
    by_cases e : k = s
    · rw [e]; exact hky.2
    · rw [(h3 k e).2] at hk; exact h.ctG k hk
/-- Spend: nothing, or a nonce that was given out, and neither spent nor used. -/
theorem OI.spend (h : OI f l GS sp ct N) (s : List UInt8) (now : Int) :
    (∃ c, spN f l s now = (c, l) ∧ c ≠ 0) ∨ (∃ l', spN f l s now = (0, l') ∧ sp s = false ∧ ¬ 0 < ct s ∧ s ∈ GS ∧ OI f l' GS (upd sp s true) ct N) := by
  unfold spN
  rcases fiN_cases f l s now with ⟨c, hc, hc2⟩ | ⟨e, he, hg, hs, _, _⟩
  · rw [hc]; exact .inl ⟨c, rfl, by omega⟩
  · rw [he]
    simp only
    by_cases hb : e.sp = true ∨ 0 < e.ct
    · rw [if_pos hb]; exact .inl ⟨10, rfl, by decide⟩
    · rw [if_neg hb]
      have hmem := getL_mem l hg
      have k1 := h.spE _ hmem
      have k2 := h.ctE _ hmem
      simp only at k1 k2
      rw [hs] at k1 k2
      obtain ⟨m1, m2, m3⟩ := h.set (e' := { e with sp := true }) (sp' := upd sp s true) (ct' := ct) hg hs hs rfl (fun _ => rfl) k2 (fun k hk => ⟨upd_other hk, rfl⟩)
      refine .inr ⟨_, m2, ?_, fun h0 => hb (.inr (by omega)), m1, m3⟩
      cases hx : sp s with
      | false => rfl
      | true => exact absurd (.inl (k1 hx)) hb
/-- Use: nothing, or a nonce that was given out, not spent, with a greater count. -/
theorem OI.use (h : OI f l GS sp ct N) (s : List UInt8) (q now : Int) :
    (∃ c, usN f l s q now = (c, l) ∧ c ≠ 0) ∨ (∃ l', usN f l s q now = (0, l') ∧ sp s = false ∧ ¬ q ≤ ct s ∧ s ∈ GS ∧ OI f l' GS sp (upd ct s q) N) := by
  unfold usN
  rcases fiN_cases f l s now with ⟨c, hc, hc2⟩ | ⟨e, he, hg, hs, _, _⟩
  · rw [hc]; exact .inl ⟨c, rfl, by omega⟩
  · rw [he]
    simp only
    by_cases hq : q = 0
    · rw [if_pos hq]; exact .inl ⟨1, rfl, by decide⟩
    · rw [if_neg hq]
      by_cases hb : e.sp = true ∨ q ≤ e.ct
      · rw [if_pos hb]; exact .inl ⟨10, rfl, by decide⟩
      · rw [if_neg hb]
        have hmem := getL_mem l hg
        have k1 := h.spE _ hmem
        have k2 := h.ctE _ hmem
        simp only at k1 k2
        rw [hs] at k1 k2
        obtain ⟨m1, m2, m3⟩ := h.set (e' := { e with ct := q }) (sp' := sp) (ct' := upd ct s q) hg hs hs rfl k1 (by rw [upd_same]; exact Int.le_refl _) (fun k hk => ⟨rfl, upd_other hk⟩)
        refine .inr ⟨_, m2, ?_, fun h0 => hb (.inr (by omega)), m1, m3⟩
        cases hx : sp s with
        | false => rfl
        | true => exact absurd (.inl (k1 hx)) hb
/-- Issue: nothing, or a nonce that was never given out. -/
theorem OI.issue (h : OI f l GS sp ct N) (hN : 0 ≤ N) (hc : l.length ≤ K) (hk : 1 ≤ K) (h60 : GS.length < 200) (d : List UInt8) :
    (∃ c, issN f l K d N = (([], c), f, l) ∧ c ≠ 0) ∨ (∃ n f' l', issN f l K d N = ((n, 0), f', l') ∧ n ∉ GS ∧ n.length ≤ 100 ∧ OI f' l' (GS ++ [n]) sp ct N) := by
  rcases issN_cases f l K d N hc hk with h1 | ⟨hd, hnb, hla, hg, f', hi, hf'⟩
  · exact .inl h1
  · have hno : nonL d (f.se + 1) ∉ GS := by
      intro e
      obtain ⟨_, d', i, e2, i1, i2⟩ := h.gs _ e
      have hse := h.se
      have k1 := lastN_nonL d (f.se + 1) (by omega) (by omega)
      have k2 := lastN_nonL d' i (by omega) (by omega)
      rw [e2] at k1
      omega
    have hsub := mrL_sub f N K l
    have h2 := h.sub hsub
    have hfr : ∀ q ∈ (mrL f N K l).2, q.1 ≠ d := by
      intro q hq e
      unfold getL at hg
      rw [Option.map_eq_none_iff, List.find?_eq_none] at hg
      exact hg q (hsub.subset hq) (by simp [e])
    refine .inr ⟨_, f', _, hi, hno, by rw [nonL_len]; omega, ?_, ?_, ?_, ?_, ?_, ?_, ?_, ?_, ?_⟩
    · rw [hf', List.length_append]; have := h.se; show f.se + 1 = _; simp; omega
    · intro n hn
      rcases List.mem_append.1 hn with hn | hn
      · obtain ⟨k1, d', i, k2, k3, k4⟩ := h.gs n hn
        exact ⟨k1, d', i, k2, k3, by rw [hf']; show i ≤ f.se + 1; omega⟩
      · rw [List.mem_singleton] at hn
        subst hn
        exact ⟨by rw [nonL_len]; omega, d, f.se + 1, rfl, by have := h.se; omega, by rw [hf']; exact Int.le_refl _⟩
    · rw [List.map_append, List.nodup_append]
      refine ⟨h2.kn, by simp, fun a ha b hb => ?_⟩
      obtain ⟨q, hq, rfl⟩ := List.mem_map.1 ha
      simp at hb
      rw [hb]
      exact hfr q hq
    · intro q hq
      rcases List.mem_append.1 hq with hq | hq
      · exact ⟨(h2.ky q hq).1, List.mem_append_left _ (h2.ky q hq).2⟩
      · rw [List.mem_singleton] at hq; subst hq
        exact ⟨(drL_nonL _ _).symm, by simp⟩
    · intro q hq
      rcases List.mem_append.1 hq with hq | hq
      · exact h2.spE q hq
      · rw [List.mem_singleton] at hq; subst hq
        intro hx; exact absurd (h.spG _ hx) hno
    · intro q hq
      rcases List.mem_append.1 hq with hq | hq
      · exact h2.ctE q hq
      · rw [List.mem_singleton] at hq; subst hq
        show ct (nonL d (f.se + 1)) ≤ 0
        have := h.ctG (nonL d (f.se + 1))
        by_cases h0 : 0 < ct (nonL d (f.se + 1))
        · exact absurd (this h0) hno
        · omega
    · intro q hq
      rcases List.mem_append.1 hq with hq | hq
      · exact h2.tm q hq
      · rw [List.mem_singleton] at hq; subst hq
        exact ⟨hN, Int.le_refl _⟩
    · intro k hk; exact List.mem_append_left _ (h.spG k hk)
    · intro k hk; exact List.mem_append_left _ (h.ctG k hk)
end
end Go.Proofs.Ythpgdojjecdlcaa
