/- nonce: what a store keeps of the draws of NonceWindows, as lists. -/
import Derived.Test.YthpgdojjecdlcaaNnAwake
set_option maxRecDepth 100000
namespace Go.Proofs.Ythpgdojjecdlcaa
open Go.RowKit Go.Shelf
/-- The draws of the law. -/
def dw (i : Nat) : List UInt8 := 100 :: encH [UInt8.ofNat i]
theorem dw_ok (i : Nat) (h : i < 20) : noncB (dw i) = true ∧ (dw i).length = 3 := by
  have : ∀ j : Fin 20, noncB (dw j.val) = true ∧ (dw j.val).length = 3 := by decide +kernel
  exact this ⟨i, h⟩
theorem dw_inj (i j : Nat) (hi : i < 20) (hj : j < 20) (h : dw i = dw j) : i = j := by
  have : ∀ a b : Fin 20, dw a.val = dw b.val → a.val = b.val := by decide +kernel
  exact this ⟨i, hi⟩ ⟨j, hj⟩ h
theorem nonL_len (d : List UInt8) (se : Int) : (nonL d se).length = d.length + 17 := by
  unfold nonL
  rw [List.length_append, List.length_cons, encH_len, be_length]
theorem drL_nonL (d : List UInt8) (se : Int) : drL (nonL d se) = d := by
  unfold drL
  rw [nonL_len, Nat.add_sub_cancel]
  exact List.take_left ..
theorem getL_of : ∀ (l : PLn) {k : List UInt8} {v : VT}, (l.map (·.1)).Nodup → (k, v) ∈ l → getL l k = some v
  | [], _, _, _, h => by simp at h
  | p :: t, k, v, hn, h => by
    rw [getL_consN]
    rcases List.mem_cons.1 h with rfl | h
    · simp
    · have hne : (p.1 == k) = false := by
        rw [beq_eq_false_iff_ne]
        intro e
        exact (List.nodup_cons.1 hn).1 (List.mem_map.2 ⟨(k, v), h, e.symm⟩)
      rw [hne]
      exact getL_of t (List.nodup_cons.1 hn).2 h
theorem getL_none (l : PLn) (k : List UInt8) (h : ∀ q ∈ l, q.1 ≠ k) : getL l k = none := by
  unfold getL
  rw [Option.map_eq_none_iff, List.find?_eq_none]
  intro q hq
  simpa using h q hq
theorem hasL_none (l : PLn) (k : List UInt8) (h : ∀ q ∈ l, q.1 ≠ k) : hasL l k = false := by
  unfold hasL
  rw [List.any_eq_false]
  intro q hq
  simpa using h q hq
abbrev Srt (l : PLn) : Prop := l.Pairwise (fun a b => a.2.a ≤ b.2.a)
theorem keep_up {f : NF} {now : Int} {x y : VT} (h : goneB f now x = false) (hxy : x.a ≤ y.a) : goneB f now y = false := by
  unfold goneB oldB mkdB at h ⊢
  rw [Bool.or_eq_false_iff] at h ⊢
  obtain ⟨h1, h2⟩ := h
  refine ⟨?_, ?_⟩
  · rw [decide_eq_false_iff_not] at h1 ⊢
    omega
  · cases hm : f.md with
    | false => rfl
    | true =>
      rw [hm, Bool.true_and, decide_eq_false_iff_not] at h2
      rw [Bool.true_and, decide_eq_false_iff_not]
      omega
theorem sw_suf (f : NF) (now : Int) : ∀ (l : PLn), Srt l → ∃ r, l = r ++ swL f now l
  | [], _ => ⟨[], rfl⟩
  | x :: t, h => by
    rw [Srt, List.pairwise_cons] at h
    unfold swL
    cases hg : goneB f now x.2 with
    | true =>
      obtain ⟨r, hr⟩ := sw_suf f now t h.2
      refine ⟨x :: r, ?_⟩
      rw [List.filter_cons_of_neg (by simp [hg])]
      exact congrArg (x :: ·) hr
    | false =>
      refine ⟨[], ?_⟩
      rw [List.nil_append, Eq.comm, List.filter_eq_self]
      intro q hq
      rcases List.mem_cons.1 hq with rfl | hq
      · simp [hg]
      · have := keep_up hg (h.1 q hq)
        simp [this]
theorem sw_len (f : NF) (now : Int) (l : PLn) : (l.length : Int) = swN f now l + ((swL f now l).length : Int) := by
  have : l.length = (l.filter fun q => goneB f now q.2).length + (l.filter fun q => !goneB f now q.2).length := by
    induction l with
    | nil => rfl
    | cons x t ih =>
      cases hg : goneB f now x.2 with
      | true => rw [List.filter_cons_of_pos (by simp [hg]), List.filter_cons_of_neg (by simp [hg]), List.length_cons, List.length_cons]; omega
      | false => rw [List.filter_cons_of_neg (by simp [hg]), List.filter_cons_of_pos (by simp [hg]), List.length_cons, List.length_cons]; omega
  unfold swN swL
  omega
theorem mrL_suf (f : NF) (now : Int) (K : Nat) (l : PLn) (h : Srt l) (hc : l.length ≤ K) (hk : 1 ≤ K) : ∃ r, l = r ++ (mrL f now K l).2 ∧ (mrL f now K l).2.length < K := by
  unfold mrL
  by_cases h1 : l.length = K
  · rw [if_neg (by simpa using h1)]
    by_cases h2 : 0 < swN f now l
    · rw [if_pos h2]
      obtain ⟨r, hr⟩ := sw_suf f now l h
      exact ⟨r, hr, by have := sw_len f now l; show (swL f now l).length < K; omega⟩
    · rw [if_neg h2]
      cases l with
      | nil => simp at h1; omega
      | cons p t => exact ⟨[p], rfl, by rw [List.length_cons] at h1; show t.length < K; omega⟩
  · rw [if_pos h1]
    exact ⟨[], rfl, by show l.length < K; omega⟩
/-- What the store keeps of the nonces G that were given out by now. -/
structure WI (K : Nat) (wd : Int) (f : NF) (l G : PLn) (now : Int) : Prop where
  wd : f.wd = wd
  se : f.se = (G.length : Int)
  la : f.la ≤ now
  suf : ∃ r, G = r ++ l
  cnt : l.length ≤ K
  ne : G ≠ [] → l ≠ []
  key : ∀ i (h : i < G.length), (G[i]).1 = dw i ∧ (G[i]).2.s = nonL (dw i) ((i : Int) + 1)
  tm : ∀ q ∈ G, 0 ≤ q.2.a ∧ q.2.a ≤ now
  srt : Srt G
  nod : (G.map (·.1)).Nodup
  n0 : 0 ≤ now
theorem WI.start (K : Nat) (wd : Int) : WI K wd ⟨wd, 0, 0, 0, false⟩ [] [] 0 :=
  ⟨rfl, rfl, by simp, ⟨[], rfl⟩, by simp, fun h => absurd rfl h, fun i h => by simp at h, fun q h => by simp at h, List.Pairwise.nil, List.nodup_nil, by omega⟩
section
variable {K : Nat} {wd now now2 : Int} {f : NF} {l G : PLn}
theorem WI.later (h : WI K wd f l G now) (hn : now ≤ now2) : WI K wd f l G now2 :=
  ⟨h.wd, h.se, by have := h.la; omega, h.suf, h.cnt, h.ne, h.key, fun q hq => by have := h.tm q hq; omega, h.srt, h.nod, by have := h.n0; omega⟩
theorem WI.sub (h : WI K wd f l G now) : ∀ q ∈ l, q ∈ G := by
  obtain ⟨r, hr⟩ := h.suf
  intro q hq
  rw [hr]
  exact List.mem_append_right _ hq
theorem WI.ok (h : WI K wd f l G now) (hn : now < 18446744073709551616) : okL l := fun q hq => by have := h.tm q (h.sub q hq); omega
theorem WI.srtl (h : WI K wd f l G now) : Srt l := by
  obtain ⟨r, hr⟩ := h.suf
  have := h.srt
  rw [hr] at this
  exact (List.pairwise_append.1 this).2.1
theorem WI.nodl (h : WI K wd f l G now) : (l.map (·.1)).Nodup := by
  obtain ⟨r, hr⟩ := h.suf
  have := h.nod
  rw [hr, List.map_append, List.nodup_append] at this
  exact this.2.1
theorem WI.fresh (h : WI K wd f l G now) (hj : G.length < 20) : ∀ q ∈ G, q.1 ≠ dw G.length := by
  intro q hq e
  obtain ⟨i, hi, rfl⟩ := List.getElem_of_mem hq
  rw [(h.key i hi).1] at e
  have := dw_inj i G.length (by omega) hj e
  omega
theorem WI.issue (h : WI K wd f l G now) (hk : 1 ≤ K) (hj : G.length < 20) :
    ∃ f' l', issN f l K (dw G.length) now = ((nonL (dw G.length) ((G.length : Int) + 1), 0), f', l') ∧ WI K wd f' l' (G ++ [(dw G.length, ⟨nonL (dw G.length) ((G.length : Int) + 1), now, false, 0⟩)]) now := by
  obtain ⟨hok, hlen⟩ := dw_ok G.length hj
  have hfr := h.fresh hj
  have hgn := getL_none l (dw G.length) (fun q hq => hfr q (h.sub q hq))
  obtain ⟨r, hr, hlt⟩ := mrL_suf f now K l h.srtl h.cnt hk
  obtain ⟨e1, e2, e3⟩ := mrL_se f now K l
  have hsub : ∀ q ∈ (mrL f now K l).2, q ∈ l := fun q hq => by rw [hr]; exact List.mem_append_right _ hq
  have hnh := hasL_none (mrL f now K l).2 (dw G.length) (fun q hq => hfr q (h.sub q (hsub q hq)))
  obtain ⟨r0, hr0⟩ := h.suf
  refine ⟨{ (mrL f now K l).1 with la := now, se := (mrL f now K l).1.se + 1 }, (mrL f now K l).2 ++ [(dw G.length, ⟨nonL (dw G.length) ((G.length : Int) + 1), now, false, 0⟩)], ?_, ?_⟩
  · unfold issN
    have h1 := h.la
    rw [if_neg (by simp [hok, hlen]), if_neg (by omega), hgn]
    simp only [Option.isSome, Bool.false_eq_true, if_false]
    unfold isN putL
    simp only
    rw [e1, h.se, hnh]
    simp only [Bool.false_eq_true, if_false]
    rw [if_neg (by omega)]
  · refine ⟨e3.trans h.wd, ?_, Int.le_refl _, ⟨r0 ++ r, ?_⟩, ?_, fun _ => by simp, ?_, ?_, ?_, ?_, h.n0⟩
    · show (mrL f now K l).1.se + 1 = _
      rw [e1, h.se, List.length_append]; rfl
    · have hG : G = (r0 ++ r) ++ (mrL f now K l).2 := by rw [List.append_assoc, ← hr, ← hr0]
      exact (congrArg (· ++ _) hG).trans (List.append_assoc ..)
    · rw [List.length_append]; show _ + 1 ≤ K; omega
    · intro i hi
      rw [List.length_append, List.length_singleton] at hi
      by_cases hlt2 : i < G.length
      · rw [List.getElem_append_left hlt2]
        exact h.key i hlt2
      · obtain rfl : i = G.length := by omega
        rw [List.getElem_append_right (Nat.le_refl _)]
        simp
    · intro q hq
      rcases List.mem_append.1 hq with hq | hq
      · exact h.tm q hq
      · rw [List.mem_singleton] at hq; subst hq; exact ⟨h.n0, Int.le_refl _⟩
    · rw [Srt, List.pairwise_append]
      refine ⟨h.srt, List.pairwise_singleton .., fun a ha b hb => ?_⟩
      rw [List.mem_singleton] at hb; subst hb
      exact (h.tm a ha).2
    · rw [List.map_append, List.nodup_append]
      refine ⟨h.nod, by simp, fun a ha b hb => ?_⟩
      obtain ⟨q, hq, rfl⟩ := List.mem_map.1 ha
      simp at hb
      rw [hb]
      exact hfr q hq
theorem WI.at (h : WI K wd f l G now) (hG : G.length ≤ 20) {i : Nat} (hi : i < G.length) {e : VT} (he : (dw i, e) ∈ l) : e = (G[i]).2 ∧ G.length ≤ i + K := by
  obtain ⟨r, hr⟩ := h.suf
  obtain ⟨p, hp, hpe⟩ := List.getElem_of_mem he
  have hc := h.cnt
  have hlen : G.length = r.length + l.length := by rw [hr, List.length_append]
  have hq : r.length + p < G.length := by omega
  have h1 : G[r.length + p]'hq = (dw i, e) := by
    rw [← hpe]
    simp only [hr]
    rw [List.getElem_append_right (by omega)]
    congr 1
    omega
  have h2 := (h.key _ hq).1
  rw [h1] at h2
  have h3 := dw_inj i (r.length + p) (by omega) (by omega) h2
  subst h3
  exact ⟨by rw [h1], by omega⟩
theorem WI.check (h : WI K wd f l G now) (hn : now ≤ now2) (hw : 1 ≤ wd) (hG : G.length ≤ 20) (i : Nat) (hi : i < G.length) :
    ((fiN f l (G[i]).2.s now2).2 = 0 → now2 - (G[i]).2.a ≤ wd ∧ ¬ (f.md = true ∧ (G[i]).2.a ≤ f.mr) ∧ G.length ≤ i + K) ∧
    ((fiN f l (G[i]).2.s now2).2 = 0 ∨ (fiN f l (G[i]).2.s now2).2 = 6 ∨ (fiN f l (G[i]).2.s now2).2 = 9) ∧
    (i + 1 = G.length → now2 - (G[i]).2.a ≤ wd → ¬ (f.md = true ∧ (G[i]).2.a ≤ f.mr) → (fiN f l (G[i]).2.s now2).2 = 0) := by
  have hdr : drL (G[i]).2.s = dw i := by rw [(h.key i hi).2]; exact drL_nonL _ _
  have htm := h.tm _ (List.getElem_mem hi)
  refine ⟨?_, ?_, ?_⟩
  · intro h0
    rcases fiN_cases f l (G[i]).2.s now2 with ⟨c, hc, hc2⟩ | ⟨e, he, hg, hs, hna, hgo⟩
    · rw [hc] at h0; simp only at h0; omega
    · rw [hdr] at hg
      obtain ⟨h1, h2⟩ := h.at hG hi (getL_mem l hg)
      subst h1
      unfold goneB oldB mkdB at hgo
      rw [Bool.or_eq_false_iff, decide_eq_false_iff_not, h.wd] at hgo
      refine ⟨by omega, ?_, h2⟩
      rintro ⟨k1, k2⟩
      have := hgo.2
      rw [k1, Bool.true_and, decide_eq_false_iff_not] at this
      exact this k2
  · rcases fiN_cases f l (G[i]).2.s now2 with ⟨c, hc, hc2⟩ | ⟨e, he, _⟩
    · rw [hc]; simp only; omega
    · rw [he]; exact .inl rfl
  · intro hlast k1 k2
    obtain ⟨r, hr⟩ := h.suf
    have hne := h.ne (fun e => by rw [e] at hi; simp at hi)
    have hpos : 0 < l.length := List.length_pos_iff.2 hne
    have hlen : G.length = r.length + l.length := by rw [hr, List.length_append]
    have hmem : G[i] ∈ l := by
      have h1 : G[i] = l[l.length - 1]'(by omega) := by
        simp only [hr]
        rw [List.getElem_append_right (by omega)]
        congr 1
        omega
      rw [h1]
      exact List.getElem_mem _
    have hk : G[i] = (dw i, (G[i]).2) := Prod.ext (h.key i hi).1 rfl
    rw [hk] at hmem
    have hg := getL_of l h.nodl hmem
    unfold fiN
    rw [hdr, hg]
    simp only
    rw [if_neg (by simp), if_neg ?_]
    rintro (k3 | k3)
    · omega
    · unfold goneB oldB mkdB at k3
      rw [Bool.or_eq_true, decide_eq_true_eq, Bool.and_eq_true, decide_eq_true_eq, h.wd] at k3
      rcases k3 with k3 | k3
      · omega
      · exact k2 k3
end
end Go.Proofs.Ythpgdojjecdlcaa
