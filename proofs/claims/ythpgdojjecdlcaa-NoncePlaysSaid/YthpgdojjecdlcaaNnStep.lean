/- nonce: a Store and the reference's, in step. nonce: the law's do: a call on both. -/
import Derived.Test.YthpgdojjecdlcaaNnRf2
import Derived.Test.YthpgdojjecdlcaaOwnT
import Derived.Deep.RegionHeld3
import Derived.Deep.DeepCutAuto
set_option maxRecDepth 100000
namespace Go.Proofs.Ythpgdojjecdlcaa
open Go.RowKit Go.Shelf
def OthX (o : Obj) : Prop := ∀ c t f, o = Obj.cells c t f → t ≠ tT ∧ t ≠ tE ∧ t ≠ tSt ∧ t ≠ tX
theorem OthX.cells {c : Array Value} {t : TypeId} {f : Nat × Nat} (h : t ≠ tT ∧ t ≠ tE ∧ t ≠ tSt ∧ t ≠ tX) : OthX (.cells c t f) := fun _ _ _ e => by cases e; exact h
/-- What an operation on both leaves as it was. -/
structure FB (B0 m : Nat) (w w' : World) : Prop where
  low : Below B0 w w'
  kp : ∀ (g : Nat) (o : Obj), w.heap[g]? = some o → OthX o → g ≠ m → w'.heap[g]? = some o
structure DN (w : World) (B0 S T m K X : Nat) (f : NF) (l : PL) : Prop where
  ns : NS w B0 S T m K f l
  xr : XR w B0 X K f l
  xb : B0 ≤ X
/-- What the lists keep. -/
structure LI (f : NF) (l : PL) (K : Nat) (N : Int) (j : Nat) : Prop where
  wf : WF l
  rf : RF f l K
  tm : ∀ q ∈ l, 0 ≤ q.2.a ∧ q.2.a ≤ N
  se : f.se ≤ (j : Int)
  sl : ∀ q ∈ l, q.2.s.length ≤ 100
section
variable {w w1 w2 w' : World} {B0 S T m K X : Nat} {f f' : NF} {l l' : PL} {N : Int} {j : Nat}
theorem FB.refl (B0 m : Nat) (w : World) : FB B0 m w w := ⟨Below.refl _ _, fun _ _ h _ _ => h⟩
theorem FB.trans (h : FB B0 m w w1) (k : FB B0 m w1 w') : FB B0 m w w' := ⟨h.low.trans k.low, fun g o h1 h2 h3 => k.kp g o (h.kp g o h1 h2 h3) h2 h3⟩
theorem FB.of_below (h : Below w.heap.size w w') (hb : B0 ≤ w.heap.size) : FB B0 m w w' := ⟨h.mono hb, fun g _ h1 _ _ => (h.block g (Array.getElem?_eq_some_iff.1 h1).1).trans h1⟩
theorem FB.of_frn (h : FrN B0 m w w') : FB B0 m w w' := ⟨h.low, fun g o h1 h2 h3 => h.kp g o h1 (fun c t f e => ⟨(h2 c t f e).1, (h2 c t f e).2.1, (h2 c t f e).2.2.1⟩) h3⟩
theorem FB.of_trn {cs : List Value} (h : Trn [X] w w') (hX : BlkT w X tX cs) (hb : B0 ≤ X) : FB B0 m w w' :=
  ⟨h.toBelow (by have := hX.lt; omega) (fun k hk => by rw [List.mem_singleton] at hk; omega), fun g o h1 h2 _ => (h.block g (Array.getElem?_eq_some_iff.1 h1).1 (fun e => by
    rw [List.mem_singleton] at e
    unfold BlkT at hX
    rw [e, hX] at h1
    exact (h2 _ _ _ (Option.some.inj h1).symm).2.2.2 rfl)).trans h1⟩
theorem FB.blk (h : FB B0 m w w') {g : Nat} {t : TypeId} {cs : List Value} (hg : BlkT w g t cs) (ht : t ≠ tT ∧ t ≠ tE ∧ t ≠ tSt ∧ t ≠ tX) (hm : g ≠ m) : BlkT w' g t cs := h.kp g _ hg (OthX.cells ht) hm
theorem FB.row (h : FB B0 m w w') (hm : isMap w m) {b n z : Nat} {e : TypeId} {v : Value} {xs : List Value} (hr : w.ownsRow b e z v n xs) (ht : e ≠ tT ∧ e ≠ tE ∧ e ≠ tSt ∧ e ≠ tX) : w'.ownsRow b e z v n xs := by
  obtain ⟨h1, h2 | ⟨g, cp, cur, rfl, hbg, hg, h3⟩⟩ := hr
  · exact ⟨h1, .inl h2⟩
  · refine ⟨h1, .inr ⟨g, cp, cur, rfl, hbg, h.kp g _ hg (OthX.cells ht) (fun e => ?_), h3⟩⟩
    obtain ⟨es, cl, hh⟩ := hm
    rw [e, hh] at hg
    cases hg
theorem NS.trnX (h : NS w B0 S T m K f l) (ht : Trn [X] w w') {cs : List Value} (hX : BlkT w X tX cs) : NS w' B0 S T m K f l := by
  have hmm := h.mapM
  obtain ⟨⟨xs, hx, e, h1, h2, h3⟩, hblk, hlo⟩ := h
  refine ⟨⟨xs, hx.eqs (fun k hk => ht.block k (tbk_lt hx k hk) (fun e => ?_)), e, h1, h2, h3⟩, (ht.block S hblk.lt (fun e => ?_)).trans hblk, hlo⟩
  · rw [List.mem_singleton] at e
    unfold BlkT at hX
    rcases List.mem_cons.1 hk with rfl | hk
    · have := hx.tbl
      unfold BlkT at this
      rw [e, hX] at this
      cases this
    · rcases List.mem_cons.1 hk with rfl | hk
      · obtain ⟨es, cl, hh⟩ := hmm
        rw [e, hX] at hh; cases hh
      · obtain ⟨y, hy, rfl⟩ := List.mem_map.1 hk
        obtain ⟨cs, hb⟩ := chn_ty xs none none hx.chn y hy
        unfold BlkT at hb
        rw [e, hX] at hb
        cases hb
  · rw [List.mem_singleton] at e
    unfold BlkT at hX hblk
    rw [e, hX] at hblk
    cases hblk
theorem XR.frn (h : XR w B0 X K f l) (hf : FrN B0 m w w') (hm : isMap w m) : XR w' B0 X K f l := by
  obtain ⟨v, hX, hE⟩ := h
  have hne : ∀ {g : Nat} {c : Array Value} {t : TypeId} {z : Nat × Nat}, w.heap[g]? = some (Obj.cells c t z) → g ≠ m := by
    rintro g c t z hg rfl
    obtain ⟨es, cl, hh⟩ := hm
    rw [hg] at hh; cases hh
  exact ⟨v, hf.kp X _ hX (Oth.cells (by decide)) (hne hX), ER.kt hE (fun g c z hg => hf.kp g _ hg (Oth.cells (by decide)) (hne hg))⟩
theorem DN.keep (h : DN w B0 S T m K X f l) (hb : Below w.heap.size w w') : DN w' B0 S T m K X f l := ⟨h.ns.keep hb, h.xr.below hb, h.xb⟩
theorem DN.b0 (h : DN w B0 S T m K X f l) : B0 ≤ w.heap.size := h.ns.tb.base_le
/-- One call of each: the program's first; like answers. -/
def BothN (F : Nat) (aF : Array Value) (G : Nat) (aG : Array Value) (w : World) (B0 S T m K X : Nat) (f' : NF) (l' : PL) : Prop :=
  ∃ r : Int, Calls Try.prog F aF w (fun e w1 => e = .returned (.int .i64 r) ∧ FB B0 m w w1 ∧ Calls Try.prog G aG w1 fun e w2 => e = .returned (.int .i64 r) ∧ DN w2 B0 S T m K X f' l' ∧ FB B0 m w w2)
theorem both_mk {F G : Nat} {aF aG : Array Value} {r : Int} (h : DN w B0 S T m K X f l) (hF : Calls Try.prog F aF w fun e w1 => e = .returned (.int .i64 r) ∧ NS w1 B0 S T m K f' l' ∧ FrN B0 m w w1)
    (hG : ∀ w1, XR w1 B0 X K f l → B0 ≤ w1.heap.size → Calls Try.prog G aG w1 fun e w2 => e = .returned (.int .i64 r) ∧ XR w2 B0 X K f' l' ∧ Trn [X] w1 w2) : BothN F aF G aG w B0 S T m K X f' l' := by
  refine ⟨r, hF.mono ?_⟩
  rintro e w1 ⟨rfl, hn, hf⟩
  have hx := h.xr.frn hf h.ns.mapM
  refine ⟨rfl, FB.of_frn hf, (hG w1 hx hn.tb.base_le).mono ?_⟩
  rintro e w2 ⟨rfl, hx2, ht⟩
  obtain ⟨v, hX, _⟩ := hx
  exact ⟨rfl, ⟨hn.trnX ht hX, hx2, h.xb⟩, (FB.of_frn hf).trans (FB.of_trn ht hX h.xb)⟩
theorem LI.ok (h : LI f l K N j) (hN : N < 18446744073709551616) : okL l := fun q hq => by have := h.tm q hq; omega
theorem LI.l4 (h : LI f l K N j) : l.length ≤ 4096 := by have := h.rf.cnt; have := h.rf.k2; omega
theorem spend_both (h : DN w B0 S T m K X f l) (hi : LI f l K N j) (s : List UInt8) (now : Int) (hs : s.length ≤ 100000) (n0 : 0 ≤ now) (n1 : now ≤ N) (hN : N < 18446744073709551616) :
    BothN 13 #[tP S, strT s, u64v now] 24 #[tP X, strT s, u64v now] w B0 S T m K X f (spN f l s now).2 :=
  both_mk h (spend_ns h.ns s now hs n0 (by omega) (hi.ok hN)) (fun _ hx hb => rspend_X hx s now n0 (by omega) hi.l4 (hi.ok hN) hi.wf hi.rf.wd hb)
theorem use_both (h : DN w B0 S T m K X f l) (hi : LI f l K N j) (s : List UInt8) (q now : Int) (hs : s.length ≤ 100000) (q0 : 0 ≤ q) (n0 : 0 ≤ now) (n1 : now ≤ N) (hN : N < 18446744073709551616) :
    BothN 14 #[tP S, strT s, .int .u32 q, u64v now] 25 #[tP X, strT s, .int .u32 q, u64v now] w B0 S T m K X f (usN f l s q now).2 :=
  both_mk h (use_ns h.ns s q now hs n0 (by omega) q0 (hi.ok hN)) (fun _ hx hb => ruse_X hx s q now n0 (by omega) hi.l4 (hi.ok hN) hi.wf hi.rf.wd hb)
theorem sweep_both (h : DN w B0 S T m K X f l) (hi : LI f l K N j) (now : Int) (n0 : 0 ≤ now) (n1 : now ≤ N) (hN : N < 18446744073709551616) :
    BothN 15 #[tP S, u64v now] 26 #[tP X, u64v now] w B0 S T m K X f (swL f now l) :=
  both_mk h (sweep_ns h.ns now n0 (by omega) (hi.ok hN)) (fun _ hx hb => rsweep_X hx now n0 (by omega) hi.l4 (hi.ok hN) hb)
theorem check_both (h : DN w B0 S T m K X f l) (hi : LI f l K N j) (s : List UInt8) (now : Int) (hs : s.length ≤ 100000) (n0 : 0 ≤ now) (n1 : now ≤ N) (hN : N < 18446744073709551616) :
    BothN 20 #[tP S, strT s, u64v now] 27 #[tP X, strT s, u64v now] w B0 S T m K X f l := by
  refine both_mk (r := (fiN f l s now).2) h ((check_ns h.ns s now hs n0 (by omega) (hi.ok hN)).mono ?_) (fun w1 hx hb => (rcheck_X hx s now n0 (by omega) hi.l4 (hi.ok hN) hi.wf hi.rf.wd).mono ?_)
  · rintro e w1 ⟨rfl, hb⟩
    exact ⟨rfl, h.ns.keep hb, FrN.of_below hb h.b0⟩
  · rintro e w2 ⟨rfl, hb2⟩
    exact ⟨rfl, hx.below hb2, Trn.of_below hb2⟩
theorem LI.sub (h : LI f l K N j) (hs : l'.Sublist l) : LI f l' K N j :=
  ⟨⟨(hs.map _).nodup h.wf.kn, fun q hq => h.wf.ky q (hs.subset hq), fun q hq => h.wf.ct q (hs.subset hq)⟩,
    ⟨h.rf.wd, h.rf.md, Nat.le_trans hs.length_le h.rf.cnt, h.rf.k1, h.rf.k2, h.rf.se0, h.rf.se1, h.rf.mr0⟩, fun q hq => h.tm q (hs.subset hq), h.se, fun q hq => h.sl q (hs.subset hq)⟩
theorem LI.more (h : LI f l K N j) {N' : Int} {j' : Nat} (hn : N ≤ N') (hj : j ≤ j') : LI f l K N' j' := ⟨h.wf, h.rf, fun q hq => by have := h.tm q hq; omega, by have := h.se; omega, h.sl⟩
theorem LI.set (h : LI f l K N j) {s : List UInt8} {e e' : VT} (hg : getL l (drL s) = some e) (hs' : e'.s = s) (hes : e.s = s) (ha : e'.a = e.a) (hc : 0 ≤ e'.ct ∧ e'.ct ≤ 4294967295) : LI f (setL l (drL s) e').2 K N j := by
  have hmem := getL_mem l hg
  have hse : setL l (drL s) e' = (0, l.map fun p => if p.1 == drL s then (drL s, e') else p) := by unfold setL; rw [getL_has hg, if_pos rfl]
  rw [hse]
  simp only
  have hin : ∀ q ∈ l.map (fun p => if p.1 == drL s then (drL s, e') else p), q = (drL s, e') ∨ q ∈ l := by
    intro q hq
    obtain ⟨p, hp, rfl⟩ := List.mem_map.1 hq
    cases hb : p.1 == drL s with
    | true => exact .inl rfl
    | false => exact .inr (by simpa [hb] using hp)
  refine ⟨⟨?_, ?_, ?_⟩, ⟨h.rf.wd, h.rf.md, by rw [List.length_map]; exact h.rf.cnt, h.rf.k1, h.rf.k2, h.rf.se0, h.rf.se1, h.rf.mr0⟩, ?_, h.se, ?_⟩
  · have : (l.map (fun p => if p.1 == drL s then (drL s, e') else p)).map (·.1) = l.map (·.1) := by
      rw [List.map_map]
      refine List.map_congr_left fun p _ => ?_
      show (if p.1 == drL s then (drL s, e') else p).1 = p.1
      cases hb : p.1 == drL s with
      | true => exact (beq_iff_eq.1 hb).symm
      | false => rfl
    rw [this]; exact h.wf.kn
  · intro q hq
    rcases hin q hq with rfl | hq
    · simp only; rw [hs']
    · exact h.wf.ky q hq
  · intro q hq
    rcases hin q hq with rfl | hq
    · exact hc
    · exact h.wf.ct q hq
  · intro q hq
    rcases hin q hq with rfl | hq
    · simp only; rw [ha]; exact h.tm _ hmem
    · exact h.tm q hq
  · intro q hq
    rcases hin q hq with rfl | hq
    · simp only; rw [hs', ← hes]; exact h.sl _ hmem
    · exact h.sl q hq
theorem LI.spend (h : LI f l K N j) (s : List UInt8) (now : Int) : LI f (spN f l s now).2 K N j := by
  unfold spN
  rcases fiN_cases f l s now with ⟨c, hc, _⟩ | ⟨e, he, hg, hs, _, _⟩
  · rw [hc]; exact h
  · rw [he]
    simp only
    split
    · exact h
    · exact h.set (e' := { e with sp := true }) hg hs hs rfl (h.wf.ct _ (getL_mem l hg))
theorem LI.use (h : LI f l K N j) (s : List UInt8) (q now : Int) (q0 : 0 ≤ q) (q1 : q ≤ 4294967295) : LI f (usN f l s q now).2 K N j := by
  unfold usN
  rcases fiN_cases f l s now with ⟨c, hc, _⟩ | ⟨e, he, hg, hs, _, _⟩
  · rw [hc]; exact h
  · rw [he]
    simp only
    split
    · exact h
    · split
      · exact h
      · exact h.set (e' := { e with ct := q }) hg hs hs rfl ⟨q0, q1⟩
theorem LI.issue (h : LI f l K N j) (d : List UInt8) (now : Int) (n0 : 0 ≤ now) (n1 : now ≤ N) (hj : j ≤ 1000) : LI (issN f l K d now).2.1 (issN f l K d now).2.2 K N (j + 1) ∧ ((issN f l K d now).1.2 = 0 → (issN f l K d now).1.1.length ≤ 100) := by
  rcases issN_cases f l K d now h.rf.cnt h.rf.k1 with ⟨c, hc, h0⟩ | ⟨hd, hnb, hla, hg, f', hi, hf'⟩
  · rw [hc]; exact ⟨h.more (by omega) (by omega), fun e => absurd e h0⟩
  · rw [hi]
    simp only
    have h2 := h.sub (mrL_sub f now K l)
    have hr := mrL_room f now K l h.rf.cnt h.rf.k1
    have hfr : ∀ q ∈ (mrL f now K l).2, q.1 ≠ d := by
      intro q hq e
      unfold getL at hg
      rw [Option.map_eq_none_iff, List.find?_eq_none] at hg
      exact hg q ((mrL_sub f now K l).subset hq) (by simp [e])
    have hm : ((mrL f now K l).1.md = false → (mrL f now K l).1.mr = 0) ∧ 0 ≤ (mrL f now K l).1.mr ∧ (mrL f now K l).1.wd = f.wd := by
      refine ⟨?_, ?_, (mrL_se f now K l).2.2⟩
      · unfold mrL
        split
        · exact h.rf.md
        · split
          · exact h.rf.md
          · split
            · exact h.rf.md
            · intro e; cases e
      · unfold mrL
        have := h.rf.mr0
        split
        · exact this
        · split
          · exact this
          · cases l with
            | nil => exact this
            | cons p t =>
              have hp := h.tm p (List.mem_cons_self ..)
              show 0 ≤ if f.mr < p.2.a then p.2.a else f.mr
              split <;> omega
    refine ⟨⟨⟨?_, ?_, ?_⟩, ?_, ?_, ?_, ?_⟩, fun _ => by rw [nonL_len]; omega⟩
    · rw [List.map_append, List.nodup_append]
      refine ⟨h2.wf.kn, by simp, fun a ha b hb => ?_⟩
      obtain ⟨q, hq, rfl⟩ := List.mem_map.1 ha
      simp at hb
      rw [hb]
      exact hfr q hq
    · intro q hq
      rcases List.mem_append.1 hq with hq | hq
      · exact h2.wf.ky q hq
      · rw [List.mem_singleton] at hq; subst hq
        exact (drL_nonL _ _).symm
    · intro q hq
      rcases List.mem_append.1 hq with hq | hq
      · exact h2.wf.ct q hq
      · rw [List.mem_singleton] at hq; subst hq
        exact ⟨by simp, by simp⟩
    · rw [hf']
      have := h.se
      have := h.rf.se0
      exact ⟨by rw [hm.2.2]; exact h.rf.wd, hm.1, by rw [List.length_append]; show _ + 1 ≤ K; omega, h.rf.k1, h.rf.k2, by show 0 ≤ f.se + 1; omega, by show f.se + 1 + 1 < _; omega, hm.2.1⟩
    · intro q hq
      rcases List.mem_append.1 hq with hq | hq
      · exact h2.tm q hq
      · rw [List.mem_singleton] at hq; subst hq
        exact ⟨n0, n1⟩
    · rw [hf']; have := h.se; show f.se + 1 ≤ _; omega
    · intro q hq
      rcases List.mem_append.1 hq with hq | hq
      · exact h2.sl q hq
      · rw [List.mem_singleton] at hq; subst hq
        show (nonL d _).length ≤ 100
        rw [nonL_len]; omega
end
end Go.Proofs.Ythpgdojjecdlcaa
set_option maxRecDepth 100000
namespace Go.Proofs.Ythpgdojjecdlcaa
open Go.RowKit Go.Shelf
abbrev tOp : TypeId := 42
abbrev tPr : TypeId := 39
/-- The law's pair at block Q. -/
structure PP (w : World) (B0 S T m K X Q : Nat) (f : NF) (l : PL) (GS : List (List UInt8)) (N : Int) (v : Value) (j : Nat) : Prop where
  dn : DN w B0 S T m K X f l
  li : LI f l K N j
  pb : BlkT w Q tPr [tP S, tP X, v, u64v N]
  ow : OwnT w B0 v GS
  gs : ∀ n ∈ GS, n.length ≤ 100
  gl : GS.length ≤ j
  qb : B0 ≤ Q
def DoPost (B0 S T m K X Q : Nat) (N : Int) (j : Nat) (w w' : World) : Prop := ∃ f' l' GS' v', PP w' B0 S T m K X Q f' l' GS' N v' j ∧ Below B0 w w'
section
variable {w w1 w2 w' : World} {B0 S T m K X Q : Nat} {f f' : NF} {l l' : PL} {N : Int} {j : Nat} {GS : List (List UInt8)} {v : Value}
theorem PP.keep (h : PP w B0 S T m K X Q f l GS N v j) (hb : Below w.heap.size w w') : PP w' B0 S T m K X Q f l GS N v j :=
  ⟨h.dn.keep hb, h.li, h.pb.below hb h.pb.lt, h.ow.below hb, h.gs, h.gl, h.qb⟩
theorem PP.fb (h : PP w B0 S T m K X Q f l GS N v j) (hb : FB B0 m w w') (hd : DN w' B0 S T m K X f' l') (hl : LI f' l' K N (j + 1)) : PP w' B0 S T m K X Q f' l' GS N v (j + 1) :=
  ⟨hd, hl, hb.blk h.pb (by decide) (h.pb.nmap h.dn.ns.mapM), hb.row h.dn.ns.mapM h.ow (by decide), h.gs, by have := h.gl; omega, h.qb⟩
/-- A row of another type turned or grew. -/
theorem DN.grown (h : DN w B0 S T m K X f l) {row : Option Nat} (hg : w.grownBy w' row) (hr : ∀ g, row = some g → ∃ c t fz, w.heap[g]? = some (.cells c t fz) ∧ (t ≠ tT ∧ t ≠ tE ∧ t ≠ tSt) ∧ t ≠ tX ∧ t ≠ tR) : DN w' B0 S T m K X f l := by
  obtain ⟨hn, ⟨v, hX, hE⟩, hb⟩ := h
  refine ⟨hn.grown hg (fun g e => by obtain ⟨c, t, fz, k1, k2, _⟩ := hr g e; exact ⟨c, t, fz, k1, k2⟩), ⟨v, hX.grown hg (fun e => ?_), World.ownsRow.kept hE hg ?_⟩, hb⟩
  · obtain ⟨c, t, fz, k1, _, k3, _⟩ := hr X e.symm
    unfold BlkT at hX
    rw [hX] at k1
    cases k1
    exact k3 rfl
  · cases hc : v.ownBlock with
    | none => exact .inl rfl
    | some k =>
      refine .inr (fun e => ?_)
      obtain ⟨c, t, fz, k1, _, _, k4⟩ := hr k e.symm
      rcases hE.2 with ⟨e2, _⟩ | ⟨g, cp, cur, e2, _, hh, _⟩
      · rw [e2] at hc; simp [Value.ownBlock] at hc
      · rw [e2] at hc
        have : g = k := by simpa [Value.ownBlock] using hc
        rw [this, k1] at hh
        cases hh
        exact k4 rfl
theorem PP.now (h : PP w B0 S T m K X Q f l GS N v j) {N2 : Int} (hn : N ≤ N2) : PP (w.setCell ⟨Q, 3, none⟩ (u64v N2)) B0 S T m K X Q f l GS N2 v j := by
  have hg := grown_set w ⟨Q, 3, none⟩ (u64v N2)
  refine ⟨h.dn.grown hg (fun g e => ?_), h.li.more hn (Nat.le_refl _), h.pb.set 3 _, h.ow.kept hg ?_, h.gs, h.gl, h.qb⟩
  · cases e; exact ⟨_, _, _, h.pb, by decide, by decide, by decide⟩
  · cases hc : v.ownBlock with
    | none => exact .inl rfl
    | some k =>
      refine .inr (fun e => ?_)
      have e := Option.some.inj e
      rcases h.ow.2 with ⟨e2, _⟩ | ⟨g, cp, cur, e2, _, hh, _⟩
      · rw [e2] at hc; simp [Value.ownBlock] at hc
      · rw [e2] at hc
        have h3 : g = k := by simpa [Value.ownBlock] using hc
        have hp := h.pb
        unfold BlkT at hp
        rw [h3, e, hp] at hh
        cases hh
/-- A nonce more in the row of all: what is appended to, and what comes of it. -/
theorem PP.snoc (h : PP w B0 S T m K X Q f l GS N v j) (nn : List UInt8) (hn : nn.length ≤ 100) (hgl : GS.length + 1 ≤ j) :
    OwnT (w.alloc (.cells #[strT nn] 9)) B0 v GS ∧ (w.alloc (.cells #[strT nn] 9)).cell? ⟨w.heap.size, 0, none⟩ = some (strT nn) ∧ B0 ≤ (w.alloc (.cells #[strT nn] 9)).heap.size ∧
    (∀ v' w7, OwnT w7 B0 v' (GS ++ [nn]) → (w.alloc (.cells #[strT nn] 9)).grownBy w7 v.ownBlock → w7.cell? ⟨Q, 2, none⟩ = some v ∧ w7.frozen? ⟨Q, 2, none⟩ = false ∧ PP (w7.setCell ⟨Q, 2, none⟩ v') B0 S T m K X Q f l (GS ++ [nn]) N v' j ∧ Below B0 w (w7.setCell ⟨Q, 2, none⟩ v')) := by
  have hBA : Below w.heap.size w (w.alloc (.cells #[strT nn] 9)) := (Below.refl _ _).alloc (Nat.le_refl _) _
  have hbs := hBA.size
  have hA := h.keep hBA
  have hb0 := h.dn.b0
  refine ⟨hA.ow, ?_, by omega, fun v' w7 hv hg => ?_⟩
  · have : BlkT (w.alloc (.cells #[strT nn] 9)) w.heap.size 9 [strT nn] := heap_alloc_new w _
    exact this.at rfl
  · have hrc : ∀ g, v.ownBlock = some g → ∃ c t fz, (w.alloc (.cells #[strT nn] 9)).heap[g]? = some (.cells c t fz) ∧ t = 9 := by
      intro g hgg
      rcases hA.ow.2 with ⟨e2, _⟩ | ⟨g', cp, cur, e2, _, hh, _⟩
      · rw [e2] at hgg; simp [Value.ownBlock] at hgg
      · rw [e2] at hgg
        have : g' = g := by simpa [Value.ownBlock] using hgg
        subst this
        exact ⟨_, _, _, hh, rfl⟩
    have hd7 := hA.dn.grown hg (fun g e => by
      obtain ⟨c, t, fz, k1, k2⟩ := hrc g e
      exact ⟨c, t, fz, k1, by rw [k2]; decide, by rw [k2]; decide, by rw [k2]; decide⟩)
    have hp7 : BlkT w7 Q tPr [tP S, tP X, v, u64v N] := hA.pb.grown hg (fun e => by
      obtain ⟨c, t, fz, k1, k2⟩ := hrc Q e.symm
      have hp := hA.pb
      unfold BlkT at hp
      rw [hp] at k1
      cases k1
      exact absurd k2 (by decide))
    have hg2 := grown_set w7 ⟨Q, 2, none⟩ v'
    refine ⟨hp7.at rfl, hp7.free 2, ⟨hd7.grown hg2 (fun g e => by cases e; exact ⟨_, _, _, hp7, by decide, by decide, by decide⟩), h.li, hp7.set 2 _, World.ownsRow.kept hv hg2 ?_, ?_, by rw [List.length_append]; exact hgl, h.qb⟩, ?_⟩
    · cases hc : v'.ownBlock with
      | none => exact .inl rfl
      | some k =>
        refine .inr (fun e => ?_)
        have e := Option.some.inj e
        rcases hv.2 with ⟨e2, _⟩ | ⟨g, cp, cur, e2, _, hh, _⟩
        · rw [e2] at hc; simp [Value.ownBlock] at hc
        · rw [e2] at hc
          have h3 : g = k := by simpa [Value.ownBlock] using hc
          unfold BlkT at hp7
          rw [h3, e, hp7] at hh
          cases hh
    · intro n hnn
      rcases List.mem_append.1 hnn with hnn | hnn
      · exact h.gs n hnn
      · rw [List.mem_singleton] at hnn; rw [hnn]; exact hn
    · exact ((hBA.mono hb0).trans (hA.ow.belowBase hg (by omega))).setCell (p := ⟨Q, 2, none⟩) h.qb _
set_option maxHeartbeats 8000000 in
theorem do_any (h : PP w B0 S T m K X Q f l GS N v j) (hj : j ≤ 100) (hN0 : 0 ≤ N) (hN1 : N ≤ 1000000) (od : Int) (ox : List UInt8) (owh : Int) (oow : Bool) (oc ot obk : Int) (hok : OpN.ok ⟨od, ox, owh, oow, oc, ot, obk⟩) :
    Calls Try.prog 10 #[tP Q, .agg #[.int .u8 od, strT ox, .int .u8 owh, .bool oow, .int .u32 oc, .int .u32 ot, .int .u8 obk]] w fun e w' => e = .returned (.bool true) ∧ DoPost B0 S T m K X Q (N + ot % 100) (j + 1) w w' := by
  obtain ⟨⟨d0, d1⟩, hx, ⟨wh0, wh1⟩, ⟨oc0, oc1⟩, ⟨ot0, ot1⟩, ⟨bk0, bk1⟩⟩ := hok
  simp only at d0 d1 hx wh0 wh1 oc0 oc1 ot0 ot1 bk0 bk1
  obtain ⟨As, cs, rfl, hcs1, hcs2⟩ := enRow_form h.ow
  unfold maxLen at hcs2
  obtain ⟨N2, hN2⟩ : ∃ N2, N2 = N + ot % 100 := ⟨_, rfl⟩
  have hN20 : N ≤ N2 ∧ N2 ≤ N + 99 := by omega
  obtain ⟨W, hW⟩ : ∃ W, W = w.alloc (.cells #[.int .u8 od, strT ox, .int .u8 owh, .bool oow, .int .u32 oc, .int .u32 ot, .int .u8 obk] tOp) := ⟨_, rfl⟩
  have hB : Below w.heap.size w W := by rw [hW]; exact (Below.refl _ w).alloc (Nat.le_refl _) _
  have hP : BlkT W w.heap.size tOp [.int .u8 od, strT ox, .int .u8 owh, .bool oow, .int .u32 oc, .int .u32 ot, .int .u8 obk] := by rw [hW]; exact heap_alloc_new w _
  have hpp := h.keep hB
  have q3 : W.cell? ⟨Q, 3, none⟩ = some (u64v N) := hpp.pb.at rfl
  have zq3 := hpp.pb.free 3
  have p5 : W.cell? ⟨w.heap.size, 5, none⟩ = some (.int .u32 ot) := hP.at rfl
  have HPP := Lib.hid hpp
  have HB := Lib.hid (hB.mono h.dn.b0)
  have HP := Lib.hid hP
  have HQP := Lib.hid (show Q ≠ w.heap.size by have := h.pb.lt; omega)
  rw [← hN2]
  have HN2 := Lib.hid hN2
  clear hB hP hpp h hN2
  go_enter Try.func10, Try.ntmps10
  go_wp2_with fail
  rw [← hW]
  clear hW
  go_still_tail 11, (by kernel_rfl)
  change wpList _ _ _ _ _ W.drew
  go_wp2_with fail
  rw [← HN2.out]
  obtain ⟨W1, hW1⟩ : ∃ W1, W1 = (W.setCell ⟨Q, 3, none⟩ (u64v N2)).drew := ⟨_, rfl⟩
  have hpp1 : PP W1 B0 S T m K X Q f l GS N2 (.slice As GS.length cs) j := by rw [hW1]; exact (HPP.out.now hN20.1).keep (Below.refl _ _).drew
  have hp1 : BlkT W1 w.heap.size tOp [.int .u8 od, strT ox, .int .u8 owh, .bool oow, .int .u32 oc, .int .u32 ot, .int .u8 obk] := by rw [hW1]; exact (HP.out.setOther (a := ⟨Q, 3, none⟩) HQP.out _).drew
  have hb1 : Below B0 w W1 := by rw [hW1]; exact (HB.out.setCell (p := ⟨Q, 3, none⟩) HPP.out.qb _).drew
  rw [← hW1]
  obtain ⟨P, hPp⟩ : ∃ P, P = w.heap.size := ⟨_, rfl⟩
  rw [← hPp] at hp1 ⊢
  have HP1 := Lib.hid hpp1
  have HO1 := Lib.hid hp1
  have HB1 := Lib.hid hb1
  have q3 : W1.cell? ⟨Q, 3, none⟩ = some (u64v N2) := hpp1.pb.at rfl
  have p6 : W1.cell? ⟨P, 6, none⟩ = some (.int .u8 obk) := hp1.at rfl
  obtain ⟨N3, hN3⟩ : ∃ N3, N3 = N2 - min N2 (obk % 4) := ⟨_, rfl⟩
  have hN30 : 0 ≤ N3 ∧ N3 ≤ N2 := by omega
  have hm4 : 0 ≤ obk % 4 ∧ obk % 4 < 4 := by omega
  have HN3 := Lib.hid hN3
  clear hpp1 hp1 hb1 hW1 hPp HPP HB HP HQP HN2 hN3
  go_upto_region 2 with fail
  go_cut [5] (fun s5 wx => Below W1.heap.size W1 wx ∧ s5 = u64v N3)
  case first =>
    have hb4 : IntKind.u64.wrap (obk % 4) = obk % 4 := by rw [IntKind.wrap_u64]; omega
    have hb5 : obk.tmod 4 = obk % 4 := by rw [Int.tmod_eq_emod_of_nonneg (by omega)]
    by_cases hmin : N2 ≤ obk % 4
    · have hn3 : N3 = N2 - N2 := by rw [HN3.out]; omega
      go_quiet (fail)
      go_wp2_with fail
      go_meet
      exact ⟨below_drewN (Below.refl _ _) _, by rw [HN3.out]⟩
    · have hmin2 : obk % 4 < N2 := by omega
      go_quiet (fail)
      go_wp2_with fail
      go_meet
      exact ⟨below_drewN (Below.refl _ _) _, by rw [HN3.out]⟩
  case rest =>
    clear q3 p6
    obtain ⟨W2, hw2⟩ : ∃ W2, W2 = wc := ⟨_, rfl⟩
    subst hw2
    obtain ⟨hbc, rfl⟩ := hcut
    have HP2 := Lib.hid (HP1.out.keep hbc)
    have HO2 := Lib.hid (HO1.out.below hbc HO1.out.lt)
    have HB2 := Lib.hid (HB1.out.trans (hbc.mono HP1.out.dn.b0))
    have p1 : W2.cell? ⟨P, 1, none⟩ = some (strT ox) := HO2.out.at rfl
    clear hbc HP1 HO1 HB1
    obtain ⟨n0, hn0⟩ : ∃ n0, n0 = ox.take (50 : Int).toNat := ⟨_, rfl⟩
    have hn0l : n0.length ≤ 50 := by rw [hn0, List.length_take]; omega
    have HCT := Lib.hid (cutText_any ox 50 W2 hx (by omega) (by omega))
    rw [← hn0] at HCT
    clear hn0
    go_wp2_with fail
    refine HCT.out.mono ?_
    rintro e W' ⟨rfl, hWW⟩
    subst hWW
    clear HCT p1
    have p3 : W2.cell? ⟨P, 3, none⟩ = some (.bool oow) := HO2.out.at rfl
    have p2 : W2.cell? ⟨P, 2, none⟩ = some (.int .u8 owh) := HO2.out.at rfl
    have q2 : W2.cell? ⟨Q, 2, none⟩ = some (.slice As GS.length cs) := HP2.out.pb.at rfl
    go_upto_region 5 with fail
    go_cut [50] (fun s50 wx => W2 = wx ∧ s50 = .bool (oow && decide (0 < GS.length)))
    case first =>
      cases oow with
      | false =>
        go_wp2_with fail
        go_meet
        exact ⟨rfl, rfl⟩
      | true =>
        by_cases hG : 0 < GS.length
        · have hdG : decide (0 < GS.length) = true := decide_eq_true hG
          clear hG
          go_wp2_with fail
          go_meet
          exact ⟨rfl, by rw [hdG]; rfl⟩
        · have hdG : decide (0 < GS.length) = false := decide_eq_false hG
          clear hG
          go_wp2_with fail
          go_meet
          exact ⟨rfl, by rw [hdG]; rfl⟩
    case rest =>
      obtain ⟨rfl, rfl⟩ := hcut
      obtain ⟨bq, hbq⟩ : ∃ bq, bq = (oow && decide (0 < GS.length)) := ⟨_, rfl⟩
      rw [← hbq]
      have HBQ := Lib.hid hbq
      clear hbq
      go_upto_if 50 with fail
      go_cut [7] (fun s7 wx => Below W2.heap.size W2 wx ∧ ∃ n : List UInt8, s7 = strT n ∧ n.length ≤ 100)
      case first =>
        cases bq with
        | false =>
          go_wp2_with fail
          go_meet
          exact ⟨Below.refl _ _, n0, rfl, by omega⟩
        | true =>
          have hG : 0 < GS.length := by
            have := HBQ.out.symm
            rw [Bool.and_eq_true, decide_eq_true_eq] at this
            exact this.2
          rcases HP2.out.ow.form with ⟨e, e2⟩ | ⟨g, cap, e, _, _, _, _, hgc⟩
          · rw [e2] at hG; simp at hG
          · cases e
            obtain ⟨I, hI⟩ : ∃ I : Nat, owh % (GS.length : Int) = (I : Int) := ⟨(owh % (GS.length : Int)).toNat, by have := Int.emod_nonneg owh (b := (GS.length : Int)) (by omega); omega⟩
            have hIl : I < GS.length := by have := Int.emod_lt_of_pos owh (b := (GS.length : Int)) (by omega); omega
            have hIt : owh.tmod (GS.length : Int) = (I : Int) := by rw [Int.tmod_eq_emod_of_nonneg (by omega), hI]
            have hcg := hgc I hIl
            obtain ⟨n, hnn⟩ : ∃ n, n = GS[I] := ⟨_, rfl⟩
            have hn : n.length ≤ 100 := by rw [hnn]; exact HP2.out.gs _ (List.getElem_mem hIl)
            rw [← hnn] at hcg
            clear hgc hnn
            go_wp2_with fail
            go_quiet (fail)
            go_wp2_with fail
            go_meet
            exact ⟨below_drewN (Below.refl _ _) _, n, rfl, hn⟩
      case rest =>
        clear p3 p2 q2
        obtain ⟨hbc, n, rfl, hn⟩ := hcut
        obtain ⟨W5, hW5⟩ : ∃ W5, W5 = wc := ⟨_, rfl⟩
        rw [← hW5] at hbc ⊢
        clear hW5
        have HP5 := Lib.hid (HP2.out.keep hbc)
        have HO5 := Lib.hid (HO2.out.below hbc HO2.out.lt)
        have HB5 := Lib.hid (HB2.out.trans (hbc.mono HP2.out.dn.b0))
        have p0 : W5.cell? ⟨P, 0, none⟩ = some (.int .u8 od) := HO5.out.at rfl
        have p4 : W5.cell? ⟨P, 4, none⟩ = some (.int .u32 oc) := HO5.out.at rfl
        have q0 : W5.cell? ⟨Q, 0, none⟩ = some (tP S) := HP5.out.pb.at rfl
        have q1 : W5.cell? ⟨Q, 1, none⟩ = some (tP X) := HP5.out.pb.at rfl
        clear hbc HP2 HO2 HB2
        by_cases e4 : od % 10 = 4
        · have b4 : (od % 10 == 4) = true := beq_iff_eq.2 e4
          clear e4
          go_wp2_with fail
          have e2 : W5.drew.cell? ⟨Q, 0, none⟩ = some (tP S) ∧ W5.drew.cell? ⟨Q, 1, none⟩ = some (tP X) := ⟨HP5.out.pb.drew.at rfl, HP5.out.pb.drew.at rfl⟩
          obtain ⟨r, hc⟩ := spend_both (HP5.out.dn.keep (Below.refl _ W5).drew) HP5.out.li n N3 (by omega) hN30.1 hN30.2 (by omega)
          have HC := Lib.hid hc
          clear hc
          go_region_held3 (fun w' => w'.cell? ⟨Q, 0, none⟩ = some (tP S) ∧ w'.cell? ⟨Q, 1, none⟩ = some (tP X)) (first | exact e4 | exact e3 | exact e2 | go_keep)
            (first
              | (go_at_call 13; refine HC.out.mono ?_; rintro e w3 ⟨rfl, hf, hc2⟩; have hq3 := hf.blk HP5.out.pb.drew (by decide) (HP5.out.pb.nmap HP5.out.dn.ns.mapM); have hp3 := hf.blk HO5.out.drew (by decide) (HO5.out.nmap HP5.out.dn.ns.mapM); have e3 : w3.cell? ⟨Q, 0, none⟩ = some (tP S) ∧ w3.cell? ⟨Q, 1, none⟩ = some (tP X) := ⟨hq3.at rfl, hq3.at rfl⟩; have HC2 := Lib.hid hc2; clear hc2 hf hq3 hp3)
              | (go_at_call 24; refine HC2.out.mono ?_; rintro e w4 ⟨rfl, hd4, hf⟩; have hq4 := hf.blk HP5.out.pb.drew (by decide) (HP5.out.pb.nmap HP5.out.dn.ns.mapM); have hp4 := hf.blk HO5.out.drew (by decide) (HO5.out.nmap HP5.out.dn.ns.mapM); have e4 : w4.cell? ⟨Q, 0, none⟩ = some (tP S) ∧ w4.cell? ⟨Q, 1, none⟩ = some (tP X) := ⟨hq4.at rfl, hq4.at rfl⟩; have HST := Lib.hid (And.intro hd4 hf); clear hd4 hf hq4 hp4))
          all_goals
            go_wp2_with fail
            go_ret
            exact ⟨by simp, _, _, _, _, (HP5.out.keep (Below.refl _ _).drew).fb HST.out.2 HST.out.1 ((HP5.out.li.spend n N3).more (Int.le_refl _) (Nat.le_succ _)), HB5.out.drew.trans HST.out.2.low⟩
        · have b4 : (od % 10 == 4) = false := beq_eq_false_iff_ne.2 e4
          clear e4
          by_cases e5 : od % 10 = 5
          · have b5 : (od % 10 == 5) = true := beq_iff_eq.2 e5
            clear e5
            go_wp2_with fail
            have e2 : W5.drew.cell? ⟨Q, 0, none⟩ = some (tP S) ∧ W5.drew.cell? ⟨Q, 1, none⟩ = some (tP X) := ⟨HP5.out.pb.drew.at rfl, HP5.out.pb.drew.at rfl⟩
            obtain ⟨r, hc⟩ := spend_both (HP5.out.dn.keep (Below.refl _ W5).drew) HP5.out.li n N3 (by omega) hN30.1 hN30.2 (by omega)
            have HC := Lib.hid hc
            clear hc
            go_region_held3 (fun w' => w'.cell? ⟨Q, 0, none⟩ = some (tP S) ∧ w'.cell? ⟨Q, 1, none⟩ = some (tP X)) (first | exact e4 | exact e3 | exact e2 | go_keep)
              (first
                | (go_at_call 13; refine HC.out.mono ?_; rintro e w3 ⟨rfl, hf, hc2⟩; have hq3 := hf.blk HP5.out.pb.drew (by decide) (HP5.out.pb.nmap HP5.out.dn.ns.mapM); have hp3 := hf.blk HO5.out.drew (by decide) (HO5.out.nmap HP5.out.dn.ns.mapM); have e3 : w3.cell? ⟨Q, 0, none⟩ = some (tP S) ∧ w3.cell? ⟨Q, 1, none⟩ = some (tP X) := ⟨hq3.at rfl, hq3.at rfl⟩; have HC2 := Lib.hid hc2; clear hc2 hf hq3 hp3)
                | (go_at_call 24; refine HC2.out.mono ?_; rintro e w4 ⟨rfl, hd4, hf⟩; have hq4 := hf.blk HP5.out.pb.drew (by decide) (HP5.out.pb.nmap HP5.out.dn.ns.mapM); have hp4 := hf.blk HO5.out.drew (by decide) (HO5.out.nmap HP5.out.dn.ns.mapM); have e4 : w4.cell? ⟨Q, 0, none⟩ = some (tP S) ∧ w4.cell? ⟨Q, 1, none⟩ = some (tP X) := ⟨hq4.at rfl, hq4.at rfl⟩; have HST := Lib.hid (And.intro hd4 hf); clear hd4 hf hq4 hp4))
            all_goals
              go_wp2_with fail
              go_ret
              exact ⟨by simp, _, _, _, _, (HP5.out.keep (Below.refl _ _).drew).fb HST.out.2 HST.out.1 ((HP5.out.li.spend n N3).more (Int.le_refl _) (Nat.le_succ _)), HB5.out.drew.trans HST.out.2.low⟩
          · have b5 : (od % 10 == 5) = false := beq_eq_false_iff_ne.2 e5
            clear e5
            by_cases e6 : od % 10 = 6
            · have b6 : (od % 10 == 6) = true := beq_iff_eq.2 e6
              clear e6
              go_wp2_with fail
              have e2 : W5.drew.cell? ⟨Q, 0, none⟩ = some (tP S) ∧ W5.drew.cell? ⟨Q, 1, none⟩ = some (tP X) ∧ W5.drew.cell? ⟨P, 4, none⟩ = some (.int .u32 oc) := ⟨HP5.out.pb.drew.at rfl, HP5.out.pb.drew.at rfl, HO5.out.drew.at rfl⟩
              obtain ⟨r, hc⟩ := use_both (HP5.out.dn.keep (Below.refl _ W5).drew) HP5.out.li n oc N3 (by omega) oc0 hN30.1 hN30.2 (by omega)
              have HC := Lib.hid hc
              clear hc
              go_region_held3 (fun w' => w'.cell? ⟨Q, 0, none⟩ = some (tP S) ∧ w'.cell? ⟨Q, 1, none⟩ = some (tP X) ∧ w'.cell? ⟨P, 4, none⟩ = some (.int .u32 oc)) (first | exact e4 | exact e3 | exact e2 | go_keep)
                (first
                  | (go_at_call 14; refine HC.out.mono ?_; rintro e w3 ⟨rfl, hf, hc2⟩; have hq3 := hf.blk HP5.out.pb.drew (by decide) (HP5.out.pb.nmap HP5.out.dn.ns.mapM); have hp3 := hf.blk HO5.out.drew (by decide) (HO5.out.nmap HP5.out.dn.ns.mapM); have e3 : w3.cell? ⟨Q, 0, none⟩ = some (tP S) ∧ w3.cell? ⟨Q, 1, none⟩ = some (tP X) ∧ w3.cell? ⟨P, 4, none⟩ = some (.int .u32 oc) := ⟨hq3.at rfl, hq3.at rfl, hp3.at rfl⟩; have HC2 := Lib.hid hc2; clear hc2 hf hq3 hp3)
                  | (go_at_call 25; refine HC2.out.mono ?_; rintro e w4 ⟨rfl, hd4, hf⟩; have hq4 := hf.blk HP5.out.pb.drew (by decide) (HP5.out.pb.nmap HP5.out.dn.ns.mapM); have hp4 := hf.blk HO5.out.drew (by decide) (HO5.out.nmap HP5.out.dn.ns.mapM); have e4 : w4.cell? ⟨Q, 0, none⟩ = some (tP S) ∧ w4.cell? ⟨Q, 1, none⟩ = some (tP X) ∧ w4.cell? ⟨P, 4, none⟩ = some (.int .u32 oc) := ⟨hq4.at rfl, hq4.at rfl, hp4.at rfl⟩; have HST := Lib.hid (And.intro hd4 hf); clear hd4 hf hq4 hp4))
              all_goals
                go_wp2_with fail
                go_ret
                exact ⟨by simp, _, _, _, _, (HP5.out.keep (Below.refl _ _).drew).fb HST.out.2 HST.out.1 ((HP5.out.li.use n oc N3 oc0 oc1).more (Int.le_refl _) (Nat.le_succ _)), HB5.out.drew.trans HST.out.2.low⟩
            · have b6 : (od % 10 == 6) = false := beq_eq_false_iff_ne.2 e6
              clear e6
              by_cases e7 : od % 10 = 7
              · have b7 : (od % 10 == 7) = true := beq_iff_eq.2 e7
                clear e7
                go_wp2_with fail
                have e2 : W5.drew.cell? ⟨Q, 0, none⟩ = some (tP S) ∧ W5.drew.cell? ⟨Q, 1, none⟩ = some (tP X) ∧ W5.drew.cell? ⟨P, 4, none⟩ = some (.int .u32 oc) := ⟨HP5.out.pb.drew.at rfl, HP5.out.pb.drew.at rfl, HO5.out.drew.at rfl⟩
                obtain ⟨r, hc⟩ := use_both (HP5.out.dn.keep (Below.refl _ W5).drew) HP5.out.li n oc N3 (by omega) oc0 hN30.1 hN30.2 (by omega)
                have HC := Lib.hid hc
                clear hc
                go_region_held3 (fun w' => w'.cell? ⟨Q, 0, none⟩ = some (tP S) ∧ w'.cell? ⟨Q, 1, none⟩ = some (tP X) ∧ w'.cell? ⟨P, 4, none⟩ = some (.int .u32 oc)) (first | exact e4 | exact e3 | exact e2 | go_keep)
                  (first
                    | (go_at_call 14; refine HC.out.mono ?_; rintro e w3 ⟨rfl, hf, hc2⟩; have hq3 := hf.blk HP5.out.pb.drew (by decide) (HP5.out.pb.nmap HP5.out.dn.ns.mapM); have hp3 := hf.blk HO5.out.drew (by decide) (HO5.out.nmap HP5.out.dn.ns.mapM); have e3 : w3.cell? ⟨Q, 0, none⟩ = some (tP S) ∧ w3.cell? ⟨Q, 1, none⟩ = some (tP X) ∧ w3.cell? ⟨P, 4, none⟩ = some (.int .u32 oc) := ⟨hq3.at rfl, hq3.at rfl, hp3.at rfl⟩; have HC2 := Lib.hid hc2; clear hc2 hf hq3 hp3)
                    | (go_at_call 25; refine HC2.out.mono ?_; rintro e w4 ⟨rfl, hd4, hf⟩; have hq4 := hf.blk HP5.out.pb.drew (by decide) (HP5.out.pb.nmap HP5.out.dn.ns.mapM); have hp4 := hf.blk HO5.out.drew (by decide) (HO5.out.nmap HP5.out.dn.ns.mapM); have e4 : w4.cell? ⟨Q, 0, none⟩ = some (tP S) ∧ w4.cell? ⟨Q, 1, none⟩ = some (tP X) ∧ w4.cell? ⟨P, 4, none⟩ = some (.int .u32 oc) := ⟨hq4.at rfl, hq4.at rfl, hp4.at rfl⟩; have HST := Lib.hid (And.intro hd4 hf); clear hd4 hf hq4 hp4))
                all_goals
                  go_wp2_with fail
                  go_ret
                  exact ⟨by simp, _, _, _, _, (HP5.out.keep (Below.refl _ _).drew).fb HST.out.2 HST.out.1 ((HP5.out.li.use n oc N3 oc0 oc1).more (Int.le_refl _) (Nat.le_succ _)), HB5.out.drew.trans HST.out.2.low⟩
              · have b7 : (od % 10 == 7) = false := beq_eq_false_iff_ne.2 e7
                clear e7
                by_cases e8 : od % 10 = 8
                · have b8 : (od % 10 == 8) = true := beq_iff_eq.2 e8
                  clear e8
                  go_wp2_with fail
                  have e2 : W5.drew.cell? ⟨Q, 0, none⟩ = some (tP S) ∧ W5.drew.cell? ⟨Q, 1, none⟩ = some (tP X) := ⟨HP5.out.pb.drew.at rfl, HP5.out.pb.drew.at rfl⟩
                  obtain ⟨r, hc⟩ := sweep_both (HP5.out.dn.keep (Below.refl _ W5).drew) HP5.out.li N3 hN30.1 hN30.2 (by omega)
                  have HC := Lib.hid hc
                  clear hc
                  go_region_held3 (fun w' => w'.cell? ⟨Q, 0, none⟩ = some (tP S) ∧ w'.cell? ⟨Q, 1, none⟩ = some (tP X)) (first | exact e4 | exact e3 | exact e2 | go_keep)
                    (first
                      | (go_at_call 15; refine HC.out.mono ?_; rintro e w3 ⟨rfl, hf, hc2⟩; have hq3 := hf.blk HP5.out.pb.drew (by decide) (HP5.out.pb.nmap HP5.out.dn.ns.mapM); have hp3 := hf.blk HO5.out.drew (by decide) (HO5.out.nmap HP5.out.dn.ns.mapM); have e3 : w3.cell? ⟨Q, 0, none⟩ = some (tP S) ∧ w3.cell? ⟨Q, 1, none⟩ = some (tP X) := ⟨hq3.at rfl, hq3.at rfl⟩; have HC2 := Lib.hid hc2; clear hc2 hf hq3 hp3)
                      | (go_at_call 26; refine HC2.out.mono ?_; rintro e w4 ⟨rfl, hd4, hf⟩; have hq4 := hf.blk HP5.out.pb.drew (by decide) (HP5.out.pb.nmap HP5.out.dn.ns.mapM); have hp4 := hf.blk HO5.out.drew (by decide) (HO5.out.nmap HP5.out.dn.ns.mapM); have e4 : w4.cell? ⟨Q, 0, none⟩ = some (tP S) ∧ w4.cell? ⟨Q, 1, none⟩ = some (tP X) := ⟨hq4.at rfl, hq4.at rfl⟩; have HST := Lib.hid (And.intro hd4 hf); clear hd4 hf hq4 hp4))
                  all_goals
                    go_wp2_with fail
                    go_ret
                    exact ⟨by simp, _, _, _, _, (HP5.out.keep (Below.refl _ _).drew).fb HST.out.2 HST.out.1 ((HP5.out.li.sub List.filter_sublist).more (Int.le_refl _) (Nat.le_succ _)), HB5.out.drew.trans HST.out.2.low⟩
                · have b8 : (od % 10 == 8) = false := beq_eq_false_iff_ne.2 e8
                  clear e8
                  by_cases e9 : od % 10 = 9
                  · have b9 : (od % 10 == 9) = true := beq_iff_eq.2 e9
                    clear e9
                    go_wp2_with fail
                    have e2 : W5.drew.cell? ⟨Q, 0, none⟩ = some (tP S) ∧ W5.drew.cell? ⟨Q, 1, none⟩ = some (tP X) := ⟨HP5.out.pb.drew.at rfl, HP5.out.pb.drew.at rfl⟩
                    obtain ⟨r, hc⟩ := check_both (HP5.out.dn.keep (Below.refl _ W5).drew) HP5.out.li n N3 (by omega) hN30.1 hN30.2 (by omega)
                    have HC := Lib.hid hc
                    clear hc
                    go_region_held3 (fun w' => w'.cell? ⟨Q, 0, none⟩ = some (tP S) ∧ w'.cell? ⟨Q, 1, none⟩ = some (tP X)) (first | exact e4 | exact e3 | exact e2 | go_keep)
                      (first
                        | (go_at_call 20; refine HC.out.mono ?_; rintro e w3 ⟨rfl, hf, hc2⟩; have hq3 := hf.blk HP5.out.pb.drew (by decide) (HP5.out.pb.nmap HP5.out.dn.ns.mapM); have hp3 := hf.blk HO5.out.drew (by decide) (HO5.out.nmap HP5.out.dn.ns.mapM); have e3 : w3.cell? ⟨Q, 0, none⟩ = some (tP S) ∧ w3.cell? ⟨Q, 1, none⟩ = some (tP X) := ⟨hq3.at rfl, hq3.at rfl⟩; have HC2 := Lib.hid hc2; clear hc2 hf hq3 hp3)
                        | (go_at_call 27; refine HC2.out.mono ?_; rintro e w4 ⟨rfl, hd4, hf⟩; have hq4 := hf.blk HP5.out.pb.drew (by decide) (HP5.out.pb.nmap HP5.out.dn.ns.mapM); have hp4 := hf.blk HO5.out.drew (by decide) (HO5.out.nmap HP5.out.dn.ns.mapM); have e4 : w4.cell? ⟨Q, 0, none⟩ = some (tP S) ∧ w4.cell? ⟨Q, 1, none⟩ = some (tP X) := ⟨hq4.at rfl, hq4.at rfl⟩; have HST := Lib.hid (And.intro hd4 hf); clear hd4 hf hq4 hp4))
                    all_goals
                      go_wp2_with fail
                      go_ret
                      exact ⟨by simp, _, _, _, _, (HP5.out.keep (Below.refl _ _).drew).fb HST.out.2 HST.out.1 (HP5.out.li.more (Int.le_refl _) (Nat.le_succ _)), HB5.out.drew.trans HST.out.2.low⟩
                  · have b9 : (od % 10 == 9) = false := beq_eq_false_iff_ne.2 e9
                    clear e9
                    go_wp2_with fail
                    have hli := HP5.out.li.issue n0 N3 hN30.1 hN30.2 (by omega)
                    refine (issue_ns HP5.out.dn.ns n0 N3 (by omega) hN30.1 (by omega) (HP5.out.li.ok (by omega)) HP5.out.li.rf.k1 HP5.out.li.rf.se0 HP5.out.li.rf.se1).mono ?_
                    rintro e w6 ⟨rfl, hn6, f6⟩
                    have hx6 := HP5.out.dn.xr.frn f6 HP5.out.dn.ns.mapM
                    have hq6 := (FB.of_frn f6).blk HP5.out.pb (by decide) (HP5.out.pb.nmap HP5.out.dn.ns.mapM)
                    have k0 : w6.cell? ⟨Q, 0, none⟩ = some (tP S) := hq6.at rfl
                    have k1 : w6.cell? ⟨Q, 1, none⟩ = some (tP X) := hq6.at rfl
                    have HR := Lib.hid (rissue_X hx6 n0 N3 (by omega) hN30.1 (by omega) (HP5.out.li.ok (by omega)) HP5.out.li.rf hn6.tb.base_le)
                    obtain ⟨⟨⟨nn, cc⟩, f7, l7⟩, hiss⟩ : ∃ r, r = issN f l K n0 N3 := ⟨_, rfl⟩
                    rw [← hiss] at HR hli hn6
                    rw [← hiss]
                    simp only at HR hli hn6 ⊢
                    have HLI := Lib.hid hli
                    have HN6 := Lib.hid hn6
                    have HF6 := Lib.hid (FB.of_frn f6)
                    have HX6 := Lib.hid hx6
                    clear hiss hli hn6 hx6 hq6 f6
                    go_wp2_with fail
                    refine HR.out.mono ?_
                    rintro e w7 ⟨rfl, hx7, t7⟩
                    obtain ⟨vx, hX6, _⟩ := HX6.out
                    have hf7 := HF6.out.trans (FB.of_trn t7 hX6 HP5.out.dn.xb)
                    have hp7 := HP5.out.fb hf7 ⟨HN6.out.trnX t7 hX6, hx7, HP5.out.dn.xb⟩ HLI.out.1
                    have HP7 := Lib.hid hp7
                    have HB7 := Lib.hid (HB5.out.trans hf7.low)
                    have q2 : w7.cell? ⟨Q, 2, none⟩ = some (.slice As GS.length cs) := hp7.pb.at rfl
                    have hccb : (cc == cc) = true := beq_self_eq_true cc
                    clear hX6 hf7 hp7 hx7 t7 HR k0 k1
                    by_cases hcc : cc = 0
                    · subst hcc
                      have HSN := Lib.hid (HP7.out.snoc nn (HLI.out.2 rfl) (by have := HP5.out.gl; omega))
                      have HGL := Lib.hid (show GS.length ≤ 1000000 by have := HP5.out.gl; omega)
                      go_wp2_with (at_builtin; go_loud ((with_reducible refine wpList_appT ?g1 (.tmp 167) (.tmp 169) ?g2 B0 (.slice As GS.length cs) GS nn ?g3 ?g4 w7.heap.size 1 ?g5 ?g6 ?g7 ?g8 ?_); (case g1 => rfl); (case g2 => rfl); (case g3 => rfl); (case g4 => exact HSN.out.1); (case g5 => rfl); (case g6 => exact HSN.out.2.1); (case g7 => exact HGL.out); (case g8 => exact HSN.out.2.2.1); intro v' w8 hv hg; obtain ⟨A8, c8, rfl, _, _⟩ := enRow_form hv; obtain ⟨y1, y2, y3, y4⟩ := HSN.out.2.2.2 _ w8 hv hg; have HY := Lib.hid (And.intro y3 y4); clear hv hg y3 y4))
                      go_ret
                      have hy := HY.out
                      rw [show (GS ++ [nn]).length = GS.length + 1 by rw [List.length_append]; rfl] at hy
                      exact ⟨by simp, _, _, _, _, hy.1, HB7.out.trans hy.2⟩
                    · have hcb : (cc == 0) = false := beq_eq_false_iff_ne.2 hcc
                      clear hcc
                      go_wp2_with fail
                      go_ret
                      exact ⟨by simp, _, _, _, _, HP7.out, HB7.out⟩
end
end Go.Proofs.Ythpgdojjecdlcaa
