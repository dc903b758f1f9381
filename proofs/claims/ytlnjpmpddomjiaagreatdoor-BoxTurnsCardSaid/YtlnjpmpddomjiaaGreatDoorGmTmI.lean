/- box's reference: Hash, Mac, Stretch over both kinds of its Box, told by entries. (By mktmi.py.) box's reference: Looks at any text; in; open. box's reference: open. box's reference: open at a handle of a term; open at any tag. (By mktmo2.py.) box's reference: Turn. (By mktmu.py.) -/
import Derived.Test.YtlnjpmpddomjiaaGreatDoorGmTmF
import Derived.Test.YtlnjpmpddomjiaaGreatDoorGmTmK
import Derived.Test.YtlnjpmpddomjiaaGreatDoorGmCutE
import Derived.Test.YtlnjpmpddomjiaaGreatDoorGmHmCx
import Derived.Test.YtlnjpmpddomjiaaGreatDoorGmBxLooks
import Derived.Test.YtlnjpmpddomjiaaGreatDoorGmBeJn
import Derived.Deep.QuietTactic
import Derived.BigQuiet
import Derived.Test.YtlnjpmpddomjiaaGreatDoorGmBeNew
import Derived.Test.YtlnjpmpddomjiaaGreatDoorGmBeNu
set_option maxRecDepth 100000
namespace Go.Proofs.YtlnjpmpddomjiaaGreatDoor
open Go.RowKit
attribute [local go_sem] Oper.semAt_some
def macE (key l : List UInt8) : EnL := ⟨2, key, l, 0, [], []⟩
def strE (key l : List UInt8) (r : Int) : EnL := ⟨3, key, l, r, [], []⟩
/-- What a call tells of an entry, or of what a plain Box computes; what it leaves. -/
def anE (sym : Bool) (es : List EnL) (e : EnL) (pl : List UInt8) : List UInt8 := if sym then tagE es e else pl
def neE (sym : Bool) (es : List EnL) (e : EnL) : List EnL := if sym then esE es e else es
def nfE (sym full : Bool) (es : List EnL) (e : EnL) : Bool := if sym then fullE full es e else full
def vbl (v : Value) : List Nat := v.ownBlock.toList
theorem mem_vbl {v : Value} {k : Nat} : k ∈ vbl v ↔ v.ownBlock = some k := by unfold vbl; rw [Option.mem_toList]
/-- The blocks of the reference's Box. -/
def rB (x : Nat) (V : Value) (T : List TmL) : List Nat := x :: (vbl V ++ T.flatMap fun q => q.blocks.flatMap vbl)
theorem mem_rB {x k : Nat} {V : Value} {T : List TmL} : k ∈ rB x V T ↔ k = x ∨ V.ownBlock = some k ∨ ∃ q ∈ T, ∃ v ∈ q.blocks, v.ownBlock = some k := by
  unfold rB
  simp only [List.mem_cons, List.mem_append, List.mem_flatMap, mem_vbl]
theorem TmO.lts {w : World} {base : Nat} {q : TmL} {t : TmV} (h : TmO w base q t) : ∀ v ∈ q.blocks, ∀ k, v.ownBlock = some k → k < w.heap.size := by
  intro v hv k hk
  simp only [TmL.blocks, List.mem_cons, List.not_mem_nil, or_false] at hv
  rcases hv with rfl | rfl | rfl | rfl
  · exact (h.key.lt k hk).2
  · exact (h.text.lt k hk).2
  · obtain ⟨ns, _, _, h3⟩ := h.lst; exact (h3.lt k hk).2
  · exact (h.mask.lt k hk).2
theorem XB.rBlt {w : World} {base x : Nat} {V : Value} {sym full : Bool} {T : List TmL} {ts : List TmV} (h : XB w base x V sym full T ts) : ∀ k ∈ rB x V T, k < w.heap.size := by
  intro k hk
  rcases mem_rB.1 hk with rfl | e | ⟨q, hq, v, hv, e⟩
  · exact h.blk.lt
  · exact (h.own.lt k e).2
  · obtain ⟨i, hi, rfl⟩ := List.mem_iff_getElem.1 hq
    exact (h.tm i hi (by rw [← h.len]; exact hi)).lts v hv k e
theorem tm_ne_u8 : (tTm == 5) = false := by decide
theorem own_ne {w : World} {b1 b2 : Nat} {v1 v2 : Value} {l : List UInt8} {T : List TmL} (h1 : OwnB w b1 v1 l) (h2 : OwnM tTm w b2 v2 T) : ∀ k, v1.ownBlock = some k → v2.ownBlock ≠ some k := by
  intro k e1 e2
  rcases h1.2 with ⟨h, _⟩ | ⟨g, cap, cur, rfl, _, hg, _⟩
  · rw [h] at e1; cases e1
  · rcases h2.2 with ⟨h, _⟩ | ⟨g', cap', cur', rfl, _, hg', _⟩
    · rw [h] at e2; cases e2
    · cases e1
      cases e2
      rw [hg] at hg'
      injection hg' with hg'
      injection hg' with _ h3 _
      have := tm_ne_u8
      rw [← h3] at this
      simp at this
/-- The terms and their row behind a call: what is new there lies behind what there was. -/
structure NwT (B : Nat) (V : Value) (T : List TmL) (V' : Value) (T' : List TmL) : Prop where
  row : V' = V ∨ ∀ k, V'.ownBlock = some k → B ≤ k
  tms : ∀ q ∈ T', q ∈ T ∨ ∀ v ∈ q.blocks, ∀ k, v.ownBlock = some k → B ≤ k
theorem NwT.refl (B : Nat) (V : Value) (T : List TmL) : NwT B V T V T := ⟨.inl rfl, fun _ h => .inl h⟩
theorem NwT.less {B B' : Nat} {V V' : Value} {T T' : List TmL} (h : NwT B V T V' T') (hB : B' ≤ B) : NwT B' V T V' T' :=
  ⟨h.row.imp id (fun h k e => Nat.le_trans hB (h k e)), fun q hq => (h.tms q hq).imp id (fun h v hv k e => Nat.le_trans hB (h v hv k e))⟩
theorem NewT.nw {w : World} {V V' : Value} {T T' : List TmL} {q : TmL} {B : Nat} (h : NewT w V T q V' T') (hB : B ≤ w.heap.size) (hq : ∀ v ∈ q.blocks, ∀ k, v.ownBlock = some k → B ≤ k) : NwT B V T V' T' := by
  rcases h with ⟨h1, h2⟩ | ⟨h1, h2⟩
  · rw [h1, h2]; exact NwT.refl _ _ _
  · rw [h1]
    refine ⟨.inr (fun k e => Nat.le_trans hB (h2 k e)), fun p hp => ?_⟩
    rcases List.mem_append.1 hp with hp | hp
    · exact .inl hp
    · rw [List.mem_singleton.1 hp]; exact .inr hq
/-- What a call on the reference's Box leaves. -/
def RfR (w : World) (base x : Nat) (V : Value) (T : List TmL) (sym : Bool) (tag : List UInt8) (full : Bool) (es : List EnL) (r : Ending) (w' : World) : Prop :=
  ∃ v' V' T', r = .returned v' ∧ OwnB w' w.heap.size v' tag ∧ XB w' base x V' sym full T' (es.map enW) ∧ Trs [x] w w' ∧ NwT w.heap.size V T V' T' ∧ ∀ k, v'.ownBlock = some k → k ∉ rB x V' T'
theorem RfR.lift {w w1 w' : World} {base x : Nat} {V : Value} {T : List TmL} {sym full : Bool} {tag : List UInt8} {es : List EnL} {r : Ending} (hb : Below w.heap.size w w1) (h : RfR w1 base x V T sym tag full es r w') : RfR w base x V T sym tag full es r w' := by
  obtain ⟨v', V', T', h1, h2, h3, h4, h5, h6⟩ := h
  exact ⟨v', V', T', h1, h2.lower hb.size, h3, (Trs.of_below hb).trans h4, h5.less hb.size, h6⟩
/-- Tag of a term that an entry is. -/
theorem tag_refE {w : World} {base x : Nat} {V : Value} {sym full : Bool} {T : List TmL} {es : List EnL} (h : XB w base x V sym full T (es.map enW)) (hg : ∀ e ∈ es, EnG e) (e : EnL) (he : EnG e) (q : TmL) (hq : TmO w base q (enW e)) (hn : TmN x q) (w0 : World) (hw0 : Below w0.heap.size w0 w) (hq0 : ∀ v ∈ q.blocks, ∀ k, v.ownBlock = some k → w0.heap.size ≤ k) :
    Calls Tryz.prog 47 #[.pointer (some ⟨x, 0, none⟩), tmA q] w (RfR w0 base x V T sym (tagE es e) (fullE full es e) (esE es e)) := by
  refine (tag_ref h q (enW e) hq hn).mono ?_
  rintro r w' ⟨v', V', T', h1, h2, h3, h4, h5⟩
  rw [tag_same hg he] at h2
  rw [full_same full hg he, es_same hg he] at h3
  refine ⟨v', V', T', h1, h2.lower hw0.size, h3, (Trs.of_below hw0).trans h4, h5.nw hw0.size hq0, fun k e hk => ?_⟩
  have hk1 := (h2.lt k e).1
  rcases mem_rB.1 hk with rfl | e2 | ⟨p, hp, v, hv, e2⟩
  · have := h.blk.lt; omega
  · exact own_ne h2 h3.own k e e2
  · rcases h5 with ⟨h6, _⟩ | ⟨h6, _⟩
    · rw [h6] at hp
      have := h.rBlt k (mem_rB.2 (.inr (.inr ⟨p, hp, v, hv, e2⟩)))
      omega
    · rw [h6] at hp
      rcases List.mem_append.1 hp with hp | hp
      · have := h.rBlt k (mem_rB.2 (.inr (.inr ⟨p, hp, v, hv, e2⟩)))
        omega
      · rw [List.mem_singleton.1 hp] at hv
        have := hq.lts v hv k e2
        omega
theorem tm0_bare {B : Nat} {kd rd : Int} {KA TA : Option Addr} {km kc tm tc : Nat} (hk : ∀ k, (Value.slice KA km kc).ownBlock = some k → B ≤ k) (ht : ∀ k, (Value.slice TA tm tc).ownBlock = some k → B ≤ k) :
    ∀ v ∈ (⟨kd, KA, km, kc, TA, tm, tc, rd, none, 0, 0, none, 0, 0⟩ : TmL).blocks, ∀ k, v.ownBlock = some k → B ≤ k := by
  intro v hv
  simp only [TmL.blocks, List.mem_cons, List.not_mem_nil, or_false] at hv
  rcases hv with rfl | rfl | rfl | rfl
  · exact hk
  · exact ht
  · intro k h; cases h
  · intro k h; cases h
/-- A term of own rows that has neither list nor mask. -/
theorem tmo_bare {w : World} {base : Nat} {kd rd : Int} {KA TA : Option Addr} {kc tc : Nat} {key text : List UInt8} (hk : OwnB w base (.slice KA key.length kc) key) (ht : OwnB w base (.slice TA text.length tc) text) :
    TmO w base ⟨kd, KA, key.length, kc, TA, text.length, tc, rd, none, 0, 0, none, 0, 0⟩ (enW ⟨kd, key, text, rd, [], []⟩) :=
  ⟨rfl, hk, ht, rfl, ⟨[], rfl, by simp, OwnJ.nil _ _⟩, OwnB.nil _ _⟩
theorem tmn_bare {x : Nat} {kd rd : Int} {KA TA : Option Addr} {km kc tm tc : Nat} (hk : (Value.slice KA km kc).ownBlock ≠ some x) (ht : (Value.slice TA tm tc).ownBlock ≠ some x) :
    TmN x ⟨kd, KA, km, kc, TA, tm, tc, rd, none, 0, 0, none, 0, 0⟩ := by
  intro v hv
  simp only [TmL.blocks, List.mem_cons, List.not_mem_nil, or_false] at hv
  rcases hv with rfl | rfl | rfl | rfl
  · exact hk
  · exact ht
  · intro h; cases h
  · intro h; cases h
set_option maxHeartbeats 4000000 in
theorem hash_refE {w : World} {base x : Nat} {V : Value} {sym full : Bool} {T : List TmL} {es : List EnL} (h : XB w base x V sym full T (es.map enW)) (hg : ∀ e ∈ es, EnG e) (tv : Value) (text : List UInt8) (ht : Sl w w.heap.size tv text) (htl : text.length ≤ 100000) (hT : TabB w) (hG : 2 < w.heap.size) :
    Calls Tryz.prog 28 #[.pointer (some ⟨x, 0, none⟩), tv] w (RfR w base x V T sym (anE sym es (hashE text) (sumL text)) (nfE sym full es (hashE text)) (neE sym es (hashE text))) := by
  have k0 : w.cell? ⟨x, 0, none⟩ = some (.bool sym) := h.blk.at (o := 0) rfl
  have HX := Lib.hid h
  have HZ := Lib.hid (show x < w.heap.size ∧ base ≤ x from ⟨h.blk.lt, h.bx⟩)
  have HG := Lib.hid hg
  cases sym with
  | true =>
    have HC2 := Lib.hid (copy_any w.heap.size tv text w ht (Nat.le_refl _) (by omega))
    obtain ⟨A', c', rfl, -⟩ := ht
    clear h hg hT
    go_enter Tryz.func28, Tryz.ntmps28
    go_wp2_with fail
    refine HC2.out.mono ?_
    rintro e w2 ⟨v2, rfl, hO2, hb2⟩
    have HO2 := Lib.hid hO2
    have HB2 := Lib.hid hb2
    obtain ⟨A2, c2, rfl, -⟩ := hO2.sl
    clear hO2 hb2 HC2 k0
    go_wp2_with fail
    refine (tag_refE (HX.out.below HB2.out) HG.out (hashE text) (EnG.bare rfl) ⟨1, none, ([] : List UInt8).length, 0, A2, text.length, c2, 0, none, 0, 0, none, 0, 0⟩ (tmo_bare (OwnB.nil _ _) (HO2.out.lower (by have := HZ.out; omega))) (tmn_bare (fun e => by cases e) (fun e => by have := (HO2.out.lt x e).1; have := HZ.out; omega)) w HB2.out (tm0_bare (fun k e => by cases e) (fun k e => (HO2.out.lt k e).1))).mono ?_
    intro e w3 hR
    have HR := Lib.hid hR
    obtain ⟨v3, V3, T3, rfl, -⟩ := hR
    go_wp2_with fail
    go_ret
    exact HR.out
  | false =>
    have HC2 := Lib.hid (refSum_any w.heap.size tv text w hT hG ht (Nat.le_refl _) htl)
    obtain ⟨A', c', rfl, -⟩ := ht
    clear h hg hT
    go_enter Tryz.func28, Tryz.ntmps28
    go_wp2_with fail
    refine HC2.out.mono ?_
    rintro e w2 ⟨v2, rfl, hO2, hb2⟩
    have HR := Lib.hid (show RfR w base x V T false (sumL text) full es (.returned v2) w2 from ⟨v2, V, T, rfl, hO2, HX.out.below hb2, Trs.of_below hb2, NwT.refl _ _ _, fun k e hk => by have h1 := (hO2.lt k e).1; have h2 := HX.out.rBlt k hk; omega⟩)
    clear hO2 hb2
    go_wp2_with fail
    go_ret
    exact HR.out
set_option maxHeartbeats 4000000 in
theorem mac_refE {w : World} {base x : Nat} {V : Value} {sym full : Bool} {T : List TmL} {es : List EnL} (h : XB w base x V sym full T (es.map enW)) (hg : ∀ e ∈ es, EnG e) (kv tv : Value) (key text : List UInt8) (hk : Sl w w.heap.size kv key) (ht : Sl w w.heap.size tv text) (hkl : key.length ≤ 1000) (htl : text.length ≤ 1000) (hT : TabB w) (hG : 2 < w.heap.size) :
    Calls Tryz.prog 29 #[.pointer (some ⟨x, 0, none⟩), kv, tv] w (RfR w base x V T sym (anE sym es (macE key text) (hm key text)) (nfE sym full es (macE key text)) (neE sym es (macE key text))) := by
  have k0 : w.cell? ⟨x, 0, none⟩ = some (.bool sym) := h.blk.at (o := 0) rfl
  have HX := Lib.hid h
  have HZ := Lib.hid (show x < w.heap.size ∧ base ≤ x from ⟨h.blk.lt, h.bx⟩)
  have HG := Lib.hid hg
  cases sym with
  | true =>
    have HC1 := Lib.hid (copy_any w.heap.size kv key w hk (Nat.le_refl _) (by omega))
    have HC2 := Lib.hid (fun (W : World) (hb : Below w.heap.size w W) => copy_any w.heap.size tv text W (ht.below hb (Nat.le_refl _)) hb.size (by omega))
    obtain ⟨A, c, rfl, -⟩ := hk
    obtain ⟨A', c', rfl, -⟩ := ht
    clear h hg hT
    go_enter Tryz.func29, Tryz.ntmps29
    go_wp2_with fail
    refine HC1.out.mono ?_
    rintro e w1 ⟨v1, rfl, hO1, hb1⟩
    have HO1 := Lib.hid hO1
    have HB1 := Lib.hid hb1
    obtain ⟨A1, c1, rfl, -⟩ := hO1.sl
    clear hO1 hb1 HC1 k0
    go_wp2_with fail
    refine (HC2.out w1 HB1.out).mono ?_
    rintro e w2 ⟨v2, rfl, hO2, hb2⟩
    have HO2 := Lib.hid hO2
    have HB2 := Lib.hid (HB1.out.trans (hb2.mono HB1.out.size))
    have HO1' := Lib.hid (HO1.out.below hb2)
    obtain ⟨A2, c2, rfl, -⟩ := hO2.sl
    have HS1 := Lib.hid HB1.out.size
    clear hO2 hb2 HC2
    go_wp2_with fail
    refine (tag_refE (HX.out.below HB2.out) HG.out (macE key text) (EnG.bare rfl) ⟨2, A1, key.length, c1, A2, text.length, c2, 0, none, 0, 0, none, 0, 0⟩ (tmo_bare (HO1'.out.lower (by have := HZ.out; omega)) (HO2.out.lower (by have := HZ.out; have := HS1.out; omega))) (tmn_bare (fun e => by have := (HO1'.out.lt x e).1; have := HZ.out; omega) (fun e => by have := (HO2.out.lt x e).1; have := HZ.out; have := HS1.out; omega)) w HB2.out (tm0_bare (fun k e => (HO1'.out.lt k e).1) (fun k e => Nat.le_trans HS1.out (HO2.out.lt k e).1))).mono ?_
    intro e w3 hR
    have HR := Lib.hid hR
    obtain ⟨v3, V3, T3, rfl, -⟩ := hR
    go_wp2_with fail
    go_ret
    exact HR.out
  | false =>
    have HC2 := Lib.hid (refHm_any w.heap.size kv tv key text w hT hG hk ht (Nat.le_refl _) (by omega) (by omega))
    obtain ⟨A, c, rfl, -⟩ := hk
    obtain ⟨A', c', rfl, -⟩ := ht
    clear h hg hT
    go_enter Tryz.func29, Tryz.ntmps29
    go_wp2_with fail
    refine HC2.out.mono ?_
    rintro e w2 ⟨v2, rfl, hO2, hb2⟩
    have HR := Lib.hid (show RfR w base x V T false (hm key text) full es (.returned v2) w2 from ⟨v2, V, T, rfl, hO2, HX.out.below hb2, Trs.of_below hb2, NwT.refl _ _ _, fun k e hk => by have h1 := (hO2.lt k e).1; have h2 := HX.out.rBlt k hk; omega⟩)
    clear hO2 hb2
    go_wp2_with fail
    go_ret
    exact HR.out
set_option maxHeartbeats 4000000 in
theorem str_refE {w : World} {base x : Nat} {V : Value} {sym full : Bool} {T : List TmL} {es : List EnL} (h : XB w base x V sym full T (es.map enW)) (hg : ∀ e ∈ es, EnG e) (kv tv : Value) (key text : List UInt8) (r : Nat) (hk : Sl w w.heap.size kv key) (ht : Sl w w.heap.size tv text) (hkl : key.length ≤ 1000) (htl : text.length ≤ 1000) (hT : TabB w) (hG : 2 < w.heap.size) (h1 : 1 ≤ r) (h64 : r ≤ 64) :
    Calls Tryz.prog 30 #[.pointer (some ⟨x, 0, none⟩), kv, tv, .int .i64 (r : Int)] w (RfR w base x V T sym (anE sym es (strE key text (r : Int)) (keyS key text r 32)) (nfE sym full es (strE key text (r : Int))) (neE sym es (strE key text (r : Int)))) := by
  have k0 : w.cell? ⟨x, 0, none⟩ = some (.bool sym) := h.blk.at (o := 0) rfl
  have HX := Lib.hid h
  have HZ := Lib.hid (show x < w.heap.size ∧ base ≤ x from ⟨h.blk.lt, h.bx⟩)
  have HG := Lib.hid hg
  have hr1 : ¬ (r : Int) < 1 := by omega
  have hr2 : ¬ (64 : Int) < (r : Int) := by omega
  cases sym with
  | true =>
    have HC1 := Lib.hid (copy_any w.heap.size kv key w hk (Nat.le_refl _) (by omega))
    have HC2 := Lib.hid (fun (W : World) (hb : Below w.heap.size w W) => copy_any w.heap.size tv text W (ht.below hb (Nat.le_refl _)) hb.size (by omega))
    obtain ⟨A, c, rfl, -⟩ := hk
    obtain ⟨A', c', rfl, -⟩ := ht
    clear h hg hT
    go_enter Tryz.func30, Tryz.ntmps30
    go_wp2_with fail
    refine HC1.out.mono ?_
    rintro e w1 ⟨v1, rfl, hO1, hb1⟩
    have HO1 := Lib.hid hO1
    have HB1 := Lib.hid hb1
    obtain ⟨A1, c1, rfl, -⟩ := hO1.sl
    clear hO1 hb1 HC1 k0
    go_wp2_with fail
    refine (HC2.out w1 HB1.out).mono ?_
    rintro e w2 ⟨v2, rfl, hO2, hb2⟩
    have HO2 := Lib.hid hO2
    have HB2 := Lib.hid (HB1.out.trans (hb2.mono HB1.out.size))
    have HO1' := Lib.hid (HO1.out.below hb2)
    obtain ⟨A2, c2, rfl, -⟩ := hO2.sl
    have HS1 := Lib.hid HB1.out.size
    clear hO2 hb2 HC2
    go_wp2_with fail
    refine (tag_refE (HX.out.below HB2.out) HG.out (strE key text (r : Int)) (EnG.bare rfl) ⟨3, A1, key.length, c1, A2, text.length, c2, (r : Int), none, 0, 0, none, 0, 0⟩ (tmo_bare (HO1'.out.lower (by have := HZ.out; omega)) (HO2.out.lower (by have := HZ.out; have := HS1.out; omega))) (tmn_bare (fun e => by have := (HO1'.out.lt x e).1; have := HZ.out; omega) (fun e => by have := (HO2.out.lt x e).1; have := HZ.out; have := HS1.out; omega)) w HB2.out (tm0_bare (fun k e => (HO1'.out.lt k e).1) (fun k e => Nat.le_trans HS1.out (HO2.out.lt k e).1))).mono ?_
    intro e w3 hR
    have HR := Lib.hid hR
    obtain ⟨v3, V3, T3, rfl, -⟩ := hR
    go_wp2_with fail
    go_ret
    exact HR.out
  | false =>
    have HC2 := Lib.hid (refStretch_own w.heap.size kv tv key text r 32 (r : Int) 32 w hk ht (Nat.le_refl _) (by omega) (by omega) hT hG rfl rfl h1 h64 (by omega) (by omega))
    obtain ⟨A, c, rfl, -⟩ := hk
    obtain ⟨A', c', rfl, -⟩ := ht
    clear h hg hT
    go_enter Tryz.func30, Tryz.ntmps30
    go_wp2_with fail
    refine HC2.out.mono ?_
    rintro e w2 ⟨v2, rfl, hO2, hb2⟩
    have HR := Lib.hid (show RfR w base x V T false (keyS key text r 32) full es (.returned v2) w2 from ⟨v2, V, T, rfl, hO2, HX.out.below hb2, Trs.of_below hb2, NwT.refl _ _ _, fun k e hk => by have h1 := (hO2.lt k e).1; have h2 := HX.out.rBlt k hk; omega⟩)
    clear hO2 hb2
    go_wp2_with fail
    go_ret
    exact HR.out
/-- Stretch by rounds that may not be: nothing. -/
theorem str_refBad (w : World) (x : Value) (kv tv : Value) (r : Int) (h : r < 1 ∨ 64 < r) :
    Calls Tryz.prog 30 #[x, kv, tv, .int .i64 r] w fun e w' => e = .returned (.slice none 0 0) ∧ w = w' := by
  by_cases h1 : r < 1
  · go_enter Tryz.func30, Tryz.ntmps30
    go_wp2_with fail
    go_ret
    exact ⟨rfl, rfl⟩
  · have h2 : 64 < r := by omega
    go_enter Tryz.func30, Tryz.ntmps30
    go_wp2_with fail
    go_ret
    exact ⟨rfl, rfl⟩
end Go.Proofs.YtlnjpmpddomjiaaGreatDoor
set_option maxRecDepth 100000
namespace Go.Proofs.YtlnjpmpddomjiaaGreatDoor
open Go.RowKit
attribute [local go_sem] Oper.semAt_some
theorem four32 {l : List UInt8} (h : l.length = 32) : ∃ a b c d, l.drop 28 = [a, b, c, d] := by
  have h3 : (l.drop 28).length = 4 := by rw [List.length_drop]; omega
  match hd : l.drop 28, h3 with
  | [a, b, c, d], _ => exact ⟨a, b, c, d, rfl⟩
theorem refLooks_any (B : Nat) (v : Value) (l : List UInt8) (w : World) (hv : Sl w B v l) (hB : B ≤ w.heap.size) :
    Calls Tryz.prog 54 #[v] w fun e w' => e = .returned (.tuple #[.int .i64 (tagN l : Int), .bool (looks l)]) ∧ Below w.heap.size w w' := by
  by_cases hl : l.length = 32
  · obtain ⟨a, b, c, d, hd⟩ := four32 hl
    refine (refLooks_full B v l w hv hB hl a b c d hd).mono ?_
    rintro e w' ⟨rfl, hb⟩
    refine ⟨?_, hb⟩
    cases hk : looks l with
    | true => rw [tagN_yes hk hd]; rfl
    | false => rw [tagN_no hk]; rfl
  · have hk : looks l = false := by unfold looks; rw [beq_eq_false_iff_ne.2 hl]; rfl
    refine (refLooks_short B v l w hv hl).mono ?_
    rintro e w' ⟨rfl, hb⟩
    rw [tagN_no hk, hk]
    exact ⟨rfl, hb⟩
set_option maxHeartbeats 1000000 in
theorem refIn_any (B : Nat) (v : Value) (ls : List Nat) (n : Nat) (w : World) (hv : JS w B v ls) (hl : ls.length ≤ 100000) :
    Calls Tryz.prog 52 #[v, .int .i64 (n : Int)] w fun e w' => e = .returned (.bool (decide (n ∈ ls))) ∧ w = w' := by
  obtain ⟨A, c, rfl, _, h1, h2, h3⟩ := hv
  have H3 := Lib.hid h3
  clear h3
  obtain ⟨RES, hR⟩ : ∃ R : Bool, R = decide (n ∈ ls) := ⟨_, rfl⟩
  have HR := Lib.hid hR
  rw [← hR]
  clear hR
  go_enter Tryz.func52, Tryz.ntmps52
  go_wp2_with fail
  go_loop [6, 9] (fun _ i => ∃ k : Nat, k ≤ ls.length ∧ i = .int .i64 (k : Int) ∧ ∀ j (hj : j < ls.length), j < k → ls[j] ≠ n) (fun _ i => ls.length - (intOf i).toNat)
  case atStart => exact ⟨0, by omega, rfl, fun j hj h => by omega⟩
  case round =>
    obtain ⟨k, hk, rfl, hno⟩ := hrel
    have HNO := Lib.hid hno
    clear hno
    by_cases hlt : k < ls.length
    · obtain ⟨g, o, hA, hg, hc⟩ := H3.out (by omega)
      subst hA
      have hck := hc k hlt
      obtain ⟨y, hy⟩ : ∃ y, y = ls[k] := ⟨_, rfl⟩
      rw [← hy] at hck
      unfold jv at hck
      by_cases he : y = n
      · have HF := Lib.hid (show RES = true from by rw [HR.out]; exact decide_eq_true (he ▸ hy ▸ List.getElem_mem hlt))
        subst he
        clear hc hy
        go_wp2_with fail
        go_ret
        exact ⟨by rw [HF.out]; rfl, rfl⟩
      · have hne : ((y : Int) == (n : Int)) = false := by rw [beq_eq_false_iff_ne]; omega
        have hne2 : ¬ (y : Int) = (n : Int) := by omega
        have HS := Lib.hid (show ∀ j (hj : j < ls.length), j < k + 1 → ls[j] ≠ n from fun j hj h => by
          by_cases e : j = k
          · subst e; rw [← hy]; exact he
          · exact HNO.out j hj (by omega))
        clear hc hy
        go_wp2_with fail
        go_round
        case rel => exact ⟨k + 1, by omega, by go_num, HS.out⟩
        case measure => simp [intOf]; omega
    · have HF := Lib.hid (show RES = false from by
        rw [HR.out]
        refine decide_eq_false (fun h => ?_)
        obtain ⟨j, hj, e⟩ := List.mem_iff_getElem.1 h
        exact HNO.out j hj (by omega) e)
      go_wp2_with fail
      go_ret
      exact ⟨by rw [HF.out]; rfl, rfl⟩
end Go.Proofs.YtlnjpmpddomjiaaGreatDoor
set_option maxRecDepth 100000
namespace Go.Proofs.YtlnjpmpddomjiaaGreatDoor
open Go.RowKit
attribute [local go_sem] Oper.semAt_some
/-- What a tag is composed of. -/
def opL (sym : Bool) (es : List EnL) (l : List UInt8) : List Nat × List UInt8 := if sym then suL es l else ([], l)
/-- What open tells of a tag. -/
def OpR (w : World) (ns : List Nat) (mk : List UInt8) (r : Ending) (w' : World) : Prop :=
  ∃ v1 v2, r = .returned (.tuple #[v1, v2, .bool true]) ∧ JS w' w'.heap.size v1 ns ∧ Sl w' w'.heap.size v2 mk ∧ Below w.heap.size w w'
theorem open_long (w : World) (x v : Value) (l : List UInt8) (hv : Sl w w.heap.size v l) (hl : l.length ≠ 32) :
    Calls Tryz.prog 51 #[x, v] w fun e w' => e = .returned (.tuple #[.slice none 0 0, .slice none 0 0, .bool false]) ∧ Below w.heap.size w w' := by
  obtain ⟨A, c, rfl, -⟩ := hv
  have h1 : ((l.length : Int) == 32) = false := by rw [beq_eq_false_iff_ne]; omega
  have h2 : ¬ (l.length : Int) = 32 := by omega
  go_enter Tryz.func51, Tryz.ntmps51
  go_wp2_with fail
  go_ret3
  exact ⟨rfl, Below.refl _ _⟩
set_option maxHeartbeats 2000000 in
/-- A tag that is bytes of its own: none of them says a handle, or the Box is plain. -/
theorem open_raw {w : World} {base x : Nat} {V : Value} {sym full : Bool} {T : List TmL} {ts : List TmV} (h : XB w base x V sym full T ts) (v : Value) (l : List UInt8) (hv : Sl w w.heap.size v l) (hl : l.length = 32) (hk : sym = false ∨ looks l = false) :
    Calls Tryz.prog 51 #[.pointer (some ⟨x, 0, none⟩), v] w (OpR w [] l) := by
  have HX := Lib.hid h
  have HLK := Lib.hid (refLooks_any w.heap.size v l w hv (Nat.le_refl _))
  have HC := Lib.hid (fun (W : World) (hb : Below w.heap.size w W) => copy_any w.heap.size v l W (hv.below hb (Nat.le_refl _)) hb.size (by omega))
  obtain ⟨A, c, rfl, -⟩ := hv
  obtain ⟨N, hN⟩ : ∃ N : Int, N = (tagN l : Int) := ⟨_, rfl⟩
  obtain ⟨K, hK⟩ : ∃ K, K = looks l := ⟨_, rfl⟩
  rw [← hN, ← hK] at HLK
  rw [← hK] at hk
  rw [hl] at HLK HC ⊢
  have HL := Lib.hid hl
  clear hN hK h hl
  cases sym with
  | false =>
    clear hk
    go_enter Tryz.func51, Tryz.ntmps51
    go_wp2_with fail
    refine HLK.out.mono ?_
    rintro e w1 ⟨rfl, hb1⟩
    have HB1 := Lib.hid hb1
    have k0 : w1.cell? ⟨x, 0, none⟩ = some (.bool false) := (HX.out.below hb1).blk.at (o := 0) rfl
    clear hb1
    go_wp2_with fail
    refine (HC.out w1 HB1.out).mono ?_
    rintro e w2 ⟨v2, rfl, hO, hb2⟩
    have HO := Lib.hid hO
    have HB2 := Lib.hid (HB1.out.trans (hb2.mono HB1.out.size))
    clear hO hb2
    go_wp2_with fail
    go_ret3
    exact ⟨_, _, rfl, JS.nil _ _, HO.out.sl, HB2.out⟩
  | true =>
    obtain rfl : K = false := by simpa using hk
    clear hk
    go_enter Tryz.func51, Tryz.ntmps51
    go_wp2_with fail
    refine HLK.out.mono ?_
    rintro e w1 ⟨rfl, hb1⟩
    have HB1 := Lib.hid hb1
    have k0 : w1.cell? ⟨x, 0, none⟩ = some (.bool true) := (HX.out.below hb1).blk.at (o := 0) rfl
    clear hb1
    go_wp2_with fail
    refine (HC.out w1 HB1.out).mono ?_
    rintro e w2 ⟨v2, rfl, hO, hb2⟩
    have HO := Lib.hid hO
    have HB2 := Lib.hid (HB1.out.trans (hb2.mono HB1.out.size))
    clear hO hb2
    go_wp2_with fail
    go_ret3
    exact ⟨_, _, rfl, JS.nil _ _, HO.out.sl, HB2.out⟩
set_option maxHeartbeats 2000000 in
/-- A handle that there is none of. -/
theorem open_none {w : World} {base x : Nat} {V : Value} {full : Bool} {T : List TmL} {ts : List TmV} (h : XB w base x V true full T ts) (v : Value) (l : List UInt8) (hv : Sl w w.heap.size v l) (hl : l.length = 32) (hk : looks l = true) (hn : tagN l = 0 ∨ ts.length < tagN l) :
    Calls Tryz.prog 51 #[.pointer (some ⟨x, 0, none⟩), v] w fun e w' => e = .returned (.tuple #[.slice none 0 0, .slice none 0 0, .bool false]) ∧ Below w.heap.size w w' := by
  have HX := Lib.hid h
  have HLK := Lib.hid (refLooks_any w.heap.size v l w hv (Nat.le_refl _))
  obtain ⟨A, c, rfl, -⟩ := hv
  obtain ⟨N, hN⟩ : ∃ N : Nat, N = tagN l := ⟨_, rfl⟩
  rw [← hN, hk] at HLK
  rw [← hN] at hn
  rw [hl] at HLK ⊢
  obtain ⟨RA, rc, rfl, hrc1, hrc2⟩ := h.own.form
  have hTl := h.len
  clear hN hk h hl
  rcases hn with rfl | hn
  · go_enter Tryz.func51, Tryz.ntmps51
    go_wp2_with fail
    refine HLK.out.mono ?_
    rintro e w1 ⟨rfl, hb1⟩
    have HB1 := Lib.hid hb1
    have k0 : w1.cell? ⟨x, 0, none⟩ = some (.bool true) := (HX.out.below hb1).blk.at (o := 0) rfl
    clear hb1
    go_wp2_with fail
    go_ret3
    exact ⟨rfl, HB1.out⟩
  · have hn1 : ¬ (N : Int) < 1 := by omega
    have hn2 : (T.length : Int) < (N : Int) := by omega
    go_enter Tryz.func51, Tryz.ntmps51
    go_wp2_with fail
    refine HLK.out.mono ?_
    rintro e w1 ⟨rfl, hb1⟩
    have HB1 := Lib.hid hb1
    have k0 : w1.cell? ⟨x, 0, none⟩ = some (.bool true) := (HX.out.below hb1).blk.at (o := 0) rfl
    have k1 : w1.cell? ⟨x, 1, none⟩ = some (.slice RA T.length rc) := (HX.out.below hb1).blk.at (o := 1) rfl
    clear hb1
    go_wp2_with fail
    go_ret3
    exact ⟨rfl, HB1.out⟩
end Go.Proofs.YtlnjpmpddomjiaaGreatDoor
set_option maxRecDepth 100000
namespace Go.Proofs.YtlnjpmpddomjiaaGreatDoor
open Go.RowKit
attribute [local go_sem] Oper.semAt_some
theorem drawn (w : World) (q : Nat) : Below w.heap.size w (w.drewN q) := ⟨rfl, rfl, rfl, Nat.le_refl _, fun _ _ => rfl⟩
theorem js_one {X : World} {b k : Nat} (h : Blk X b [.int .i64 ((k : Int) + 1)]) : JS X X.heap.size (.slice (some ⟨b, 0, none⟩) 1 1) [k + 1] :=
  ⟨_, 1, rfl, (fun h => by cases h), by simp, by omega, fun _ => ⟨b, 0, rfl, h.lt, fun j hj => by
    match j, hj with
    | 0, _ => exact h.at (o := 0) rfl⟩⟩
set_option maxHeartbeats 4000000 in
theorem open_turn {w : World} {base x k : Nat} {V : Value} {full : Bool} {T : List TmL} {ts : List TmV} (h : XB w base x V true full T ts) (v : Value) (l : List UInt8) (hv : Sl w w.heap.size v l) (hl : l.length = 32) (hk : looks l = true) (ht : tagN l = k + 1) (hkT : k < T.length) (hkt : k < ts.length) (h4 : ts[k].kind = 4) :
    Calls Tryz.prog 51 #[.pointer (some ⟨x, 0, none⟩), v] w fun r w' => ∃ ns : List Nat, ts[k].lst = ns.map Int.ofNat ∧ OpR w ns ts[k].mask r w' := by
  have HX := Lib.hid h
  have HLK := Lib.hid (refLooks_any w.heap.size v l w hv (Nat.le_refl _))
  obtain ⟨A, c, rfl, -⟩ := hv
  rw [ht, hk] at HLK
  rw [hl] at HLK ⊢
  obtain ⟨RA, rc, rfl, hrc1, hrc2⟩ := h.own.form
  have HT := Lib.hid (h.tm k hkT hkt)
  have HIN := Lib.hid h.own.tmIn
  have hTl : T.length ≤ 4096 := by rw [h.len]; exact h.le
  clear h hl hk ht
  have hn1 : ¬ ((k + 1 : Nat) : Int) < 1 := by omega
  have hn2 : ¬ (T.length : Int) < ((k + 1 : Nat) : Int) := by omega
  have hcast : ((k + 1 : Nat) : Int) - 1 = (k : Int) := by omega
  go_enter Tryz.func51, Tryz.ntmps51
  go_wp2_with fail
  refine HLK.out.mono ?_
  rintro e w1 ⟨rfl, hb1⟩
  have HB1 := Lib.hid hb1
  have k0 : w1.cell? ⟨x, 0, none⟩ = some (.bool true) := (HX.out.below hb1).blk.at (o := 0) rfl
  have k1 : w1.cell? ⟨x, 1, none⟩ = some (.slice RA T.length rc) := (HX.out.below hb1).blk.at (o := 1) rfl
  obtain ⟨g, o, hA, hgl, c0, c1, c2, c3, c4, c5⟩ := (HIN.out.below hb1 (Nat.le_refl _)).six k hkT
  subst hA
  obtain ⟨y, hy⟩ : ∃ y, y = T[k] := ⟨_, rfl⟩
  rw [← hy] at c0 c1 c2 c3 c4 c5 HT
  obtain ⟨kd, KA, km, kc, TA, tm, tc, rd, LA, lm, lc, MA, mm, mc⟩ := y
  simp only at c0 c1 c2 c3 c4 c5
  have hkd : kd = ts[k].kind := HT.out.kind
  obtain rfl : kd = 4 := hkd.trans h4
  clear hb1 hy hkd h4
  go_wp2_with fail
  obtain ⟨W2, hW2⟩ : ∃ W2, W2 = w1.alloc (.cells #[.int .i64 4, .slice KA km kc, .slice TA tm tc, .int .i64 rd, .slice LA lm lc, .slice MA mm mc] tTm) := ⟨_, rfl⟩
  have hb2 : Below w1.heap.size w1 W2 := by rw [hW2]; exact (Below.refl _ _).alloc (Nat.le_refl _) _
  have hbk : Blk W2 w1.heap.size [.int .i64 4, .slice KA km kc, .slice TA tm tc, .int .i64 rd, .slice LA lm lc, .slice MA mm mc] := by rw [hW2]; exact Blk.new w1 _ tTm
  have HB2 := Lib.hid (HB1.out.trans (hb2.mono HB1.out.size))
  have b4 := hbk.at (o := 4) rfl
  have b5 := hbk.at (o := 5) rfl
  rw [← hW2]
  clear hW2 k0 k1 c0 c1 c2 c3 c4 c5 hb2 hbk
  go_quiet (fail)
  go_wp2_with fail
  go_ret3
  obtain ⟨ns, e1, e2, e3⟩ := (HT.out.below HB2.out).lst
  exact ⟨ns, e1, _, _, rfl, e3.js.below (drawn W2 nq) (Nat.le_refl _), (HT.out.below HB2.out).mask.sl.below (drawn W2 nq) (Nat.le_refl _), HB2.out.trans ((drawn W2 nq).mono HB2.out.size)⟩
set_option maxHeartbeats 4000000 in
theorem open_one {w : World} {base x k : Nat} {V : Value} {full : Bool} {T : List TmL} {ts : List TmV} (h : XB w base x V true full T ts) (v : Value) (l : List UInt8) (hv : Sl w w.heap.size v l) (hl : l.length = 32) (hk : looks l = true) (ht : tagN l = k + 1) (hkT : k < T.length) (hkt : k < ts.length) (h4 : ts[k].kind ≠ 4) :
    Calls Tryz.prog 51 #[.pointer (some ⟨x, 0, none⟩), v] w (OpR w [k + 1] noughtsL) := by
  have HX := Lib.hid h
  have HLK := Lib.hid (refLooks_any w.heap.size v l w hv (Nat.le_refl _))
  obtain ⟨A, c, rfl, -⟩ := hv
  rw [ht, hk] at HLK
  rw [hl] at HLK ⊢
  obtain ⟨RA, rc, rfl, hrc1, hrc2⟩ := h.own.form
  have HT := Lib.hid (h.tm k hkT hkt)
  have HIN := Lib.hid h.own.tmIn
  have hTl : T.length ≤ 4096 := by rw [h.len]; exact h.le
  clear h hl hk ht
  have hn1 : ¬ ((k + 1 : Nat) : Int) < 1 := by omega
  have hn2 : ¬ (T.length : Int) < ((k + 1 : Nat) : Int) := by omega
  have hcast : ((k + 1 : Nat) : Int) - 1 = (k : Int) := by omega
  go_enter Tryz.func51, Tryz.ntmps51
  go_wp2_with fail
  refine HLK.out.mono ?_
  rintro e w1 ⟨rfl, hb1⟩
  have HB1 := Lib.hid hb1
  have k0 : w1.cell? ⟨x, 0, none⟩ = some (.bool true) := (HX.out.below hb1).blk.at (o := 0) rfl
  have k1 : w1.cell? ⟨x, 1, none⟩ = some (.slice RA T.length rc) := (HX.out.below hb1).blk.at (o := 1) rfl
  obtain ⟨g, o, hA, hgl, c0, c1, c2, c3, c4, c5⟩ := (HIN.out.below hb1 (Nat.le_refl _)).six k hkT
  subst hA
  obtain ⟨y, hy⟩ : ∃ y, y = T[k] := ⟨_, rfl⟩
  rw [← hy] at c0 c1 c2 c3 c4 c5 HT
  obtain ⟨kd, KA, km, kc, TA, tm, tc, rd, LA, lm, lc, MA, mm, mc⟩ := y
  simp only at c0 c1 c2 c3 c4 c5
  have hkd : kd = ts[k].kind := HT.out.kind
  have hne : (kd == (4 : Int)) = false := by rw [beq_eq_false_iff_ne, hkd]; exact h4
  have hne2 : ¬ kd = 4 := by rw [hkd]; exact h4
  clear hb1 hy hkd h4
  go_wp2_with fail
  obtain ⟨W2, hW2⟩ : ∃ W2, W2 = w1.alloc (.cells #[.int .i64 kd, .slice KA km kc, .slice TA tm tc, .int .i64 rd, .slice LA lm lc, .slice MA mm mc] tTm) := ⟨_, rfl⟩
  have hb2 : Below w1.heap.size w1 W2 := by rw [hW2]; exact (Below.refl _ _).alloc (Nat.le_refl _) _
  have HB2 := Lib.hid (HB1.out.trans (hb2.mono HB1.out.size))
  rw [← hW2]
  clear hW2 k0 k1 c0 c1 c2 c3 c4 c5 hb2
  have hmk : ∀ W : World, (Instr.makeSlice 34 (.int .i64 32) (.int .i64 32)).run Tryz.prog W = .ok (.slice (some ⟨W.heap.size, 0, none⟩) 32 32) (W.alloc (.cells (noughts 32) 5)) := make_bytes 32 32 (by omega) (by omega)
  go_region
  · have hF : Below w.heap.size w ((W2.alloc (.cells #[.int .i64 ((k : Int) + 1)] 3)).alloc (.cells (noughts 32) 5)).drew ∧ JS ((W2.alloc (.cells #[.int .i64 ((k : Int) + 1)] 3)).alloc (.cells (noughts 32) 5)).drew ((W2.alloc (.cells #[.int .i64 ((k : Int) + 1)] 3)).alloc (.cells (noughts 32) 5)).drew.heap.size (.slice (some ⟨W2.heap.size, 0, none⟩) 1 1) [k + 1] ∧ Sl ((W2.alloc (.cells #[.int .i64 ((k : Int) + 1)] 3)).alloc (.cells (noughts 32) 5)).drew ((W2.alloc (.cells #[.int .i64 ((k : Int) + 1)] 3)).alloc (.cells (noughts 32) 5)).drew.heap.size (.slice (some ⟨W2.heap.size + 1, 0, none⟩) 32 32) noughtsL := by
      refine ⟨((HB2.out.alloc HB2.out.size _).alloc (by have := HB2.out.size; simp; omega) _).drew, js_one ((Blk.new W2 [.int .i64 ((k : Int) + 1)] _).below (((Below.refl _ _).alloc (Nat.le_refl _) _).drew) (by simp)), ?_⟩
      have := (noughts_ownT (W2.alloc (.cells #[.int .i64 ((k : Int) + 1)] 3))).sl.below ((Below.refl _ _).drew) (Nat.le_refl _)
      rw [show (W2.alloc (.cells #[.int .i64 ((k : Int) + 1)] 3)).heap.size = W2.heap.size + 1 from World.size_alloc ..] at this
      exact this.more (by simp)
    have HF := Lib.hid hF
    clear hF
    go_wp2_with fail
    go_ret3
    exact ⟨_, _, rfl, HF.out.2.1, HF.out.2.2, HF.out.1⟩
  · have hF : Below w.heap.size w ((W2.alloc (.cells (noughts 32) 5)).alloc (.cells #[.int .i64 ((k : Int) + 1)] 3)).drew ∧ JS ((W2.alloc (.cells (noughts 32) 5)).alloc (.cells #[.int .i64 ((k : Int) + 1)] 3)).drew ((W2.alloc (.cells (noughts 32) 5)).alloc (.cells #[.int .i64 ((k : Int) + 1)] 3)).drew.heap.size (.slice (some ⟨W2.heap.size + 1, 0, none⟩) 1 1) [k + 1] ∧ Sl ((W2.alloc (.cells (noughts 32) 5)).alloc (.cells #[.int .i64 ((k : Int) + 1)] 3)).drew ((W2.alloc (.cells (noughts 32) 5)).alloc (.cells #[.int .i64 ((k : Int) + 1)] 3)).drew.heap.size (.slice (some ⟨W2.heap.size, 0, none⟩) 32 32) noughtsL := by
      refine ⟨((HB2.out.alloc HB2.out.size _).alloc (by have := HB2.out.size; simp; omega) _).drew, ?_, ?_⟩
      · have h : Blk ((W2.alloc (.cells (noughts 32) 5)).alloc (.cells #[.int .i64 ((k : Int) + 1)] 3)) (W2.heap.size + 1) [.int .i64 ((k : Int) + 1)] := Blk.newAt (W2.alloc (.cells (noughts 32) 5)) _ _ (by simp) rfl
        exact js_one h.drew
      · exact ((noughts_ownT W2).sl.below (((Below.refl _ _).alloc (Nat.le_refl _) _).drew) (Nat.le_refl _)).more (by simp)
    have HF := Lib.hid hF
    clear hF
    go_wp2_with fail
    go_ret3
    exact ⟨_, _, rfl, HF.out.2.1, HF.out.2.2, HF.out.1⟩
/-- open at any tag that Turn takes. -/
theorem open_any {w : World} {base x : Nat} {V : Value} {sym full : Bool} {T : List TmL} {es : List EnL} (h : XB w base x V sym full T (es.map enW)) (v : Value) (l : List UInt8) (hv : Sl w w.heap.size v l) (ht : isTagL sym es.length l = true) :
    Calls Tryz.prog 51 #[.pointer (some ⟨x, 0, none⟩), v] w (OpR w (opL sym es l).1 (opL sym es l).2) := by
  unfold isTagL at ht
  rw [Bool.and_eq_true] at ht
  obtain ⟨h1, h2⟩ := ht
  have hl : l.length = 32 := of_decide_eq_true h1
  unfold opL
  cases sym with
  | false => exact open_raw h v l hv hl (.inl rfl)
  | true =>
    rw [if_pos rfl]
    cases hk : looks l with
    | false =>
      have : suL es l = ([], l) := by unfold suL; rw [tagN_no hk]
      rw [this]
      exact open_raw h v l hv hl (.inr hk)
    | true =>
      rw [hk] at h2
      simp only [Bool.not_true, Bool.false_or, Bool.and_eq_true, decide_eq_true_eq] at h2
      obtain ⟨h3, h4⟩ := h2
      obtain ⟨k, hkk⟩ : ∃ k, tagN l = k + 1 := ⟨tagN l - 1, by omega⟩
      have hke : k < es.length := by omega
      have hkt : k < (es.map enW).length := by rw [List.length_map]; exact hke
      have hkT : k < T.length := by rw [h.len]; exact hkt
      have hgt : (es.map enW)[k] = enW es[k] := List.getElem_map ..
      unfold suL
      rw [hkk]
      simp only [List.getElem?_eq_getElem hke]
      by_cases h5 : (es[k]'hke).kind = 4
      · rw [if_pos h5]
        refine (open_turn h v l hv hl hk hkk hkT hkt (by rw [hgt]; exact h5)).mono ?_
        rintro r w' ⟨ns, e1, hR⟩
        rw [hgt] at e1 hR
        have e2 : numsL es[k].lst = ns := by
          have e3 : (numsL es[k].lst).map Int.ofNat = ns.map Int.ofNat := e1
          have := congrArg (List.map Int.toNat) e3
          simpa [List.map_map, Function.comp_def] using this
        rw [e2]
        exact hR
      · rw [if_neg h5]
        exact open_one h v l hv hl hk hkk hkT hkt (by rw [hgt]; exact h5)
/-- open at any other. -/
theorem open_bad {w : World} {base x : Nat} {V : Value} {sym full : Bool} {T : List TmL} {es : List EnL} (h : XB w base x V sym full T (es.map enW)) (v : Value) (l : List UInt8) (hv : Sl w w.heap.size v l) (ht : isTagL sym es.length l = false) :
    Calls Tryz.prog 51 #[.pointer (some ⟨x, 0, none⟩), v] w fun e w' => e = .returned (.tuple #[.slice none 0 0, .slice none 0 0, .bool false]) ∧ Below w.heap.size w w' := by
  by_cases hl : l.length = 32
  · unfold isTagL at ht
    rw [decide_eq_true hl, Bool.true_and] at ht
    cases sym with
    | false => simp at ht
    | true =>
      cases hk : looks l with
      | false => rw [hk] at ht; simp at ht
      | true =>
        rw [hk] at ht
        refine open_none h v l hv hl hk ?_
        rw [List.length_map]
        by_cases h0 : tagN l = 0
        · exact .inl h0
        · refine .inr ?_
          simp at ht
          exact ht (by omega)
  · exact open_long w _ v l hv hl
end Go.Proofs.YtlnjpmpddomjiaaGreatDoor
set_option maxRecDepth 100000
namespace Go.Proofs.YtlnjpmpddomjiaaGreatDoor
open Go.RowKit
attribute [local go_sem] Oper.semAt_some
theorem opL_ok {sym : Bool} {es : List EnL} {l : List UInt8} (h : GE es) (ht : isTagL sym es.length l = true) : (opL sym es l).2.length = 32 ∧ (opL sym es l).1.Pairwise (· < ·) ∧ ∀ n ∈ (opL sym es l).1, 1 ≤ n ∧ n ≤ es.length := by
  unfold isTagL at ht
  rw [Bool.and_eq_true] at ht
  obtain ⟨h1, h2⟩ := ht
  have hl : l.length = 32 := of_decide_eq_true h1
  unfold opL
  cases sym with
  | false => rw [if_neg (by simp)]; exact ⟨hl, by simp, by simp⟩
  | true =>
    rw [if_pos rfl]
    unfold suL
    cases hn : tagN l with
    | zero => exact ⟨hl, by simp, by simp⟩
    | succ n =>
      cases hk : looks l with
      | false => rw [tagN_no hk] at hn; cases hn
      | true =>
        rw [hk, hn] at h2
        simp only [Bool.not_true, Bool.false_or, Bool.and_eq_true, decide_eq_true_eq] at h2
        have hlt : n < es.length := by omega
        simp only [List.getElem?_eq_getElem hlt]
        by_cases h4 : (es[n]'hlt).kind = 4
        · rw [if_pos h4]
          exact ⟨h.mask _ (List.getElem_mem hlt) h4, (h.lt _ (List.getElem_mem hlt)).1, (h.lt _ (List.getElem_mem hlt)).2⟩
        · rw [if_neg h4]
          exact ⟨(show noughtsL.length = 32 from by decide), by simp, by simp; omega⟩
/-- The sum of two tags: numbers and a mask. -/
def tuL (sym : Bool) (es : List EnL) (x y : List UInt8) : List Nat := pickN (opL sym es x).1 (opL sym es y).1 es.length
def tuM (sym : Bool) (es : List EnL) (x y : List UInt8) : List UInt8 := xorL (opL sym es x).2 (opL sym es y).2
/-- What a sum is told by: itself, a handle, or an entry. -/
def rawS (sym : Bool) (L : List Nat) (M : List UInt8) : Bool := decide (L = []) && !(sym && looks M)
def oneS (L : List Nat) (M : List UInt8) : Bool := decide (L.length = 1) && decide (M = noughtsL)
def tgS (sym : Bool) (es : List EnL) (L : List Nat) (M : List UInt8) : List UInt8 := if rawS sym L M then M else if oneS L M then fro ++ len4 (L.headD 0) else tagE es (turnE L M)
def esS (sym : Bool) (es : List EnL) (L : List Nat) (M : List UInt8) : List EnL := if rawS sym L M then es else if oneS L M then es else esE es (turnE L M)
def fuS (sym full : Bool) (es : List EnL) (L : List Nat) (M : List UInt8) : Bool := if rawS sym L M then full else if oneS L M then full else fullE full es (turnE L M)
theorem turnE_g {L : List Nat} {M : List UInt8} (hl : L.length ≤ 4096) (hn : ∀ n ∈ L, n ≤ 4096) : EnG (turnE L M) := ⟨L, rfl, hl, fun n h => by have := hn n h; omega⟩
theorem turnE_nums {L : List Nat} {M : List UInt8} (hn : ∀ n ∈ L, n ≤ 4096) : numsL (turnE L M).lst = L := numsL_flat L (fun n h => by have := hn n h; omega)
/-- Tag of a turned term of own rows. -/
theorem tag_turn {w : World} {base x : Nat} {V : Value} {sym full : Bool} {T : List TmL} {es : List EnL} (h : XB w base x V sym full T (es.map enW)) (hg : ∀ e ∈ es, EnG e) (L : List Nat) (M : List UInt8) (LA MA : Option Addr) (lc mc b : Nat) (hb : base ≤ b) (hxb : x < b) (w0 : World) (hw0 : Below w0.heap.size w0 w) (hwb : w0.heap.size ≤ b) (hl : OwnJ w b (.slice LA L.length lc) L) (hm : OwnB w b (.slice MA M.length mc) M) (hll : L.length ≤ 4096) (hn : ∀ n ∈ L, n ≤ 4096) :
    Calls Tryz.prog 47 #[.pointer (some ⟨x, 0, none⟩), .agg #[.int .i64 4, .slice none 0 0, .slice none 0 0, .int .i64 0, .slice LA L.length lc, .slice MA M.length mc]] w (RfR w0 base x V T sym (tagE es (turnE L M)) (fullE full es (turnE L M)) (esE es (turnE L M))) :=
  tag_refE h hg (turnE L M) (turnE_g hll hn) ⟨4, none, 0, 0, none, 0, 0, 0, LA, L.length, lc, MA, M.length, mc⟩
    ⟨rfl, OwnB.nil _ _, OwnB.nil _ _, rfl, ⟨L, by unfold enW; rw [turnE_nums hn], by omega, hl.le hb⟩, hm.lower hb⟩
    (by
      intro v hv
      simp only [TmL.blocks, List.mem_cons, List.not_mem_nil, or_false] at hv
      rcases hv with rfl | rfl | rfl | rfl
      · intro e; cases e
      · intro e; cases e
      · intro e; have := (hl.lt x e).1; omega
      · intro e; have := (hm.lt x e).1; omega) w0 hw0
    (by
      intro v hv
      simp only [TmL.blocks, List.mem_cons, List.not_mem_nil, or_false] at hv
      rcases hv with rfl | rfl | rfl | rfl
      · intro k e; cases e
      · intro k e; cases e
      · intro k e; exact Nat.le_trans hwb (hl.lt k e).1
      · intro k e; exact Nat.le_trans hwb (hm.lt k e).1)
/-- What open tells of any tag. -/
def OpA (w : World) (b : Bool) (ns : List Nat) (mk : List UInt8) (r : Ending) (w' : World) : Prop :=
  ∃ v1 v2, r = .returned (.tuple #[v1, v2, .bool b]) ∧ (b = true → JS w' w'.heap.size v1 ns ∧ Sl w' w'.heap.size v2 mk) ∧ Below w.heap.size w w'
theorem open_all {w : World} {base x : Nat} {V : Value} {sym full : Bool} {T : List TmL} {es : List EnL} (h : XB w base x V sym full T (es.map enW)) (v : Value) (l : List UInt8) (hv : Sl w w.heap.size v l) :
    Calls Tryz.prog 51 #[.pointer (some ⟨x, 0, none⟩), v] w (OpA w (isTagL sym es.length l) (opL sym es l).1 (opL sym es l).2) := by
  cases ht : isTagL sym es.length l with
  | true =>
    refine (open_any h v l hv ht).mono ?_
    rintro r w' ⟨v1, v2, h1, h2, h3, h4⟩
    exact ⟨v1, v2, h1, fun _ => ⟨h2, h3⟩, h4⟩
  | false =>
    refine (open_bad h v l hv ht).mono ?_
    rintro r w' ⟨h1, h2⟩
    exact ⟨_, _, h1, (fun h => by cases h), h2⟩
set_option maxHeartbeats 2000000 in
/-- Turn where one is no tag. -/
theorem turn_refBad {w : World} {base x : Nat} {V : Value} {sym full : Bool} {T : List TmL} {es : List EnL} (h : XB w base x V sym full T (es.map enW)) (va vb : Value) (a b : List UInt8) (ha : Sl w w.heap.size va a) (hb : Sl w w.heap.size vb b) (ht : (isTagL sym es.length a && isTagL sym es.length b) = false) :
    Calls Tryz.prog 31 #[.pointer (some ⟨x, 0, none⟩), va, vb] w fun e w' => e = .returned (.slice none 0 0) ∧ Below w.heap.size w w' := by
  have HX := Lib.hid h
  have HA := Lib.hid ha
  have HB := Lib.hid hb
  have HOA := Lib.hid (open_all h va a ha)
  have HOB := Lib.hid (fun (W : World) (hw : Below w.heap.size w W) => open_all (h.below hw) vb b (hb.fwd hw))
  generalize isTagL sym es.length a = p at HOA ht
  generalize isTagL sym es.length b = q at HOB ht
  clear h ha hb
  cases p with
  | false =>
    go_enter Tryz.func31, Tryz.ntmps31
    go_wp2_with fail
    refine HOA.out.mono ?_
    rintro e w1 ⟨v1, v2, rfl, -, hb1⟩
    have HB1 := Lib.hid hb1
    clear hb1
    go_wp2_with fail
    refine (HOB.out w1 HB1.out).mono ?_
    rintro e w2 ⟨v3, v4, rfl, -, hb2⟩
    have HB2 := Lib.hid (HB1.out.trans (hb2.mono HB1.out.size))
    clear hb2 ht
    cases q <;>
    · go_wp2_with fail
      go_ret
      exact ⟨rfl, HB2.out⟩
  | true =>
    obtain rfl : q = false := by simpa using ht
    go_enter Tryz.func31, Tryz.ntmps31
    go_wp2_with fail
    refine HOA.out.mono ?_
    rintro e w1 ⟨v1, v2, rfl, -, hb1⟩
    have HB1 := Lib.hid hb1
    clear hb1
    go_wp2_with fail
    refine (HOB.out w1 HB1.out).mono ?_
    rintro e w2 ⟨v3, v4, rfl, -, hb2⟩
    have HB2 := Lib.hid (HB1.out.trans (hb2.mono HB1.out.size))
    clear hb2 ht
    go_wp2_with fail
    go_ret
    exact ⟨rfl, HB2.out⟩
set_option maxHeartbeats 8000000 in
theorem turn_refE {w : World} {base x : Nat} {V : Value} {sym full : Bool} {T : List TmL} {es : List EnL} (h : XB w base x V sym full T (es.map enW)) (hge : GE es) (va vb : Value) (a b : List UInt8) (ha : Sl w w.heap.size va a) (hb : Sl w w.heap.size vb b) (ht1 : isTagL sym es.length a = true) (ht2 : isTagL sym es.length b = true) :
    Calls Tryz.prog 31 #[.pointer (some ⟨x, 0, none⟩), va, vb] w (RfR w base x V T sym (tgS sym es (tuL sym es a b) (tuM sym es a b)) (fuS sym full es (tuL sym es a b) (tuM sym es a b)) (esS sym es (tuL sym es a b) (tuM sym es a b))) := by
  have HX := Lib.hid h
  have HGE := Lib.hid hge
  have HB := Lib.hid hb
  obtain ⟨la1, la2, la3⟩ := opL_ok hge ht1
  obtain ⟨lb1, lb2, lb3⟩ := opL_ok hge ht2
  have HOA := Lib.hid (open_any h va a ha ht1)
  have HOB := Lib.hid (fun (W : World) (hw : Below w.heap.size w W) => open_any (h.below hw) vb b (hb.fwd hw) ht2)
  unfold tuL tuM
  obtain ⟨L1, hL1⟩ : ∃ q, q = (opL sym es a).1 := ⟨_, rfl⟩
  obtain ⟨M1, hM1⟩ : ∃ q, q = (opL sym es a).2 := ⟨_, rfl⟩
  obtain ⟨L2, hL2⟩ : ∃ q, q = (opL sym es b).1 := ⟨_, rfl⟩
  obtain ⟨M2, hM2⟩ : ∃ q, q = (opL sym es b).2 := ⟨_, rfl⟩
  rw [← hL1, ← hM1] at HOA
  rw [← hL2, ← hM2] at HOB
  rw [← hL1, ← hM1, ← hL2, ← hM2]
  rw [← hM1] at la1
  rw [← hM2] at lb1
  rw [← hL1] at la2 la3
  rw [← hL2] at lb2 lb3
  have hee := hge.le
  have len1 : L1.length ≤ 4096 := by
    have h2 : L1 = pickN L1 [] es.length := lt_ext la2 (pickN_lt _ _ _) (fun n => by rw [pickN_mem]; simp; exact fun h => la3 n h)
    rw [h2]; exact Nat.le_trans (pickN_len _ _ _) hee
  have len2 : L2.length ≤ 4096 := by
    have h2 : L2 = pickN L2 [] es.length := lt_ext lb2 (pickN_lt _ _ _) (fun n => by rw [pickN_mem]; simp; exact fun h => lb3 n h)
    rw [h2]; exact Nat.le_trans (pickN_len _ _ _) hee
  have hxl : x < w.heap.size := h.blk.lt
  have hbx := h.bx
  have HTL := Lib.hid (show T.length = es.length from by rw [h.len, List.length_map])
  have HPL := Lib.hid (show (pickN L1 L2 es.length).length ≤ 4096 from Nat.le_trans (pickN_len _ _ _) hee)
  have HPN := Lib.hid (show ∀ n ∈ pickN L1 L2 es.length, n ≤ 4096 from fun n hn => by have := ((pickN_mem _ _ _ _).1 hn).1; omega)
  have HML := Lib.hid (show (xorL M1 M2).length = 32 from by rw [xorL_length]; omega)
  have HP0 := Lib.hid (pickN_zero L1 L2)
  have HPS := Lib.hid (pickN_succ L1 L2)
  obtain ⟨L, hL⟩ : ∃ L, L = pickN L1 L2 es.length := ⟨_, rfl⟩
  obtain ⟨M, hM⟩ : ∃ M, M = xorL M1 M2 := ⟨_, rfl⟩
  rw [← hL] at HPL HPN ⊢
  rw [← hM] at HML ⊢
  have HLE := Lib.hid hL
  have HME := Lib.hid hM
  clear hL1 hM1 hL2 hM2 h hge ha hb ht1 ht2 la2 la3 lb2 lb3 hL hM
  go_enter Tryz.func31, Tryz.ntmps31
  go_wp2_with fail
  refine HOA.out.mono ?_
  rintro e w1 ⟨v1, v2, rfl, hj1, hs1, hb1⟩
  have HB1 := Lib.hid hb1
  have HJ1 := Lib.hid hj1
  have HS1 := Lib.hid hs1
  clear hb1 hj1 hs1 HOA
  go_wp2_with fail
  refine (HOB.out w1 HB1.out).mono ?_
  rintro e w2 ⟨v3, v4, rfl, hj2, hs2, hb2⟩
  have HB2 := Lib.hid (HB1.out.trans (hb2.mono HB1.out.size))
  have HJ1b := Lib.hid ((HJ1.out.below hb2 (Nat.le_refl _)).more hb2.size)
  have HS1b := Lib.hid (HS1.out.fwd hb2)
  have HJ2 := Lib.hid hj2
  have HS2 := Lib.hid hs2
  obtain ⟨RA, rc, hV, hrc1, hrc2⟩ := HX.out.own.form
  clear hb2 hj2 hs2 HOB HJ1 HS1
  obtain ⟨P, hP⟩ : ∃ P, P = pickN L1 L2 := ⟨_, rfl⟩
  rw [← hP] at HLE HP0 HPS
  have HPP := Lib.hid hP
  clear hP
  go_wp2_with fail
  go_loopw [13, 14] (fun u i wr => ∃ k : Nat, k ≤ es.length ∧ i = .int .i64 ((k : Int) + 1) ∧ OwnJ wr w2.heap.size u (P k) ∧ Below w2.heap.size w2 wr) (fun _ i _ => es.length + 1 - (intOf i).toNat)
  case atStart => exact ⟨0, by omega, rfl, by rw [HP0.out]; exact OwnJ.nil _ _, Below.refl _ _⟩
  case round =>
    obtain ⟨k, hk, rfl, hO, hBl⟩ := hrel
    have HBl := Lib.hid hBl
    have HBW := Lib.hid (HB2.out.trans (hBl.mono HB2.out.size))
    have k1 : wr.cell? ⟨x, 1, none⟩ = some (.slice RA es.length rc) := by rw [← HTL.out, ← hV]; exact (HX.out.below HBW.out).blk.at (o := 1) rfl
    have hPk : (P k).length ≤ k := by rw [HPP.out]; exact pickN_len _ _ _
    by_cases hlt : k < es.length
    · obtain ⟨m, hm⟩ : ∃ m, m = k + 1 := ⟨_, rfl⟩
      have hi : (m : Int) ≤ (es.length : Int) := by omega
      have hiN : m ≤ es.length := by omega
      have hcs : (k : Int) + 1 = (m : Int) := by omega
      have HPK := Lib.hid (HPS.out k)
      rw [← hm] at HPK
      have HI1 := Lib.hid (fun (W : World) (hw : Below wr.heap.size wr W) => refIn_any W.heap.size v1 L1 m W ((((HJ1b.out.below HBl.out (Nat.le_refl _)).more HBl.out.size).below hw (Nat.le_refl _)).more hw.size) (by omega))
      have HI2 := Lib.hid (fun (W : World) (hw : Below wr.heap.size wr W) => refIn_any W.heap.size v3 L2 m W ((((HJ2.out.below HBl.out (Nat.le_refl _)).more HBl.out.size).below hw (Nat.le_refl _)).more hw.size) (by omega))
      obtain ⟨p, hp⟩ : ∃ p, p = decide (m ∈ L1) := ⟨_, rfl⟩
      obtain ⟨q, hq⟩ : ∃ q, q = decide (m ∈ L2) := ⟨_, rfl⟩
      rw [← hp] at HI1
      rw [← hq] at HI2
      have HSU := Lib.hid (show P m = P k ++ if (p != q) = true then [m] else [] from by rw [HPK.out, hp, hq])
      clear hp hq hBl
      have HO := Lib.hid hO
      clear hO
      rw [hcs]
      have HMK := Lib.hid hm
      clear hcs hm
      go_wp2_with fail
      refine (HI1.out wr (Below.refl _ _)).mono ?_
      rintro e w3 ⟨rfl, rfl⟩
      go_wp2_with fail
      refine (HI2.out wr (Below.refl _ _)).mono ?_
      rintro e w3 ⟨rfl, rfl⟩
      by_cases hpq : p = q
      · subst hpq
        have HS' := Lib.hid (show P m = P k from by rw [HSU.out]; simp)
        go_wp2_with fail
        go_roundw
        case rel => exact ⟨m, by omega, by go_num, by rw [HS'.out]; exact HO.out, HBl.out⟩
        case measure => have := HMK.out; simp [intOf]; omega
      · have hpq2 : (p == q) = false := by rw [beq_eq_false_iff_ne]; exact hpq
        have HS' := Lib.hid (show P m = P k ++ [m] from by rw [HSU.out, if_pos (by simp [bne, hpq2])])
        clear hpq
        have HLA := Lib.hid (show Below w2.heap.size w2 (wr.alloc (.cells #[.int .i64 (m : Int)] 3)) from HBl.out.alloc HBl.out.size _)
        obtain ⟨A4, c4, rfl, _⟩ := HO.out.jIn
        have HOA := Lib.hid (show OwnJ (wr.alloc (.cells #[.int .i64 (m : Int)] 3)) w2.heap.size (.slice A4 (P k).length c4) (P k) from HO.out.below ((Below.refl _ _).alloc (Nat.le_refl _) _))
        have hbn := (show Blk (wr.alloc (.cells #[.int .i64 (m : Int)] 3)) wr.heap.size [jv m] from Blk.new wr [jv m] _)
        have HNW := Lib.hid (show JS (wr.alloc (.cells #[.int .i64 (m : Int)] 3)) (wr.heap.size + 1) (.slice (some ⟨wr.heap.size, 0, none⟩) 1 1) [m] from ⟨_, _, rfl, (fun e => by cases e), by simp, by omega, fun _ => ⟨_, _, rfl, by omega, fun j hj => by
          obtain rfl : j = 0 := by simpa using hj
          exact hbn.at (o := 0) rfl⟩⟩)
        have hzA : w2.heap.size ≤ (wr.alloc (.cells #[.int .i64 (m : Int)] 3)).heap.size := HLA.out.size
        clear hbn
        go_wp2_with (at_builtin; ((with_reducible refine wpList_appJs ?g1 (.tmp 54) (.tmp 56) ?g2 w2.heap.size (.slice A4 (P k).length c4) (P k) [m] ?g3 ?g4 (wr.heap.size + 1) (.slice (some ⟨wr.heap.size, 0, none⟩) 1 1) ?g5 ?g6 ?g7 ?g8 ?_); (case g1 => rfl); (case g2 => rfl); (case g3 => rfl); (case g4 => exact HOA.out); (case g5 => rfl); (case g6 => exact HNW.out); (case g7 => first | (simp; done) | (simp; omega) | omega); (case g8 => exact hzA); intro v' w3 hv hgr; have Hv := Lib.hid hv; clear hv; have Hg := Lib.hid (HLA.out.trans (HOA.out.belowBase hgr hzA)); clear hgr))
        go_roundw
        case rel => exact ⟨m, by omega, by go_num, by rw [HS'.out]; exact Hv.out, Hg.out⟩
        case measure => have := HMK.out; simp [intOf]; omega
    · obtain rfl : k = es.length := by omega
      have hi : ¬ (es.length : Int) + 1 ≤ (es.length : Int) := by omega
      rw [← HLE.out] at hO
      have HXO := Lib.hid (refXor_any wr.heap.size v2 v4 M1 M2 wr ((HS1b.out.below HBl.out (Nat.le_refl _)).more HBl.out.size) ((HS2.out.below HBl.out (Nat.le_refl _)).more HBl.out.size) (Nat.le_refl _) (by omega) (by omega))
      rw [← HME.out] at HXO
      have hzw := HBW.out.size
      have hz2 := HB2.out.size
      clear hBl
      have HO := Lib.hid hO
      clear hO
      go_wp2_with fail
      refine HXO.out.mono ?_
      rintro e w3 ⟨v5, rfl, hO5, hb5⟩
      obtain ⟨A5, c5, rfl, -⟩ := hO5.sl
      have HO5 := Lib.hid (hO5.lower (base' := w2.heap.size) HBl.out.size)
      have HB3 := Lib.hid (HBW.out.trans (hb5.mono hzw))
      have HOL := Lib.hid (HO.out.below hb5)
      clear hO5 hb5 HXO
      go_wp2_with fail
      refine (refLooks_any w3.heap.size _ M w3 HO5.out.sl (Nat.le_refl _)).mono ?_
      rintro e w4 ⟨rfl, hb6⟩
      have HB4 := Lib.hid (HB3.out.trans (hb6.mono HB3.out.size))
      have HO6 := Lib.hid (HO5.out.below hb6)
      have HOL4 := Lib.hid (HOL.out.below hb6)
      have HX4 := Lib.hid (HX.out.below HB4.out)
      have HZ := Lib.hid (show base ≤ w2.heap.size ∧ x < w2.heap.size ∧ w.heap.size ≤ w2.heap.size from ⟨by omega, by omega, by omega⟩)
      obtain ⟨K, hK⟩ : ∃ K, K = looks M := ⟨_, rfl⟩
      obtain ⟨TN, hTN⟩ : ∃ N : Int, N = (tagN M : Int) := ⟨_, rfl⟩
      rw [← hK, ← hTN]
      have HK := Lib.hid hK
      clear hb6 hK hTN HO HO5 HOL k1 hPk
      obtain ⟨A6, c6, rfl, -⟩ := HOL4.out.jIn
      have k0 : w4.cell? ⟨x, 0, none⟩ = some (.bool sym) := HX4.out.blk.at (o := 0) rfl
      have HO4 := HO6
      have HMn := Lib.hid HML.out
      by_cases h0 : L = []
      · subst h0
        simp only [List.length_nil] at HOL4 ⊢
        cases sym with
        | false =>
          have HF := Lib.hid (show RfR w base x V T false (tgS false es [] M) (fuS false full es [] M) (esS false es [] M) (.returned (.slice A5 M.length c5)) w4 from by
            have hr : rawS false [] M = true := by unfold rawS; rw [← HK.out]; rfl
            unfold tgS fuS esS
            rw [if_pos hr, if_pos hr, if_pos hr]
            exact ⟨_, V, T, rfl, HO6.out.lower (by have := HZ.out; omega), HX4.out, Trs.of_below HB4.out, NwT.refl _ _ _, fun k e hk => by have h1 := (HO6.out.lt k e).1; have h2 := HX.out.rBlt k hk; have := HZ.out; omega⟩)
          go_wp2_with fail
          go_ret
          exact HF.out
        | true =>
          cases K with
          | false =>
            have HF := Lib.hid (show RfR w base x V T true (tgS true es [] M) (fuS true full es [] M) (esS true es [] M) (.returned (.slice A5 M.length c5)) w4 from by
              have hr : rawS true [] M = true := by unfold rawS; rw [← HK.out]; rfl
              unfold tgS fuS esS
              rw [if_pos hr, if_pos hr, if_pos hr]
              exact ⟨_, V, T, rfl, HO6.out.lower (by have := HZ.out; omega), HX4.out, Trs.of_below HB4.out, NwT.refl _ _ _, fun k e hk => by have h1 := (HO6.out.lt k e).1; have h2 := HX.out.rBlt k hk; have := HZ.out; omega⟩)
            go_wp2_with fail
            go_ret
            exact HF.out
          | true =>
            have HNR := Lib.hid (show ¬ rawS true ([] : List Nat) M = true from by unfold rawS; rw [← HK.out]; simp)
            have HNO := Lib.hid (show ¬ oneS ([] : List Nat) M = true from by unfold oneS; simp)
            go_wp2_with fail
            refine (tag_turn HX4.out HGE.out.g [] M A6 A5 c6 c5 w2.heap.size HZ.out.1 HZ.out.2.1 w HB4.out HZ.out.2.2 HOL4.out HO4.out HPL.out HPN.out).mono ?_
            intro e w9 hR
            have HR := Lib.hid (show RfR w base x V T true (tgS true es [] M) (fuS true full es [] M) (esS true es [] M) e w9 from by
              unfold tgS fuS esS
              rw [if_neg HNR.out, if_neg HNR.out, if_neg HNR.out, if_neg HNO.out, if_neg HNO.out, if_neg HNO.out]
              exact hR)
            obtain ⟨v9, V9, T9, rfl, -⟩ := hR
            go_wp2_with fail
            go_ret
            exact HR.out
      · have HNR := Lib.hid (show ¬ rawS sym L M = true from by unfold rawS; rw [decide_eq_false h0]; simp)
        by_cases h1 : L.length = 1
        · obtain ⟨n, hn⟩ : ∃ n, L = [n] := by
            match L, h1 with
            | [n], _ => exact ⟨n, rfl⟩
          have HLN := Lib.hid hn
          obtain ⟨g6, hA6, -, hc6⟩ : ∃ g, A6 = some ⟨g, 0, none⟩ ∧ g < w4.heap.size ∧ ∀ j (hj : j < L.length), w4.cell? ⟨g, j, none⟩ = some (jv L[j]) := by
            obtain ⟨A', c', e', -, -, h⟩ := HOL4.out.jIn
            injection e' with e1 e2 e3
            subst e1
            exact h (by omega)
          subst hA6
          have hcn : w4.cell? ⟨g6, 0, none⟩ = some (.int .i64 (n : Int)) := by
            have := hc6 0 (by omega)
            simp only [hn, List.getElem_cons_zero] at this
            exact this
          have hmk : ∀ W : World, (Instr.makeSlice 34 (.int .i64 32) (.int .i64 32)).run Tryz.prog W = .ok (.slice (some ⟨W.heap.size, 0, none⟩) 32 32) (W.alloc (.cells (noughts 32) 5)) := make_bytes 32 32 (by omega) (by omega)
          have hln : L.length = 1 := h1
          rw [hln] at HOL4 ⊢
          clear hc6 h0 h1 hn
          go_wp2_with fail
          obtain ⟨w5, hw5⟩ : ∃ W, W = w4.alloc (.cells (noughts 32) 5) := ⟨_, rfl⟩
          have hb5 : Below w4.heap.size w4 w5 := by rw [hw5]; exact (Below.refl _ _).alloc (Nat.le_refl _) _
          have HZR := Lib.hid (show Sl w5 w5.heap.size (.slice (some ⟨w4.heap.size, 0, none⟩) 32 32) noughtsL from by rw [hw5]; exact (noughts_ownT w4).sl)
          have HB5 := Lib.hid (HB4.out.trans (hb5.mono HB4.out.size))
          have HO5 := Lib.hid (HO6.out.below hb5)
          have HOL5 := Lib.hid (HOL4.out.below hb5)
          have HX5 := Lib.hid (HX.out.below HB5.out)
          have hcn5 : w5.cell? ⟨g6, 0, none⟩ = some (.int .i64 (n : Int)) := (hb5.cell (p := ⟨g6, 0, none⟩) (World.block_lt_of_cell? _ _ hcn)).trans hcn
          rw [← hw5]
          clear hw5 hb5 hcn hmk k0
          refine (same_any w5.heap.size w5.heap.size _ _ M noughtsL w5 HO5.out.sl HZR.out).mono ?_
          rintro e w6 ⟨rfl, rfl⟩
          by_cases hmz : M = noughtsL
          · have hq : (M == noughtsL) = true := by rw [hmz]; exact beq_self_eq_true _
            rw [hq]
            have HNO := Lib.hid (show oneS L M = true from by unfold oneS; rw [decide_eq_true hln, decide_eq_true hmz]; rfl)
            have HNN := Lib.hid (show n < 4294967296 from by have := HPN.out n (by rw [HLN.out]; simp); omega)
            clear hq hmz
            go_wp2_with fail
            refine (refHandle_any n HNN.out w5).mono ?_
            rintro e w7 ⟨v7, rfl, hO7, hb7⟩
            have HR := Lib.hid (show RfR w base x V T sym (tgS sym es L M) (fuS sym full es L M) (esS sym es L M) (.returned v7) w7 from by
              unfold tgS fuS esS
              rw [if_neg HNR.out, if_neg HNR.out, if_neg HNR.out, if_pos HNO.out, if_pos HNO.out, if_pos HNO.out]
              refine ⟨_, V, T, rfl, ?_, HX5.out.below hb7, Trs.of_below (HB5.out.trans (hb7.mono HB5.out.size)), NwT.refl _ _ _, fun k e hk => by have h1 := (hO7.lt k e).1; have h2 := HX5.out.rBlt k hk; omega⟩
              rw [HLN.out]
              exact hO7.lower HB5.out.size)
            clear hO7 hb7
            go_wp2_with fail
            go_ret
            exact HR.out
          · have hq : (M == noughtsL) = false := by rw [beq_eq_false_iff_ne]; exact hmz
            rw [hq]
            have HNO := Lib.hid (show ¬ oneS L M = true from by unfold oneS; rw [decide_eq_false hmz]; simp)
            clear hq hmz
            go_wp2_with fail
            rw [← hln] at HOL5 ⊢
            refine (tag_turn HX5.out HGE.out.g L M (some ⟨g6, 0, none⟩) A5 c6 c5 w2.heap.size HZ.out.1 HZ.out.2.1 w HB5.out HZ.out.2.2 HOL5.out HO5.out HPL.out HPN.out).mono ?_
            intro e w9 hR
            have HR := Lib.hid (show RfR w base x V T sym (tgS sym es L M) (fuS sym full es L M) (esS sym es L M) e w9 from by
              unfold tgS fuS esS
              rw [if_neg HNR.out, if_neg HNR.out, if_neg HNR.out, if_neg HNO.out, if_neg HNO.out, if_neg HNO.out]
              exact hR)
            obtain ⟨v9, V9, T9, rfl, -⟩ := hR
            go_wp2_with fail
            go_ret
            exact HR.out
        · have HNO := Lib.hid (show ¬ oneS L M = true from by unfold oneS; rw [decide_eq_false h1]; simp)
          have hp0 : ¬ L.length = 0 := fun h => h0 (List.eq_nil_of_length_eq_zero h)
          have e0 : ((L.length : Int) == 0) = false := by rw [beq_eq_false_iff_ne]; omega
          have e1 : ((L.length : Int) == 1) = false := by rw [beq_eq_false_iff_ne]; omega
          clear h0
          go_wp2_with fail
          refine (tag_turn HX4.out HGE.out.g L M A6 A5 c6 c5 w2.heap.size HZ.out.1 HZ.out.2.1 w HB4.out HZ.out.2.2 HOL4.out HO4.out HPL.out HPN.out).mono ?_
          intro e w9 hR
          have HR := Lib.hid (show RfR w base x V T sym (tgS sym es L M) (fuS sym full es L M) (esS sym es L M) e w9 from by
            unfold tgS fuS esS
            rw [if_neg HNR.out, if_neg HNR.out, if_neg HNR.out, if_neg HNO.out, if_neg HNO.out, if_neg HNO.out]
            exact hR)
          obtain ⟨v9, V9, T9, rfl, -⟩ := hR
          go_wp2_with fail
          go_ret
          exact HR.out
end Go.Proofs.YtlnjpmpddomjiaaGreatDoor
