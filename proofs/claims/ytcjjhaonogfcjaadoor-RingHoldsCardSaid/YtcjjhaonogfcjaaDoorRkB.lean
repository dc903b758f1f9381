/- ring: a Ring in memory over a plain box; the small steps; Mac of a plain box. -/
import Derived.Test.YtcjjhaonogfcjaaDoorRkA
import Derived.Test.YtcjjhaonogfcjaaDoorHmAr
import Derived.Test.YtcjjhaonogfcjaaDoorFmtU
import Derived.Test.YtcjjhaonogfcjaaDoorSlsN
import Derived.Lib.ConvBytes
import Derived.Lib.AppendIntMem
import Derived.Lib.QuietBelow
import Derived.Lib.AtoiErrMem
import Derived.Lib.LaidTab
import Derived.StillTailTactics
set_option maxRecDepth 100000
namespace Go.Proofs.YtcjjhaonogfcjaaDoor
open Go.RowKit
/-- The table of powers of ten, as long as no elder block turns. -/
structure PowE (w : World) : Prop where
  pow : Lib.TabIs Tryd.prog w "internal/strconv.uint64pow10" .u64 Lib.pow10Tab
  low : 0 < w.heap.size
theorem PowE.below {w w' : World} (h : PowE w) (hb : Below w.heap.size w w') : PowE w' := by
  obtain ⟨h1, h2⟩ := h
  refine ⟨?_, by have := hb.size; omega⟩
  unfold Lib.TabIs World.var? at h1 ⊢
  have hg : Tryd.prog.globalNamed "internal/strconv.uint64pow10" = some 0 := by kernel_rfl
  simp only [hg, Option.bind_some] at h1 ⊢
  rw [hb.block 0 h2]
  exact h1
theorem fmtU_b (n : Nat) (hn : n < 18446744073709551616) (w : World) (hE : PowE w) :
    Calls Tryd.prog 17 #[.int .u64 n, .int .i64 10] w fun e w' => e = .returned (str (Lib.decDigits n)) ∧ Below w.heap.size w w' := by
  refine (fmtU_any n hn w hE.pow).mono ?_
  rintro e w' ⟨rfl, k, os, rfl⟩
  exact ⟨rfl, Lib.below_grow _ _ (Nat.le_refl _) k os⟩
/-- A text's bytes. -/
theorem conv_tx (s : List UInt8) (w : World) (hs : s.length ≤ 100000) : ∃ v W, (convert 9 22 (str s)).run Tryd.prog w = .ok v W ∧ Below w.heap.size w W ∧ Sl W W.heap.size v s := by
  have hz : (ByteArray.mk s.toArray).size = s.length := by simp [ByteArray.size]
  have hge := grownCap_ge w s.length 0 5
  have hle := grownCap_le_maxLen w s.length 0 5 (by unfold maxLen; omega)
  refine ⟨_, _, Lib.run_convert_string_bytes w 9 22 5 ⟨s.toArray⟩ Tryd.underlying9 Tryd.underlying22 Tryd.underlying5, Lib.bytesWorld_below w _ _, _, _, by rw [hz], (fun h => by cases h), hge, by unfold maxLen at hle; omega, fun _ => ⟨_, 0, rfl, by rw [Lib.bytesWorld_size]; omega, fun j h => ?_⟩⟩
  rw [Nat.zero_add, Lib.bytesWorld_cell w _ _ j (by simpa [ByteArray.size] using h)]
  simp [vb, bn, List.getD_eq_getElem?_getD, List.getElem?_eq_getElem h]
theorem wpOp_valueX {P : Program} {ops : Array Oper} {Q : Exit → Act → World → Prop} {K : Act → World → Prop} {a : Act} {w : World} {i : Nat} {o : Oper} (d : Tmp) (hi : ops[i]? = some o) (hd : o.dst = some d) (hw : Region.wanted o (yielded ops a.tmps) = true) (v : Value) (w' : World) (hr : (execOp a.eval o).run P w = .ok (.value v) w') (h : K (a.put (some d) v) w') : wpOp P ops Q i K a w :=
  wpOp_of_wp hi hw (by unfold Oper.wp; rw [hr]; rw [← hd] at h; exact h)
theorem PowE.trs {w w' : World} {S : List Nat} (h : PowE w) (ht : Trs S w w') (hb : 0 ∉ S) : PowE w' := by
  obtain ⟨h1, h2⟩ := h
  refine ⟨?_, by have := ht.size; omega⟩
  unfold Lib.TabIs World.var? at h1 ⊢
  have hg : Tryd.prog.globalNamed "internal/strconv.uint64pow10" = some 0 := by kernel_rfl
  simp only [hg, Option.bind_some] at h1 ⊢
  rw [ht.block 0 h2 hb]
  exact h1
theorem TabA.trs {w w' : World} {S : List Nat} (h : TabA w) (ht : Trs S w w') (hb : 4 ∉ S) : TabA w' := fun j hj => by
  have hl : 4 < w.heap.size := tab_lt h
  rw [← h j hj]
  simp only [World.cell?, ht.block _ hl hb]
theorem OwnB.trsV {S : List Nat} {w w' : World} {base : Nat} {v : Value} {l : List UInt8} (h : OwnB w base v l) (ht : Trs S w w') (hb : ∀ k, v.ownBlock = some k → k ∉ S) : OwnB w' base v l := by
  obtain ⟨h1, h2 | ⟨g, cap, cur, rfl, hb', hg, h3⟩⟩ := h
  · exact ⟨h1, .inl h2⟩
  · exact ⟨h1, .inr ⟨g, cap, cur, rfl, hb', (ht.block g (Array.getElem?_eq_some_iff.1 hg).1 (hb g rfl)).trans hg, h3⟩⟩
theorem Trs.next {S S' : List Nat} {w w1 w' : World} (h : Trs S w w1) (k : Trs S' w1 w') (hs : ∀ i ∈ S', i ∈ S ∨ w.heap.size ≤ i) : Trs S w w' :=
  ⟨k.os.trans h.os, k.tape.trans h.tape, k.output.trans h.output, Nat.le_trans h.size k.size, fun i hi hn => (k.block i (Nat.lt_of_lt_of_le hi h.size) (fun e => by rcases hs i e with q | q; exact hn q; omega)).trans (h.block i hi hn)⟩
theorem wpOp_storeV {P : Program} {ops : Array Oper} {Q : Exit → Act → World → Prop} {K : Act → World → Prop} {a : Act} {w : World} {i : Nat} {o : Oper} {w' : World} (hi : ops[i]? = some o) (hd : o.dst = none) (hw : Region.wanted o (yielded ops a.tmps) = true)
    (hr : (execOp a.eval o).run P w = .ok .skip w') (h : K a w') : wpOp P ops Q i K a w :=
  wpOp_of_wp hi hw (by unfold Oper.wp; rw [hr]; show K (a.put o.dst undef) w'; rw [hd]; exact h)
theorem wpOp_appKy {tS tE : TypeId} (hT : KyT tS tE) {ops : Array Oper} {Q : Exit → Act → World → Prop} {K : Act → World → Prop} {a : Act} {w : World} {i : Nat} {o : Oper} (d : Tmp) (hi : ops[i]? = some o) (hd : o.dst = some d) (hgd : o.guard = none) (s x : Operand) (ho : o.op = .call { callee := .builtin .append, args := #[s, x], argTypes := #[tS, tS] })
    (base : Nat) (v : Value) (xs : List KyL) (hs : a.eval s = v) (hown : OwnY tE w base v xs) (gb : Nat) (q : KyL) (hx : a.eval x = .slice (some ⟨gb, 0, none⟩) 1 1)
    (hnew : w.heap[gb]? = some (.cells q.cells.toArray tE (0, 0))) (hn : xs.length ≤ 100000) (hbase : base ≤ w.heap.size)
    (h : ∀ g cap w', OwnY tE w' base (.slice (some ⟨g, 0, none⟩) (xs.length + 1) cap) (xs ++ [q]) → w.grownBy w' v.ownBlock → (v.ownBlock = some g ∨ g = w.heap.size) → K (a.put (some d) (.slice (some ⟨g, 0, none⟩) (xs.length + 1) cap)) w') : wpOp Tryd.prog ops Q i K a w := by
  refine wpOp_of_wp hi (by simp [Region.wanted, hgd]) ?_
  obtain ⟨i0, hi, hz0, hz1, hz2⟩ := info_parts hT.i
  refine wp_append_lies w s x tS ho base tE i0 _ 2 32 hT.u hi hz0 hz1 hz2 rfl (by decide) v xs.length (kcs xs) hs hown ⟨gb, 0, none⟩ 1 1 q.cells hx rfl (news_ky hnew) (kyc_one q) (by omega) (by unfold maxLen; omega) (by omega) hbase w.heap.size rfl ?_
  intro g cap w' h1 h2 h3 _
  rw [hd]
  refine h g cap w' ?_ h2 h3
  unfold OwnY
  rw [List.length_append, kcs_snoc]
  exact h1
/-- Mac of a plain box. -/
theorem mac_plain (bx : Nat) (cs : List Value) (v v2 : Value) (key : List UInt8) (ls : List (List UInt8)) (w : World) (hb : Blk w bx (.bool false :: cs)) (hs : Sl w w.heap.size v key) (hl : key.length ≤ 1000000) (hs2 : Sls w w.heap.size v2 ls) (hl2 : ∀ l ∈ ls, l.length ≤ 1000000) (hT : TabA w) :
    Calls Tryd.prog 15 #[.pointer (some ⟨bx, 0, none⟩), v, v2] w fun e w' => ∃ v', e = .returned v' ∧ OwnB w' w.heap.size v' (hm key ls.flatten) ∧ Below w.heap.size w w' := by
  have c0 : w.cell? ⟨bx, 0, none⟩ = some (.bool false) := hb.at (o := 0) rfl
  have HM := Lib.hid (hmacSum_any v v2 key ls w hs hl hs2 hl2 hT)
  clear hs hs2 hl2 hT hb
  go_enter Tryd.func15, Tryd.ntmps15
  go_wp2_with fail
  refine HM.out.mono ?_
  rintro e w1 ⟨v', rfl, hO, hB⟩
  have HO := Lib.hid hO
  have HB := Lib.hid hB
  clear hO hB
  go_wp2_with fail
  go_ret
  exact ⟨_, rfl, HO.out, HB.out⟩
/-- The blocks that a Ring may turn. -/
def rgS (r : Nat) (V : Value) : List Nat := r :: V.ownBlock.toList
theorem mem_rgS {r k : Nat} {V : Value} : k ∈ rgS r V ↔ k = r ∨ V.ownBlock = some k := by
  unfold rgS
  simp only [List.mem_cons, Option.mem_toList]
def rgCs (bx : Nat) (MV : Value) (room last : Nat) (V : Value) : List Value := [.pointer (some ⟨bx, 0, none⟩), MV, .int .i64 (room : Int), .int .u64 (last : Int), V]
/-- A Ring at block r over a plain box at block bx; all of it lies from base on. -/
structure RG (w : World) (base r bx : Nat) (V MV : Value) (room last : Nat) (L : List KyL) (key : List UInt8) : Prop where
  blk : Blk w r (rgCs bx MV room last V)
  box : ∃ cs, Blk w bx (.bool false :: cs)
  own : OwnY tKy w base V L
  mst : OwnB w base MV key
  geb : base ≤ r ∧ base ≤ bx
  ne : bx ≠ r
  apv : V.ownBlock ≠ some r ∧ V.ownBlock ≠ some bx
  apm : MV.ownBlock ≠ some r ∧ ∀ k, V.ownBlock = some k → MV.ownBlock ≠ some k
  kl : key.length ≤ 64
  len : L.length ≤ 100
  rm : room ≤ 8
  lst : last ≤ 1000000
  tab : TabA w
  pow : PowE w
  gt : 4 < base
  gp : 0 < base
section
variable {w w' : World} {base r bx room last : Nat} {V MV : Value} {L : List KyL} {key : List UInt8}
theorem RG.inS (h : RG w base r bx V MV room last L key) : ∀ k ∈ rgS r V, base ≤ k ∧ k < w.heap.size := by
  intro k hk
  rcases mem_rgS.1 hk with rfl | hk
  · exact ⟨h.geb.1, h.blk.lt⟩
  · exact h.own.lt k hk
theorem RG.size (h : RG w base r bx V MV room last L key) : base ≤ w.heap.size := Nat.le_trans h.geb.1 (Nat.le_of_lt h.blk.lt)
theorem RG.trs {S : List Nat} (h : RG w base r bx V MV room last L key) (ht : Trs S w w') (hS : r ∉ S ∧ bx ∉ S ∧ (∀ k, V.ownBlock = some k → k ∉ S) ∧ (∀ k, MV.ownBlock = some k → k ∉ S)) (hg : ∀ k ∈ S, base ≤ k) : RG w' base r bx V MV room last L key := by
  obtain ⟨cs, hc⟩ := h.box
  refine ⟨ht.blk h.blk hS.1, ⟨cs, ht.blk hc hS.2.1⟩, h.own.trs ht hS.2.2.1, h.mst.trsV ht hS.2.2.2, h.geb, h.ne, h.apv, h.apm, h.kl, h.len, h.rm, h.lst, h.tab.trs ht (fun hk => ?_), h.pow.trs ht (fun hk => ?_), h.gt, h.gp⟩
  · have := hg _ hk; have := h.gt; omega
  · have := hg _ hk; have := h.gp; omega
theorem RG.below (h : RG w base r bx V MV room last L key) (hb : Below w.heap.size w w') : RG w' base r bx V MV room last L key :=
  h.trs (S := []) (Trs.of_below hb) ⟨by simp, by simp, fun _ _ => by simp, fun _ _ => by simp⟩ (fun _ hk => by simp at hk)
/-- A Ring that has turned. -/
theorem RG.turn (h : RG w base r bx V MV room last L key) {V' : Value} {L' : List KyL} {last' : Nat} (hk : Blk w' r (rgCs bx MV room last' V')) (ho : OwnY tKy w' base V' L')
    (ap : V'.ownBlock ≠ some r ∧ V'.ownBlock ≠ some bx ∧ ∀ k, V'.ownBlock = some k → MV.ownBlock ≠ some k) (hl : L'.length ≤ 100) (hn : last' ≤ 1000000) (ht : Trs (rgS r V) w w') : RG w' base r bx V' MV room last' L' key := by
  obtain ⟨cs, hc⟩ := h.box
  have hbs : bx ∉ rgS r V := fun e => by rcases mem_rgS.1 e with e | e; exact h.ne e; exact h.apv.2 e
  have hms : ∀ k, MV.ownBlock = some k → k ∉ rgS r V := fun k hk e => by
    rcases mem_rgS.1 e with e | e
    · exact h.apm.1 (by rw [hk, e])
    · exact h.apm.2 k e hk
  refine ⟨hk, ⟨cs, ht.blk hc hbs⟩, ho, h.mst.trsV ht hms, h.geb, h.ne, ⟨ap.1, ap.2.1⟩, ⟨h.apm.1, ap.2.2⟩, h.kl, hl, h.rm, hn, h.tab.trs ht (fun hk => ?_), h.pow.trs ht (fun hk => ?_), h.gt, h.gp⟩
  · have := (h.inS _ hk).1; have := h.gt; omega
  · have := (h.inS _ hk).1; have := h.gp; omega
theorem RG.low (h : RG w base r bx V MV room last L key) (ht : Trs (rgS r V) w w') : Below base w w' := ht.toBelow h.size (fun k hk => (h.inS k hk).1)
/-- The number has come. -/
theorem RG.num (h : RG w base r bx V MV room last L key) (N : Nat) (hN : N ≤ 1000000) : RG (w.setCell ⟨r, 3, none⟩ (.int .u64 (N : Int))) base r bx V MV room N L key ∧ Trs (rgS r V) w (w.setCell ⟨r, 3, none⟩ (.int .u64 (N : Int))) := by
  have ht := (Trs.refl (rgS r V) w).set (p := ⟨r, 3, none⟩) (mem_rgS.2 (.inl rfl)) (.int .u64 (N : Int))
  exact ⟨h.turn (h.blk.set 3 _) (World.ownsRow.kept h.own (grown_set w ⟨r, 3, none⟩ _) (.inr h.apv.1)) ⟨h.apv.1, h.apv.2, h.apm.2⟩ h.len hN ht, ht⟩
/-- A key has come behind the others. -/
theorem RG.push {W4 w4 : World} {V5 : Value} (h : RG w base r bx V MV room last L key) (e : KyL) (hl : L.length + 1 ≤ 100) (hW : Below w.heap.size w W4) (hO : OwnY tKy w4 base V5 (L ++ [e])) (hg : W4.grownBy w4 V.ownBlock) (ho : V5.ownBlock = V.ownBlock ∨ V5.ownBlock = some W4.heap.size) :
    RG (w4.setCell ⟨r, 4, none⟩ V5) base r bx V5 MV room last (L ++ [e]) key ∧ Trs (rgS r V) w (w4.setCell ⟨r, 4, none⟩ V5) ∧ (V5.ownBlock = V.ownBlock ∨ ∀ k, V5.ownBlock = some k → w.heap.size ≤ k) := by
  have h4 := h.below hW
  have hz := hW.size
  have hrl := h.blk.lt
  obtain ⟨cs, hc⟩ := h.box
  have hbl := hc.lt
  have ht1 : Trs (rgS r V) w w4 := ((Trs.of_below hW : Trs (rgS r V) w W4)).grown hg (fun k hk => mem_rgS.2 (.inr hk))
  have ht2 := ht1.set (p := ⟨r, 4, none⟩) (mem_rgS.2 (.inl rfl)) V5
  have h5r : V5.ownBlock ≠ some r := by
    rcases ho with e | e
    · rw [e]; exact h.apv.1
    · rw [e]; intro e2; have := Option.some.inj e2; omega
  have h5b : V5.ownBlock ≠ some bx := by
    rcases ho with e | e
    · rw [e]; exact h.apv.2
    · rw [e]; intro e2; have := Option.some.inj e2; omega
  refine ⟨h.turn ((h4.blk.grown hg (fun e => h.apv.1 e.symm)).set 4 V5) (World.ownsRow.kept hO (grown_set w4 ⟨r, 4, none⟩ V5) (.inr h5r)) ⟨h5r, h5b, ?_⟩ (by rw [List.length_append, List.length_singleton]; exact hl) h.lst ht2, ht2, ?_⟩
  · intro k hk hm
    rcases ho with e | e
    · rw [e] at hk; exact h.apm.2 k hk hm
    · rw [e] at hk
      have := Option.some.inj hk
      have := (h.mst.lt k hm).2
      omega
  · rcases ho with e | e
    · exact .inl e
    · exact .inr (fun k hk => by rw [e] at hk; have := Option.some.inj hk; omega)
/-- One has gone. -/
theorem RG.gone {w6 : World} {g n n' cap : Nat} {L6 : List KyL} (h : RG w base r bx (.slice (some ⟨g, 0, none⟩) n cap) MV room last L key) (hO : OwnY tKy w6 base (.slice (some ⟨g, 0, none⟩) n' cap) L6) (hg : w.grownBy w6 (some g)) (hl : L6.length ≤ 100) :
    RG (w6.setCell ⟨r, 4, none⟩ (.slice (some ⟨g, 0, none⟩) n' cap)) base r bx (.slice (some ⟨g, 0, none⟩) n' cap) MV room last L6 key ∧ Trs (rgS r (.slice (some ⟨g, 0, none⟩) n cap)) w (w6.setCell ⟨r, 4, none⟩ (.slice (some ⟨g, 0, none⟩) n' cap)) := by
  have hgr : g ≠ r := fun e => h.apv.1 (by rw [e]; rfl)
  have ht1 : Trs (rgS r (.slice (some ⟨g, 0, none⟩) n cap)) w w6 := (Trs.refl _ w).grown hg (fun k hk => mem_rgS.2 (.inr (by rw [← hk]; rfl)))
  have ht2 := ht1.set (p := ⟨r, 4, none⟩) (mem_rgS.2 (.inl rfl)) (.slice (some ⟨g, 0, none⟩) n' cap)
  exact ⟨h.turn ((h.blk.grown hg (fun e => hgr (Option.some.inj e).symm)).set 4 _) (World.ownsRow.kept hO (grown_set w6 ⟨r, 4, none⟩ _) (.inr (fun e => hgr (Option.some.inj e)))) ⟨h.apv.1, h.apv.2, h.apm.2⟩ hl h.lst ht2, ht2⟩
end
end Go.Proofs.YtcjjhaonogfcjaaDoor
