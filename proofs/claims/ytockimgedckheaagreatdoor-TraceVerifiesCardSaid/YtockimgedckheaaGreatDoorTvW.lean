/- trace: an argument that is a slice of Ops (four fields). trace: both Traces side by side; the law's build. trace: the law's back; slices.Equal of like events; First, Last, Chain of a Trace. trace: First, Last, Chain of a Trace. -/
import Derived.Test.YtockimgedckheaaGreatDoorTcLn
import Derived.Test.YtockimgedckheaaGreatDoorArgs
import Derived.Deep.Strs
import Derived.Deep.Slices
import Derived.Test.YtockimgedckheaaGreatDoorTvR
import Derived.Test.YtockimgedckheaaGreatDoorTvB
import Derived.Test.YtockimgedckheaaGreatDoorSame
import Derived.Deep.QuietTactic
import Derived.BigQuiet
import Derived.Test.YtockimgedckheaaGreatDoorSlice
set_option maxRecDepth 100000
namespace Go.Proofs.YtockimgedckheaaGreatDoor
open Go.ChangeShapes Go.WideShapes Go.ChangeAt Go.RowKit Go.Shelf
theorem choose_g {α : Type} (n : Nat) (p : Nat → α → Prop) (h : ∀ i, i < n → ∃ x, p i x) : ∃ l : List α, l.length = n ∧ ∀ i (hi : i < l.length), p i l[i] := by
  induction n with
  | zero => exact ⟨[], rfl, fun i hi => by simp at hi⟩
  | succ k ih =>
    obtain ⟨l, hl, hp⟩ := ih (fun i hi => h i (by omega))
    obtain ⟨x, hx⟩ := h k (by omega)
    refine ⟨l ++ [x], by rw [List.length_append, hl]; rfl, fun i hi => ?_⟩
    by_cases hik : i < l.length
    · rw [List.getElem_append_left hik]; exact hp i hik
    · have : i = k := by rw [List.length_append] at hi; simp at hi; omega
      subst this
      rw [List.getElem_append_right (by omega)]
      simpa [hl] using hx
/-- An Op: a tick, a kind, a connection, a text. -/
structure OpT where
  tick : Nat
  kind : List UInt8
  conn : Int
  text : List UInt8
def opC (o : OpT) : List Value := [.int .u64 o.tick, str o.kind, .int .i64 o.conn, str o.text]
structure OpT.ok (o : OpT) : Prop where
  k : o.kind.length ≤ 9223372036854775807
  t : o.text.length ≤ 9223372036854775807
/-- The slice v, nil or not, holds the Ops ls, all of them below block B. -/
def OpsT (w : World) (B : Nat) (v : Value) (ls : List OpT) : Prop :=
  ∃ A c, v = .slice A ls.length c ∧ ls.length ≤ c ∧ c ≤ 9223372036854775807 ∧ (0 < ls.length → ∃ b o, A = some ⟨b, o, none⟩ ∧ b < B ∧ ∀ j (h : j < ls.length), (∀ k v, (opC ls[j])[k]? = some v → w.cell? ⟨b, o + j * 4 + k, none⟩ = some v) ∧ ls[j].ok)
theorem OpsT.below {w w' : World} {B B' : Nat} {v : Value} {ls : List OpT} (h : OpsT w B v ls) (hb : Below B' w w') (hB : B ≤ B') : OpsT w' B v ls := by
  obtain ⟨A, c, e, h1, h2, h⟩ := h
  refine ⟨A, c, e, h1, h2, fun hl => ?_⟩
  obtain ⟨g, o, hg, hlt, h3⟩ := h hl
  exact ⟨g, o, hg, hlt, fun j hj => ⟨fun k u hu => (hb.cell (p := ⟨g, o + j * 4 + k, none⟩) (by show g < B'; omega)).trans ((h3 j hj).1 k u hu), (h3 j hj).2⟩⟩
section
variable {H : Type} {enc : TypeId × Value → H}
theorem cells_op4 : Tryz.prog.cellsOf 94 = 4 := by kernel_rfl
theorem u64_of_trod {W : World} {base fuel : Nat} {v : Value} {x : DataW H × List MemPlace} (hf : DataW.trod enc Tryz.prog W base (fun _ => true) true fuel 22 [v] = some x) : ∃ k : Nat, v = .int .u64 (k : Int) := by
  obtain ⟨n, hv, _, hw⟩ := DataW.trod_int Tryz.underlying22 hf
  simp only [List.cons.injEq, and_true] at hv
  subst hv
  simp [Lit.wf, IntKind.min, IntKind.max, IntKind.bits, IntKind.signed] at hw
  exact ⟨n.toNat, by rw [show ((n.toNat : Nat) : Int) = n by omega]⟩
theorem i64_of_trod {W : World} {base fuel : Nat} {v : Value} {x : DataW H × List MemPlace} (hf : DataW.trod enc Tryz.prog W base (fun _ => true) true fuel 3 [v] = some x) : ∃ k : Int, v = .int .i64 k := by
  obtain ⟨n, hv, _, hw⟩ := DataW.trod_int Tryz.underlying3 hf
  simp only [List.cons.injEq, and_true] at hv
  exact ⟨n, hv⟩
theorem str_of_trod {W : World} {base fuel : Nat} {v : Value} {x : DataW H × List MemPlace} (hf : DataW.trod enc Tryz.prog W base (fun _ => true) true fuel 9 [v] = some x) : ∃ s : List UInt8, v = str s ∧ s.length ≤ 9223372036854775807 := by
  obtain ⟨s1, hv, _, hs1⟩ := DataW.trod_string Tryz.underlying9 hf
  simp only [List.cons.injEq, and_true] at hv
  subst hv
  exact ⟨s1.data.toList, by simp, by unfold maxLen at hs1; simpa using hs1⟩
theorem trod_struct4 {P : Program} {w : World} {base : Nat} {spare : Nat → Bool} {held : Bool} {t : TypeId} {f0 f1 f2 f3 : Field} {fuel : Nat} {cs : List Value} {x : DataW H × List MemPlace} (ht : P.underlying t = some (.struct #[f0, f1, f2, f3])) (h : DataW.trod enc P w base spare held fuel t cs = some x) :
    ∃ y0 y1 y2 y3 n, DataW.trod enc P w base spare held n f0.type ((cs.drop f0.offset).take (P.cellsOf f0.type)) = some y0 ∧
      DataW.trod enc P w base spare held n f1.type ((cs.drop f1.offset).take (P.cellsOf f1.type)) = some y1 ∧ DataW.trod enc P w base spare held n f2.type ((cs.drop f2.offset).take (P.cellsOf f2.type)) = some y2 ∧
      DataW.trod enc P w base spare held n f3.type ((cs.drop f3.offset).take (P.cellsOf f3.type)) = some y3 := by
  obtain ⟨xs, n, _, rfl, hl, hlen, hf⟩ := DataW.trod_struct ht h
  match xs, hlen with
  | [y0, y1, y2, y3], _ => exact ⟨y0, y1, y2, y3, n, by simpa using hf 0 f0 rfl, by simpa using hf 1 f1 rfl, by simpa using hf 2 f2 rfl, by simpa using hf 3 f3 rfl⟩
theorem open_gops {W : World} {base : Nat} {v : Value} {d : DataW H} {ps : List MemPlace} (hval : Value.okWide Tryz.prog W .any base 38 v) (h : DataW.Trod enc Tryz.prog W 0 (fun _ => true) true 38 v d ps) :
    ∃ ls, OpsT W W.heap.size v ls := by
  obtain ⟨a1, len, cap, rfl⟩ := okWide_slice Tryz.underlying38 hval
  obtain ⟨fuel, hf⟩ := h
  rcases Go.Deep.open_slice Tryz.underlying38 hf with ⟨hcs, _⟩ | ⟨a, len', cap', m, n, D, Pl, hcs, _, hl, hm, hmm, _, hx⟩
  · simp [Value.cells] at hcs
    obtain ⟨rfl, rfl, rfl⟩ := hcs
    exact ⟨[], none, 0, rfl, by simp, by omega, fun h => by simp at h⟩
  · simp [Value.cells] at hcs
    obtain ⟨rfl, rfl, rfl⟩ := hcs
    simp only [if_true] at hmm
    subst hmm
    rw [cells_op4] at hx
    obtain ⟨ab, ao, spot⟩ := a
    have hs0 : 0 < len → spot = none := by
      intro h0
      obtain ⟨cs, hc, _⟩ := hx 0 (by omega)
      have k0 := (World.cells?_some hc).2.2 0 (by omega)
      have hl0 : cs.length = 4 := (World.cells?_some hc).2.1
      rw [List.getElem?_eq_getElem (by omega)] at k0
      simpa [Addr.add] using World.cell?_spot k0
    have key : ∀ i, i < len → ∃ x : OpT, (∀ k v, (opC x)[k]? = some v → W.cell? ⟨ab, ao + i * 4 + k, none⟩ = some v) ∧ x.ok := by
      intro i hi
      obtain ⟨cs, hc, ht⟩ := hx i (by omega)
      obtain ⟨_, hcl, hat⟩ := World.cells?_some hc
      obtain ⟨c0, c1, c2, c3, rfl⟩ : ∃ c0 c1 c2 c3, cs = [c0, c1, c2, c3] := by
        match cs, hcl with
        | [c0, c1, c2, c3], _ => exact ⟨c0, c1, c2, c3, rfl⟩
      obtain ⟨y0, y1, y2, y3, n', h0, h1, h2, h3⟩ := trod_struct4 Tryz.underlying94 ht
      have hspot : spot = none := hs0 (by omega)
      subst hspot
      obtain ⟨n0, rfl⟩ := u64_of_trod (v := c0) h0
      obtain ⟨s1, rfl, hl1⟩ := str_of_trod (v := c1) h1
      obtain ⟨n2, rfl⟩ := i64_of_trod (v := c2) h2
      obtain ⟨s3, rfl, hl3⟩ := str_of_trod (v := c3) h3
      refine ⟨⟨n0, s1, n2, s3⟩, fun k u hu => ?_, ⟨hl1, hl3⟩⟩
      have hk : k < 4 := (List.getElem?_eq_some_iff.1 hu).1
      have kk := hat k hk
      rw [Go.Deep.add_add, Addr.add_lit] at kk
      rw [Nat.add_assoc, kk]
      exact hu
    obtain ⟨ls, hls, hp⟩ := choose_g len _ key
    refine ⟨ls, some ⟨ab, ao, spot⟩, m, by rw [hls], by rw [hls]; exact hl, by unfold maxLen at hm; omega, fun h0 => ?_⟩
    have hs := hs0 (by omega)
    subst hs
    have hlt : ab < W.heap.size := World.block_lt_of_cell? W ⟨ab, ao + 0 * 4 + 0, none⟩ ((hp 0 h0).1 0 _ rfl)
    exact ⟨ab, ao, rfl, hlt, fun j hj => hp j hj⟩
end
end Go.Proofs.YtockimgedckheaaGreatDoor
set_option maxRecDepth 100000
namespace Go.Proofs.YtockimgedckheaaGreatDoor
open Go Go.RowKit Go.Shelf
attribute [local go_sem] Oper.semAt_some
def z32 : List UInt8 := List.replicate 32 0
abbrev tQ (b : Nat) : Value := .pointer (some ⟨b, 0, none⟩)
/-- Both Traces, over all events. -/
structure PT (w : World) (base T room : Nat) (V C : Value) (bx : Nat) (VX : Value) (all : List EvL) : Prop where
  tr : TR w base T room V C (lastL room all) all.length (chainR z32 all)
  xt : XT w base bx room VX all
  ap : ∀ k ∈ trS T V C, k ≠ bx ∧ VX.ownBlock ≠ some k
  ok : ∀ e ∈ all, e.Ok
section
variable {w w' : World} {base T room bx : Nat} {V C VX : Value} {all : List EvL}
theorem PT.below (h : PT w base T room V C bx VX all) (hb : Below w.heap.size w w') : PT w' base T room V C bx VX all := ⟨h.tr.below hb, h.xt.below hb, h.ap, h.ok⟩
theorem EvL.Ok.kind {e : EvL} (h : e.Ok) : e.kind.length ≤ 600 := by
  have := h.k
  unfold plainL at this
  simp only [Bool.and_eq_true, decide_eq_true_eq] at this
  omega
theorem chain_step (all : List EvL) (e : EvL) (h : e.Ok) : chainR z32 (all ++ [e]) = sumL (chainR z32 all ++ evLine e) := by
  rw [chainR_snoc]; unfold lineR; rw [if_pos ((okB_iff e).2 h)]
theorem lastL_len (room : Nat) (L : List EvL) : (lastL room L).length ≤ room := by unfold lastL; rw [List.length_drop]; omega
/-- One more event comes to both, or to none. -/
theorem PT.add (h : PT w base T room V C bx VX all) (hal : all.length ≤ 60) (tick : Nat) (kd : List UInt8) (cn : Int) (tx : List UInt8) (hkd : kd.length ≤ 600) :
    Calls Tryz.prog 26 #[tQ T, .int .u64 tick, str kd, .int .i64 cn, str tx] w fun x w1 => ∃ n f : Int, x = .returned (.tuple #[.int .u64 n, .int .i64 f]) ∧ Trs (trS T V C) w w1 ∧
      Calls Tryz.prog 47 #[tQ bx, .int .u64 tick, str kd, .int .i64 cn, str tx] w1 fun y w2 => y = .returned (.tuple #[.int .u64 n, .int .i64 f]) ∧ Trs [bx] w1 w2 ∧
        ∃ V' C' VX' all', PT w2 base T room V' C' bx VX' all' ∧ (all' = all ∨ all' = all ++ [⟨all.length + 1, tick, kd, cn, tx⟩]) := by
  obtain ⟨e, he⟩ : ∃ e : EvL, e = ⟨all.length + 1, tick, kd, cn, tx⟩ := ⟨_, rfl⟩
  have hbxn : ∀ k ∈ trS T V C, k ≠ bx := fun k hk => (h.ap k hk).1
  cases ho : okB e with
  | true =>
    have hok : e.Ok := (okB_iff e).1 ho
    rw [he] at hok
    refine (add_ok h.tr (lastL_len room all) tick kd cn tx hok (by omega)).mono ?_
    rintro x w1 ⟨rfl, V', C', hT, ht, hs⟩
    refine ⟨_, _, rfl, ht, ?_⟩
    have hx1 : XT w1 base bx room VX all := h.xt.trs ht (fun hk => (h.ap _ hk).1 rfl) (fun k hk hm => (h.ap k hm).2 hk)
    refine (refAdd_ok hx1 (by omega) tick kd cn tx hok).mono ?_
    rintro y w2 ⟨rfl, VX', hX2, ht2, hs2⟩
    refine ⟨rfl, ht2, V', C', VX', all ++ [⟨all.length + 1, tick, kd, cn, tx⟩], ⟨?_, hX2, ?_, ?_⟩, .inr rfl⟩
    · rw [keep_last room h.tr.r1] at hT
      have hbxl : bx < w.heap.size := h.xt.blk.lt
      have := hT.trs ht2 (fun k hk hm => by
        have e2 : k = bx := by simpa using hm
        rcases hs k hk with q | q
        · exact hbxn k q e2
        · omega) (fun k hk => by have e2 : k = bx := by simpa using hk
                                 rw [e2]; exact h.xt.geb)
      rw [List.length_append, List.length_singleton, chain_step all _ hok]
      exact this
    · intro k hk
      have hbxl : bx < w.heap.size := h.xt.blk.lt
      have hk1 : k < w1.heap.size := (hT.inS k hk).2
      refine ⟨?_, fun q => by have := hs2 k q; omega⟩
      rcases hs k hk with q | q
      · exact hbxn k q
      · omega
    · intro x hx
      rcases List.mem_append.1 hx with q | q
      · exact h.ok x q
      · rw [List.mem_singleton.1 q]; exact hok
  | false =>
    have hno : ¬ e.Ok := okB_false e ho
    rw [he] at hno
    refine (add_bad h.tr tick kd cn tx hkd hno).mono ?_
    rintro x w1 ⟨rfl, hb⟩
    have h1 := h.below hb
    refine ⟨_, _, rfl, Trs.of_below hb, (refAdd_bad h1.xt tick kd cn tx hkd hno).mono ?_⟩
    rintro y w2 ⟨rfl, hb2⟩
    exact ⟨rfl, Trs.of_below hb2, V, C, VX, all, h1.below hb2, .inl rfl⟩
end
/-- Both new. -/
theorem PT.new (w : World) (room : Nat) (h1 : 1 ≤ room) (h2 : room ≤ 256) (hT : TabA w) (hE : PowE w) :
    PT (((w.alloc (.cells (noughts 32) 5)).alloc (.cells #[.int .i64 (room : Int), .slice none 0 0, .int .u64 0, .slice (some ⟨w.heap.size, 0, none⟩) 32 32] 101)).alloc (.cells #[.int .i64 (room : Int), .slice none 0 0] 54))
      w.heap.size (w.heap.size + 1) room (.slice none 0 0) (.slice (some ⟨w.heap.size, 0, none⟩) 32 32) (w.heap.size + 2) (.slice none 0 0) [] := by
  have e0 : lastL room [] = [] := by simp [lastL]
  refine ⟨by rw [e0]; exact (TR.new w room h1 h2 hT hE).below ((Below.refl _ _).alloc (Nat.le_refl _) _), ⟨?_, OwnV.nil _ _ _, by omega, by simp [Value.ownBlock], by simp⟩, ?_, by simp⟩
  · have := Blk.new ((w.alloc (.cells (noughts 32) 5)).alloc (.cells #[.int .i64 (room : Int), .slice none 0 0, .int .u64 0, .slice (some ⟨w.heap.size, 0, none⟩) 32 32] 101)) [.int .i64 (room : Int), .slice none 0 0] 54
    rw [World.size_alloc, World.size_alloc] at this
    exact this
  · intro k hk
    refine ⟨?_, by simp [Value.ownBlock]⟩
    rcases mem_trS.1 hk with q | q | q
    · omega
    · simp [Value.ownBlock] at q
    · have : w.heap.size = k := by simpa [Value.ownBlock] using q
      omega
set_option maxHeartbeats 8000000 in
theorem build_any (room : Nat) (h1 : 1 ≤ room) (h2 : room ≤ 256) (B : Nat) (vl : Value) (ops : List OpT) (w : World) (hops : OpsT w B vl ops) (hB : B ≤ w.heap.size) (hT : TabA w) (hE : PowE w) :
    Calls Tryz.prog 13 #[.int .i64 (room : Int), vl] w fun e w' => e = .returned (.tuple #[tQ (w.heap.size + 1), tQ (w.heap.size + 2), .bool true]) ∧ (∃ V C VX all, PT w' w.heap.size (w.heap.size + 1) room V C (w.heap.size + 2) VX all ∧ all.length ≤ 40) ∧ Below w.heap.size w w' := by
  have HNW := Lib.hid (trNew_eq (room : Int) (by omega) (by omega) w)
  have HPN := Lib.hid (PT.new w room h1 h2 hT hE)
  have HOP := Lib.hid hops
  obtain ⟨A, c, rfl, k1, k2, -⟩ := hops
  clear hT hE h1 h2
  go_enter Tryz.func13, Tryz.ntmps13
  go_wp2_with fail
  refine HNW.out.mono ?_
  rintro e w1 ⟨rfl, hw1⟩
  obtain ⟨w2, hw2⟩ : ∃ w2, w2 = w1.alloc (.cells #[.int .i64 (room : Int), .slice none 0 0] 54) := ⟨_, rfl⟩
  have hz1 : w1.heap.size = w.heap.size + 2 := by rw [hw1]; simp
  have HP2 := Lib.hid (show PT w2 w.heap.size (w.heap.size + 1) room (.slice none 0 0) (.slice (some ⟨w.heap.size, 0, none⟩) 32 32) (w.heap.size + 2) (.slice none 0 0) [] from by rw [hw2, hw1]; exact HPN.out)
  have HB2 := Lib.hid (show Below w.heap.size w w2 from by rw [hw2, hw1]; exact (((Below.refl _ w).alloc (Nat.le_refl _) _).alloc (by simp) _).alloc (by simp; omega) _)
  clear HPN hw1
  go_wp2_with fail
  rw [← hw2]
  clear hw2
  go_loopw [30] (fun i wr => ∃ (k : Nat) (V C VX : Value) (all : List EvL), i = .int .i64 (k : Int) ∧ k ≤ 40 ∧ k ≤ ops.length ∧ all.length ≤ k ∧ PT wr w.heap.size (w.heap.size + 1) room V C (w.heap.size + 2) VX all ∧ Below w.heap.size w wr) (fun i _ => ops.length - (intOf i).toNat)
  case atStart => exact ⟨0, _, _, _, [], rfl, by omega, by omega, by simp, HP2.out, HB2.out⟩
  case round =>
    obtain ⟨k, V, C, VX, all, rfl, hk40, hkl, hal, hP, hb⟩ := hrel
    have HP := Lib.hid hP
    have HB := Lib.hid hb
    clear hP hb
    by_cases hlt : k < ops.length
    · obtain ⟨b0, o0, hA, hb0, hat⟩ := (show ∃ b o, A = some ⟨b, o, none⟩ ∧ b < B ∧ ∀ j (h : j < ops.length), (∀ k v, (opC ops[j])[k]? = some v → wr.cell? ⟨b, o + j * 4 + k, none⟩ = some v) ∧ ops[j].ok from by
        obtain ⟨A', c', e, _, _, h⟩ := HOP.out.below HB.out hB
        injection e with e1 _ _
        subst e1
        exact h (by omega))
      subst hA
      obtain ⟨hcs, hok⟩ := hat k hlt
      obtain ⟨⟨tk, kd, cn, tx⟩, hy⟩ : ∃ y, y = ops[k] := ⟨_, rfl⟩
      rw [← hy] at hcs hok
      have c0 : wr.cell? ⟨b0, o0 + k * 4, none⟩ = some (.int .u64 tk) := hcs 0 _ rfl
      have c1 : wr.cell? ⟨b0, o0 + k * 4 + 1, none⟩ = some (str kd) := hcs 1 _ rfl
      have c2 : wr.cell? ⟨b0, o0 + k * 4 + 2, none⟩ = some (.int .i64 cn) := hcs 2 _ rfl
      have c3 : wr.cell? ⟨b0, o0 + k * 4 + 3, none⟩ = some (str tx) := hcs 3 _ rfl
      obtain ⟨q1, q2⟩ := hok
      simp only at q1 q2
      have HC1 := Lib.hid (fun W => cutText_any kd 40 W q1 (by omega) (by omega))
      have HC2 := Lib.hid (fun W => cutText_any tx 210 W q2 (by omega) (by omega))
      have HAL := Lib.hid hal
      clear hcs hat hy q1 q2 hal
      by_cases h40 : k = 40
      · subst h40
        have e40 : ((40 : Nat) : Int) = 40 := rfl
        go_wp2_with fail
        go_ret3
        exact ⟨rfl, ⟨V, C, VX, all, HP.out.below ((Below.refl _ _).alloc (Nat.le_refl _) _), HAL.out⟩, HB.out.alloc HB.out.size _⟩
      · have h40' : ¬ (40 : Int) ≤ (k : Int) := by omega
        have d40 : decide ((40 : Int) ≤ (k : Int)) = false := decide_eq_false h40'
        obtain ⟨A2, hA2⟩ : ∃ A2, A2 = wr.alloc (.cells #[.int .u64 tk, str kd, .int .i64 cn, str tx] 94) := ⟨_, rfl⟩
        have HBA := Lib.hid (show Below wr.heap.size wr A2 from by rw [hA2]; exact (Below.refl _ wr).alloc (Nat.le_refl _) _)
        have HKA := Lib.hid (show Blk A2 wr.heap.size [.int .u64 tk, str kd, .int .i64 cn, str tx] from by rw [hA2]; exact Blk.new wr _ _)
        obtain ⟨K2, hK2⟩ : ∃ x, x = kd.take (Int.toNat 40) := ⟨_, rfl⟩
        obtain ⟨T2, hT2⟩ : ∃ x, x = tx.take (Int.toNat 210) := ⟨_, rfl⟩
        have hKl : K2.length ≤ 600 := by rw [hK2, List.length_take]; have : Int.toNat 40 = 40 := rfl; omega
        rw [← hK2] at HC1
        rw [← hT2] at HC2
        have e0 : A2.cell? ⟨wr.heap.size, 0, none⟩ = some (.int .u64 tk) := HKA.out.at (o := 0) rfl
        have e1 : A2.cell? ⟨wr.heap.size, 1, none⟩ = some (str kd) := HKA.out.at (o := 1) rfl
        have e2 : A2.cell? ⟨wr.heap.size, 2, none⟩ = some (.int .i64 cn) := HKA.out.at (o := 2) rfl
        have e3 : A2.cell? ⟨wr.heap.size, 3, none⟩ = some (str tx) := HKA.out.at (o := 3) rfl
        clear hK2 hT2
        go_wp2_with fail
        rw [← hA2]
        clear hA2 c0 c1 c2 c3
        go_quiet (first | (go_at_call 8; with_reducible exact Calls.quiet_of_same ((HC1.out _).mono fun _ _ h => ⟨h.1, h.2.symm⟩)) | (go_at_call 8; with_reducible exact Calls.quiet_of_same ((HC2.out _).mono fun _ _ h => ⟨h.1, h.2.symm⟩)))
        have HPd := Lib.hid ((HP.out.below HBA.out).below (below_drewN (Below.refl A2.heap.size A2) nq))
        have HKd := Lib.hid (show Blk (A2.drewN nq) wr.heap.size _ from HKA.out.drewN nq)
        have HAD := Lib.hid (HPd.out.add (by have := HAL.out; omega) tk K2 cn T2 hKl)
        clear HC1 HC2
        go_wp2_with fail
        refine HAD.out.mono ?_
        rintro x w5 ⟨n, f, rfl, ht, hC⟩
        have hnt : wr.heap.size ∉ trS (w.heap.size + 1) V C := fun hm => by have := (HP.out.tr.inS _ hm).2; omega
        have hk5 := ht.blk HKd.out hnt
        have f0 : w5.cell? ⟨wr.heap.size, 0, none⟩ = some (.int .u64 tk) := hk5.at (o := 0) rfl
        have f1 : w5.cell? ⟨wr.heap.size, 1, none⟩ = some (str kd) := hk5.at (o := 1) rfl
        have f2 : w5.cell? ⟨wr.heap.size, 2, none⟩ = some (.int .i64 cn) := hk5.at (o := 2) rfl
        have f3 : w5.cell? ⟨wr.heap.size, 3, none⟩ = some (str tx) := hk5.at (o := 3) rfl
        have hz5 : w.heap.size ≤ (A2.drewN nq).heap.size := by have := HBA.out.size; have := HB.out.size; show w.heap.size ≤ A2.heap.size; omega
        have HB5 := Lib.hid (((HB.out.trans (HBA.out.mono HB.out.size)).trans (below_drewN (Below.refl w.heap.size A2) nq)).trans (ht.toBelow hz5 (fun q hq => (HP.out.tr.inS q hq).1)))
        have HC := Lib.hid hC
        clear hC ht hk5 hnt e0 e1 e2 e3 HAD
        go_wp2_with fail
        refine HC.out.mono ?_
        rintro y w6 ⟨rfl, ht2, V', C', VX', all', hP', hall⟩
        have HB6 := Lib.hid (HB5.out.trans (ht2.toBelow HB5.out.size (fun q hq => by rw [List.mem_singleton] at hq; omega)))
        have HP6 := Lib.hid hP'
        have HAL6 : Hid (all'.length ≤ k + 1) := Lib.hid (by
          have := HAL.out
          rcases hall with q | q
          · rw [q]; omega
          · rw [q, List.length_append]; simp; omega)
        clear ht2 hP' hall f0 f1 f2 f3 HC
        go_wp2_with fail
        go_roundw
        case rel => exact ⟨k + 1, V', C', VX', all', by go_num, by omega, by omega, HAL6.out, HP6.out, HB6.out⟩
        case measure => simp [intOf]; omega
    · have hkx : k = ops.length := by omega
      have HAL := Lib.hid hal
      clear hal
      go_wp2_with fail
      go_ret3
      exact ⟨rfl, ⟨V, C, VX, all, HP.out, by have := HAL.out; omega⟩, HB.out⟩
end Go.Proofs.YtockimgedckheaaGreatDoor
set_option maxRecDepth 100000
namespace Go.Proofs.YtockimgedckheaaGreatDoor
open Go.RowKit Go.Shelf
attribute [local go_sem] Oper.semAt_some
set_option maxHeartbeats 4000000 in
theorem back_any (B : Nat) (v : Value) (l : List EvL) (w : World) (hl : EvIn w B v l) (hB : B ≤ w.heap.size) (hll : l.length ≤ 1000) :
    Calls Tryz.prog 16 #[v] w fun e w' => ∃ v', e = .returned v' ∧ OwnV tEr w' w.heap.size v' l ∧ Below w.heap.size w w' := by
  have HLI := Lib.hid hl
  obtain ⟨AL, cL, rfl, k1, ⟨k2, _⟩, -⟩ := hl
  go_enter Tryz.func16, Tryz.ntmps16
  go_wp2_with fail
  go_loopw [3, 8] (fun c i wr => ∃ k : Nat, k ≤ l.length ∧ i = .int .i64 (k : Int) ∧ OwnV tEr wr w.heap.size c (l.take k) ∧ Below w.heap.size w wr) (fun _ i _ => l.length - (intOf i).toNat)
  case atStart => exact ⟨0, by omega, rfl, by rw [List.take_zero]; exact OwnV.nil _ _ _, Below.refl _ _⟩
  case round =>
    obtain ⟨k, hkl, rfl, hs, hb⟩ := hrel
    have HS := Lib.hid hs
    have HB := Lib.hid hb
    clear hs hb
    by_cases hlt : k < l.length
    · obtain ⟨g0, o0, hAs, hgl, c0, c1, c2, c3, c4⟩ := (HLI.out.below HB.out hB).five k hlt
      subst hAs
      obtain ⟨y, hy⟩ : ∃ y, y = l[k] := ⟨_, rfl⟩
      rw [← hy] at c0 c1 c2 c3 c4
      have htk : l.take (k + 1) = l.take k ++ [y] := by rw [List.take_succ_eq_append_getElem hlt, ← hy]
      have hfl : (l.take k).length ≤ 1000 := by rw [List.length_take]; omega
      obtain ⟨F, hF⟩ : ∃ F, F = l.take k := ⟨_, rfl⟩
      rw [← hF] at htk hfl HS
      have HTK := Lib.hid htk
      have HFL := Lib.hid hfl
      obtain ⟨A2, hA2⟩ : ∃ A2, A2 = wr.alloc (.cells #[.int .u64 y.n, .int .u64 y.tick, str y.kind, .int .i64 y.conn, str y.text] tEv) := ⟨_, rfl⟩
      obtain ⟨A3, hA3⟩ : ∃ A3, A3 = A2.alloc (.cells #[.int .u64 y.n, .int .u64 y.tick, str y.kind, .int .i64 y.conn, str y.text] tEr) := ⟨_, rfl⟩
      have hb3 : Below wr.heap.size wr A3 := by rw [hA3, hA2]; exact ((Below.refl _ wr).alloc (Nat.le_refl _) _).alloc (by simp) _
      have HB3 := Lib.hid hb3
      have HO3 := Lib.hid (HS.out.below hb3)
      have HN3 := Lib.hid (show A3.heap[A2.heap.size]? = some (.cells y.cells.toArray tEr (0, 0)) from by rw [hA3]; exact heap_alloc_new A2 _)
      have HA3 := Lib.hid (show A3 = (wr.alloc (.cells #[.int .u64 y.n, .int .u64 y.tick, str y.kind, .int .i64 y.conn, str y.text] tEv)).alloc (.cells #[.int .u64 y.n, .int .u64 y.tick, str y.kind, .int .i64 y.conn, str y.text] tEr) from by rw [hA3, hA2])
      have hz2 : A2.heap.size = wr.heap.size + 1 := by rw [hA2]; simp
      have HZ := Lib.hid hz2
      have HZB := Lib.hid (show w.heap.size ≤ A3.heap.size from by have := hb3.size; have := HB.out.size; omega)
      clear htk hF hy hfl hA3 hA2 hb3
      go_wp2_with (at_builtin; (refine wpList_app_ev evTr rfl (.tmp 12) (.tmp 14) rfl w.heap.size u3 F y rfl (by have := HO3.out; rw [HA3.out] at this; exact this) (wr.heap.size + 1) rfl (by have := HN3.out; rw [HA3.out, HZ.out] at this; exact this) (by have := HFL.out; omega) (by have := HZB.out; rw [HA3.out] at this; exact this) ?_); intro v5 w5 hO5 hg5 _; rw [← HA3.out] at hg5; have HB5 := Lib.hid ((HB.out.trans (HB3.out.mono HB.out.size)).trans (HO3.out.belowBase hg5 HZB.out)); have HO5 := Lib.hid hO5; clear hO5 hg5)
      go_roundw
      case rel => exact ⟨k + 1, by omega, by go_num, by rw [HTK.out]; exact HO5.out, HB5.out⟩
      case measure => simp [intOf]; omega
    · have hkx : k = l.length := by omega
      rw [hkx, List.take_length] at HS
      go_wp2_with fail
      go_ret
      exact ⟨_, rfl, HS.out, HB.out⟩
set_option maxHeartbeats 4000000 in
theorem equalEv_same (B1 B2 : Nat) (v1 v2 : Value) (l : List EvL) (w : World) (h1 : EvIn w B1 v1 l) (h2 : EvIn w B2 v2 l) (hll : l.length ≤ 1000) :
    Calls Tryz.prog 15 #[v1, v2] w fun e w' => e = .returned (.bool true) ∧ ∃ q, w' = w.drewN q := by
  have H1 := Lib.hid h1
  have H2 := Lib.hid h2
  obtain ⟨A1, c1, rfl, k1, ⟨k2, _⟩, -⟩ := h1
  obtain ⟨A2, c2, rfl, k3, ⟨k4, _⟩, -⟩ := h2
  go_enter Tryz.func15, Tryz.ntmps15
  go_wp2_with fail
  go_loopw [13] (fun i wr => ∃ k : Nat, k ≤ l.length ∧ i = .int .i64 (k : Int) ∧ ∃ q, wr = w.drewN q) (fun i _ => l.length - (intOf i).toNat)
  case atStart => exact ⟨0, by omega, rfl, 0, rfl⟩
  case round =>
    obtain ⟨k, hkl, rfl, q, rfl⟩ := hrel
    by_cases hlt : k < l.length
    · obtain ⟨g0, o0, hAs, hgl, c0, c1', c2', c3, c4⟩ := H1.out.five k hlt
      obtain ⟨g1, o1, hAt, hgm, d0, d1, d2, d3, d4⟩ := H2.out.five k hlt
      subst hAs; subst hAt
      obtain ⟨y, hy⟩ : ∃ y, y = l[k] := ⟨_, rfl⟩
      rw [← hy] at c0 c1' c2' c3 c4 d0 d1 d2 d3 d4
      have a0 : (w.drewN q).cell? ⟨g0, o0 + k * 5, none⟩ = _ := c0
      have a1 : (w.drewN q).cell? ⟨g0, o0 + k * 5 + 1, none⟩ = _ := c1'
      have a2 : (w.drewN q).cell? ⟨g0, o0 + k * 5 + 2, none⟩ = _ := c2'
      have a3 : (w.drewN q).cell? ⟨g0, o0 + k * 5 + 3, none⟩ = _ := c3
      have a4 : (w.drewN q).cell? ⟨g0, o0 + k * 5 + 4, none⟩ = _ := c4
      have b0 : (w.drewN q).cell? ⟨g1, o1 + k * 5, none⟩ = _ := d0
      have b1 : (w.drewN q).cell? ⟨g1, o1 + k * 5 + 1, none⟩ = _ := d1
      have b2 : (w.drewN q).cell? ⟨g1, o1 + k * 5 + 2, none⟩ = _ := d2
      have b3 : (w.drewN q).cell? ⟨g1, o1 + k * 5 + 3, none⟩ = _ := d3
      have b4 : (w.drewN q).cell? ⟨g1, o1 + k * 5 + 4, none⟩ = _ := d4
      clear hy
      obtain ⟨wq, hwq⟩ : ∃ x, x = w.drewN q := ⟨_, rfl⟩
      rw [← hwq] at a0 a1 a2 a3 a4 b0 b1 b2 b3 b4 ⊢
      have HWQ := Lib.hid hwq
      clear hwq c0 c1' c2' c3 c4 d0 d1 d2 d3 d4
      go_wp2_with fail
      go_quiet (fail)
      go_wp2_with fail
      refine ⟨⟨k + 1, by omega, by go_num, q + nq, ?_⟩, ?_⟩
      · rw [HWQ.out]; simp [World.drewN, Nat.add_assoc]
      · simp [intOf]; omega
    · go_wp2_with fail
      go_ret
      exact ⟨rfl, q, rfl⟩
end Go.Proofs.YtockimgedckheaaGreatDoor
set_option maxRecDepth 100000
namespace Go.Proofs.YtockimgedckheaaGreatDoor
open Go.RowKit Go.Shelf
attribute [local go_sem] Oper.semAt_some
def firstN : List EvL → Nat
  | [] => 0
  | x :: _ => x.n
section
variable {w : World} {base b room last : Nat} {V C : Value} {L : List EvL} {ch : List UInt8}
theorem trLast_any (h : TR w base b room V C L last ch) : Calls Tryz.prog 20 #[.pointer (some ⟨b, 0, none⟩)] w fun e w' => e = .returned (.int .u64 (last : Int)) ∧ w' = w := by
  have k2 : w.cell? ⟨b, 2, none⟩ = some (.int .u64 (last : Int)) := h.blk.at (o := 2) rfl
  clear h
  go_enter Tryz.func20, Tryz.ntmps20
  go_wp2_with fail
  go_ret
  exact ⟨rfl, rfl⟩
theorem trFirst_any (h : TR w base b room V C L last ch) : Calls Tryz.prog 19 #[.pointer (some ⟨b, 0, none⟩)] w fun e w' => e = .returned (.int .u64 (firstN L : Int)) ∧ w' = w := by
  have k1 : w.cell? ⟨b, 1, none⟩ = some V := h.blk.at (o := 1) rfl
  obtain ⟨A, c, e, hc1, hc2⟩ := h.own.form
  have hev := h.own.evIn
  rw [e] at k1 hev
  cases L with
  | nil =>
    clear h hev
    rw [List.length_nil] at k1
    go_enter Tryz.func19, Tryz.ntmps19
    go_wp2_with fail
    go_ret
    exact ⟨rfl, rfl⟩
  | cons x t =>
    obtain ⟨g, o, rfl, _, c0, _, _, _, _⟩ := hev.five 0 (by simp)
    obtain ⟨n, hn⟩ : ∃ n, n = (x :: t).length := ⟨_, rfl⟩
    have hn1 : 0 < n := by rw [hn]; simp
    rw [← hn] at k1 hc1
    have c0' : w.cell? ⟨g, o, none⟩ = some (.int .u64 (x.n : Int)) := by simpa using c0
    have hne : ¬ (n : Int) = 0 := by omega
    have hn0 : (0 : Int) < (n : Int) := by omega
    have hnb : ((n : Int) == 0) = false := beq_eq_false_iff_ne.2 hne
    clear h hev hn c0
    go_enter Tryz.func19, Tryz.ntmps19
    go_wp2_with fail
    go_ret
    exact ⟨rfl, rfl⟩
theorem trChain_any (h : TR w base b room V C L last ch) : Calls Tryz.prog 22 #[.pointer (some ⟨b, 0, none⟩)] w fun e w' => ∃ v, e = .returned v ∧ OwnB w' w.heap.size v ch ∧ Below w.heap.size w w' := by
  have k3 : w.cell? ⟨b, 3, none⟩ = some C := h.blk.at (o := 3) rfl
  obtain ⟨g, cap, e, -⟩ := h.chn.form (by rw [h.c32]; omega)
  have HC := Lib.hid (show Calls Tryz.prog 51 #[C] w _ from by
    have := clone_any w.heap.size ⟨g, 0, none⟩ ch.length cap ch w (by rw [← e]; exact h.chn.sl) (Nat.le_refl _) (by rw [h.c32]; omega)
    rw [← e] at this
    exact this)
  clear h e
  go_enter Tryz.func22, Tryz.ntmps22
  go_wp2_with fail
  refine HC.out.mono ?_
  rintro x w' ⟨v, rfl, ho, hb⟩
  have HO := Lib.hid ho
  have HB := Lib.hid hb
  clear ho hb HC
  go_wp2_with fail
  go_ret
  exact ⟨v, rfl, HO.out, HB.out⟩
end
end Go.Proofs.YtockimgedckheaaGreatDoor
