/- trace: what Of and About want; Of over two kinds. -/
import Derived.Test.YtockimgedckheaaGreatDoorTvB
import Derived.Test.YtockimgedckheaaGreatDoorOwnT
import Derived.Deep.RegionHeld3
set_option maxRecDepth 100000
namespace Go.Proofs.YtockimgedckheaaGreatDoor
open Go Go.RowKit Go.Shelf
attribute [local go_sem] Oper.semAt_some
def abtP (n : Int) (e : EvL) : Bool := e.conn == n
theorem abtW (gb : Nat) (n : Int) (e : EvL) (A : World) (h : A.cell? ⟨gb, 0, none⟩ = some (.int .i64 n)) :
    Calls Tryz.prog 57 #[evA e, .pointer (some ⟨gb, 0, none⟩)] A fun r B => r = .returned (.bool (abtP n e)) ∧ Below A.heap.size A B := by
  obtain ⟨N, t, k, c, s⟩ := e
  have hc : (A.alloc (.cells #[.int .u64 N, .int .u64 t, str k, .int .i64 c, str s] tEv)).cell? ⟨gb, 0, none⟩ = some (.int .i64 n) := cell_belowV h ((Below.refl _ A).alloc (Nat.le_refl _) _)
  have HB := Lib.hid (show Below A.heap.size A (A.alloc (.cells #[.int .u64 N, .int .u64 t, str k, .int .i64 c, str s] tEv)) from (Below.refl _ A).alloc (Nat.le_refl _) _)
  clear h
  unfold evA abtP
  go_enter Tryz.func57, Tryz.ntmps57
  go_wp2_with fail
  go_ret
  exact ⟨rfl, HB.out⟩
def ofP (a b : List UInt8) (e : EvL) : Bool := (e.kind == a) || (e.kind == b)
set_option maxHeartbeats 2000000 in
theorem index2_any (g cp : Nat) (a b x : List UInt8) (w : World) (h0 : w.cell? ⟨g, 0, none⟩ = some (str a)) (h1 : w.cell? ⟨g, 1, none⟩ = some (str b)) :
    Calls Tryz.prog 79 #[.slice (some ⟨g, 0, none⟩) 2 cp, str x] w fun r B => (∃ n : Int, r = .returned (.int .i64 n) ∧ decide (0 ≤ n) = ((x == a) || (x == b))) ∧ B = w := by
  obtain ⟨pa, hpa⟩ : ∃ q, q = (x == a) := ⟨_, rfl⟩
  obtain ⟨pb, hpb⟩ : ∃ q, q = (x == b) := ⟨_, rfl⟩
  rw [← hpa, ← hpb]
  have ea := hpa.symm
  have eb := hpb.symm
  clear hpa hpb
  go_enter Tryz.func79, Tryz.ntmps79
  go_wp2_with fail
  go_loop [8] (fun i => (i = .int .i64 0) ∨ (i = .int .i64 1 ∧ pa = false) ∨ (i = .int .i64 2 ∧ pa = false ∧ pb = false)) (fun i => 2 - (intOf i).toNat)
  case atStart => exact .inl rfl
  case round =>
    rcases hrel with rfl | ⟨rfl, hp⟩ | ⟨rfl, hp, hq⟩
    · cases pa with
      | true =>
        go_wp2_with fail
        go_ret
        exact ⟨⟨0, rfl, by simp⟩, rfl⟩
      | false =>
        go_wp2_with fail
        go_round
        case rel => exact .inr (.inl ⟨by go_num, trivial⟩)
        case measure => simp [intOf]
    · subst hp
      cases pb with
      | true =>
        go_wp2_with fail
        go_ret
        exact ⟨⟨1, rfl, by simp⟩, rfl⟩
      | false =>
        go_wp2_with fail
        go_round
        case rel => exact .inr (.inr ⟨by go_num, by first | rfl | trivial, by first | rfl | trivial⟩)
        case measure => simp [intOf]
    · subst hp; subst hq
      go_wp2_with fail
      go_ret
      exact ⟨⟨-1, rfl, by simp⟩, rfl⟩
theorem contains2_any (g cp : Nat) (a b x : List UInt8) (w : World) (h0 : w.cell? ⟨g, 0, none⟩ = some (str a)) (h1 : w.cell? ⟨g, 1, none⟩ = some (str b)) :
    Calls Tryz.prog 56 #[.slice (some ⟨g, 0, none⟩) 2 cp, str x] w fun r B => r = .returned (.bool ((x == a) || (x == b))) ∧ B = w := by
  have HI := Lib.hid (index2_any g cp a b x w h0 h1)
  clear h0 h1
  go_enter Tryz.func56, Tryz.ntmps56
  go_wp2_with fail
  refine HI.out.mono ?_
  rintro e w' ⟨⟨n, rfl, hn⟩, rfl⟩
  have HN := Lib.hid hn
  clear hn HI
  go_wp2_with fail
  go_ret
  exact ⟨by rw [← HN.out]; rfl, rfl⟩
/-- What the closure of Of over two kinds reads. -/
def OfW (gb : Nat) (a b : List UInt8) (A : World) : Prop := ∃ g cp, A.cell? ⟨gb, 0, none⟩ = some (.slice (some ⟨g, 0, none⟩) 2 cp) ∧ A.cell? ⟨g, 0, none⟩ = some (str a) ∧ A.cell? ⟨g, 1, none⟩ = some (str b)
theorem OfW.below {gb : Nat} {a b : List UInt8} {A B : World} (h : OfW gb a b A) (hb : Below A.heap.size A B) : OfW gb a b B := by
  obtain ⟨g, cp, h1, h2, h3⟩ := h
  exact ⟨g, cp, cell_belowV h1 hb, cell_belowV h2 hb, cell_belowV h3 hb⟩
theorem ofW (gb : Nat) (a b : List UInt8) (e : EvL) (A : World) (h : OfW gb a b A) :
    Calls Tryz.prog 55 #[evA e, .pointer (some ⟨gb, 0, none⟩)] A fun r B => r = .returned (.bool (ofP a b e)) ∧ Below A.heap.size A B := by
  obtain ⟨N, t, k, c, s⟩ := e
  have hb : Below A.heap.size A (A.alloc (.cells #[.int .u64 N, .int .u64 t, str k, .int .i64 c, str s] tEv)) := (Below.refl _ A).alloc (Nat.le_refl _) _
  obtain ⟨g, cp, q1, q2, q3⟩ := h.below hb
  have HB := Lib.hid hb
  have HCT := Lib.hid (contains2_any g cp a b k _ q2 q3)
  clear h q2 q3 hb
  unfold evA ofP
  go_enter Tryz.func55, Tryz.ntmps55
  go_wp2_with fail
  refine HCT.out.mono ?_
  rintro r B ⟨rfl, rfl⟩
  go_wp2_with fail
  go_ret
  exact ⟨rfl, HB.out⟩
set_option maxHeartbeats 1000000 in
theorem cloneS_two (b : Nat) (x y : List UInt8) (w : World) (hk : Blk w b [str x, str y]) :
    Calls Tryz.prog 54 #[.slice (some ⟨b, 0, none⟩) 2 2] w fun e w' => ∃ v', e = .returned v' ∧ OwnT w' w.heap.size v' [x, y] ∧ Below w.heap.size w w' := by
  have hk2 := hk.alloc (.cells #[] 9)
  have HK := Lib.hid hk2
  have hnil := Lib.run_eql_slice_nil (P := Tryz.prog) w 75 9 (some ⟨b, 0, none⟩) 2 2 0 0 Tryz.underlying75
  have HOE := Lib.hid (show OwnT (w.alloc (.cells #[] 9)) w.heap.size (.slice (some ⟨w.heap.size, 0, none⟩) 0 0) [] from ⟨by simp, .inr ⟨w.heap.size, 0, #[], rfl, Nat.le_refl _, heap_alloc_new w _, by simp, by unfold maxLen; omega, by simp, by simp⟩⟩)
  obtain ⟨i0, hi, hz0, hz1, hz2⟩ := info_parts info_s
  clear hk2 hk
  go_enter Tryz.func54, Tryz.ntmps54
  go_wp2_with (at_builtin; (refine wpList_append_own (w.alloc (.cells #[] 9)) rfl (.tmp 5) (.tmp 6) 75 rfl w.heap.size 9 i0 (str []) 1 16 Tryz.underlying75 hi hz0 hz1 hz2 rfl (by decide) (.slice (some ⟨w.heap.size, 0, none⟩) 0 0) 0 [] rfl HOE.out ⟨b, 0, none⟩ 2 2 [str x, str y] rfl rfl (fun j u hu => by rw [Addr.add_lit]; simp only [Nat.zero_add]; exact HK.out.at hu) (by simp [Value.oneCell']) (by unfold maxLen; omega) (by omega) (by simp) ?_); intro v' w1 hv hg _; have Hv := Lib.hid hv; have Hg := Lib.hid (((Below.refl w.heap.size w).alloc (Nat.le_refl _) (.cells #[] 9)).grown hg (by simp) (fun k hk => Nat.le_of_eq (by simpa [Value.ownBlock] using hk))); clear hg hv)
  go_ret
  exact ⟨v', rfl, by have := Hv.out; simpa [OwnT] using this, Hg.out⟩
def ofG (b : Nat) : Value := .func (Fn.func 55) #[] #[.pointer (some ⟨b, 0, none⟩)]
/-- Of over two kinds. -/
theorem trOf_two (A : Option Addr) (b : Nat) (x y : List UInt8) (w : World) (hk : Blk w b [str x, str y]) :
    Calls Tryz.prog 24 #[.pointer A, .slice (some ⟨b, 0, none⟩) 2 2] w fun e w' => ∃ g, w.heap.size ≤ g ∧ e = .returned (thV g) ∧ w'.cell? ⟨g, 0, none⟩ = some (.pointer A) ∧ w'.cell? ⟨g + 1, 0, none⟩ = some (ofG w.heap.size) ∧ OfW w.heap.size x y w' ∧ Below w.heap.size w w' := by
  obtain ⟨W1, hW1⟩ : ∃ W, W = w.alloc (.cells #[.slice (some ⟨b, 0, none⟩) 2 2] 75) := ⟨_, rfl⟩
  have hz1 : W1.heap.size = w.heap.size + 1 := by rw [hW1]; simp
  have HB1 := Lib.hid (show Below w.heap.size w W1 from by rw [hW1]; exact (Below.refl _ w).alloc (Nat.le_refl _) _)
  have HC := Lib.hid (cloneS_two b x y W1 (by rw [hW1]; exact hk.alloc _))
  have hbx : Boxed W1 w.heap.size 75 (.slice (some ⟨b, 0, none⟩) 2 2) := by rw [hW1]; exact Boxed.new w _ _
  have hmf : ∀ (fn : Fn) (first cap : Array Value) (w : World), (Instr.makeFunc fn first cap).run Tryz.prog w = .ok (.func fn first cap) w := fun _ _ _ _ => rfl
  go_enter Tryz.func24, Tryz.ntmps24
  go_wp2_with fail
  rw [← hW1]
  clear hW1 hk
  refine HC.out.mono ?_
  rintro e W2 ⟨v2, rfl, hO2, hB2⟩
  have hb2 : Boxed W2 w.heap.size 75 (.slice (some ⟨b, 0, none⟩) 2 2) := hbx.kept (grown_of_below hB2 none) (by simp)
  have hc2 := hb2.cell
  have hf2 := hb2.frozen
  obtain ⟨e0, h0⟩ | ⟨g2, cp2, rfl, hg2, _, _, _, hat⟩ := hO2.form
  · cases h0
  have hx0 : W2.cell? ⟨g2, 0, none⟩ = some (str x) := hat 0 (by simp)
  have hx1 : W2.cell? ⟨g2, 1, none⟩ = some (str y) := hat 1 (by simp)
  have HB2 := Lib.hid (HB1.out.trans (hB2.mono (by omega)))
  have hz2 := HB2.out.size
  have hne : g2 ≠ w.heap.size := by omega
  have HX0 := Lib.hid hx0
  have HX1 := Lib.hid hx1
  have HC2 := Lib.hid hc2
  clear hb2 hB2 hO2 HC hbx HB1 hat hx0 hx1
  go_wp2_with fail
  refine (trThose A _ _ _ _).mono ?_
  rintro e W3 ⟨rfl, rfl⟩
  go_wp2_with fail
  go_ret
  obtain ⟨WS, hWS⟩ : ∃ WS, WS = W2.setCell ⟨w.heap.size, 0, none⟩ (.slice (some ⟨g2, 0, none⟩) 2 cp2) := ⟨_, rfl⟩
  have hzz : WS.heap.size = W2.heap.size := by rw [hWS]; simp
  have s0 : WS.cell? ⟨w.heap.size, 0, none⟩ = some (.slice (some ⟨g2, 0, none⟩) 2 cp2) := by rw [hWS]; exact World.cell?_setCell_same _ _ _ HC2.out
  have s1 : WS.cell? ⟨g2, 0, none⟩ = some (str x) := by rw [hWS, World.cell?_setCell_far _ _ _ _ (by show w.heap.size ≠ g2; omega)]; exact HX0.out
  have s2 : WS.cell? ⟨g2, 1, none⟩ = some (str y) := by rw [hWS, World.cell?_setCell_far _ _ _ _ (by show w.heap.size ≠ g2; omega)]; exact HX1.out
  have hB : Below w.heap.size w WS := by rw [hWS]; exact HB2.out.setCell (p := ⟨w.heap.size, 0, none⟩) (Nat.le_refl _) _
  rw [← hWS]
  clear hWS
  have hbl : Below WS.heap.size WS (thW WS A (ofG w.heap.size)) := by unfold thW; exact ((Below.refl _ WS).alloc (Nat.le_refl _) _).alloc (by simp) _
  have HOW := OfW.below ⟨g2, cp2, s0, s1, s2⟩ hbl
  refine ⟨WS.heap.size, by omega, by rw [hzz]; rfl, ?_, ?_, HOW, hB.trans (hbl.mono hB.size)⟩
  · exact ((Blk.new WS [.pointer A] 39).alloc (.cells #[ofG w.heap.size] 99)).at (o := 0) rfl
  · have := (Blk.new (WS.alloc (.cells #[.pointer A] 39)) [ofG w.heap.size] 99).at (o := 0) rfl
    rw [World.size_alloc] at this
    exact this
set_option maxHeartbeats 4000000 in
theorem thSeq_about {S : World → List Nat} {b0 : Nat} (hS : MvV S b0) (p : EvL → Bool) (InW : World → Prop) (g b gb : Nat) (V : Value) (L : List EvL) (w : World) (hb0 : b0 ≤ w.heap.size)
    (hW : ∀ (e : EvL) (A : World), InW A → Calls Tryz.prog 57 #[evA e, .pointer (some ⟨gb, 0, none⟩)] A fun r B => r = .returned (.bool (p e)) ∧ Below A.heap.size A B)
    (hc : w.cell? ⟨b, 1, none⟩ = some V) (hv : EvIn w w.heap.size V L) (hl : L.length ≤ 1000) (d : Nat) (hd : 3 ≤ d) :
    SeqG Fence.wide d Tryz.prog 74 #[.pointer (some ⟨g, 0, none⟩), .pointer (some ⟨g + 1, 0, none⟩)] (fun x : EvL => #[evA x]) StV (KpV S b0) (fun _ pre x _ => pre ++ [x] <+: L.filter p) (fun ys => ys = L.filter p)
      (fun A => A.cell? ⟨g, 0, none⟩ = some (.pointer (some ⟨b, 0, none⟩)) ∧ A.cell? ⟨g + 1, 0, none⟩ = some (.func (Fn.func 57) #[] #[.pointer (some ⟨gb, 0, none⟩)]) ∧ InW A ∧ ∀ k ∈ S A, k < A.heap.size) w := by
  intro l J Jx W hW0 hIn hJ hJx hY h0
  clear hJx
  have hd1 : 1 ≤ d := by omega
  have hwz := hW0.size
  have hcW : W.cell? ⟨b, 1, none⟩ = some V := cell_belowV hc hW0
  have hvW := hv.below hW0 (Nat.le_refl _)
  obtain ⟨i0, i1, i2, i3⟩ := hIn _ _ h0
  have HY := Lib.hid hY; clear hY
  have HWT := Lib.hid hW; clear hW
  have HIN := Lib.hid hIn; clear hIn
  have HJS := Lib.hid hJ; clear hJ
  have hcl := (callsIn_wide (n := d - 1)).2 (clone_ev V L W (hvW.more hwz) (by omega))
  have HI3 := Lib.hid i3
  have HI2 := Lib.hid i2
  clear i2 i3 hv hc hvW
  refine callsIn_of_wp Tryz.func74 rfl trivial ?_ rfl
  simp only [Tryz.ntmps74, List.size_toArray, List.length_cons, List.length_nil, Nat.reduceAdd, Nat.reduceSub, Array.replicate_succ, Array.replicate_zero, List.push_toArray, List.append_toArray, List.nil_append, List.cons_append]
  gi_wp2
  refine ⟨trivial, hcl.mono ?_⟩
  rintro e w2 ⟨v, rfl, hrow, hb2⟩
  obtain ⟨As, cs, rfl, hcs1, hcs2⟩ := hrow.form
  have hJ2 : J [] w2 := HJS.out [] W w2 h0 hb2
  have hz2 := hb2.size
  have hS2 : S w2 = S W := hS W w2 (fun k hk => hb2.block k (by omega))
  have hns : ∀ k, (Value.slice As L.length cs).ownBlock = some k → k ∉ S w2 := fun k hk hm => by
    rw [hS2] at hm
    have := HI3.out k hm
    have := (hrow.lt k hk).1
    omega
  have HR := Lib.hid hrow
  have HNS := Lib.hid hns
  clear hrow hcl h0 hb2 hS2 hns hcW i0 i1
  gi_wp2
  gi_loopw [14] (fun i wr => ∃ (j : Nat), j ≤ L.length ∧ i = .int .i64 (j : Int) ∧ J ((L.take j).filter p) wr ∧ W.heap.size ≤ wr.heap.size ∧ OwnV tEv wr W.heap.size (.slice As L.length cs) L ∧ (∀ k, (Value.slice As L.length cs).ownBlock = some k → k ∉ S wr))
    (fun i _ => L.length - (intOf i).toNat)
  case atStart => exact ⟨0, by omega, rfl, by simpa using hJ2, hz2, HR.out, HNS.out⟩
  case round =>
    obtain ⟨j, hj, rfl, hJs, hzr, hrow, hnsr⟩ := hrel
    have HJ := Lib.hid hJs; clear hJs hJ2
    have HNR := Lib.hid hnsr; clear hnsr
    by_cases hlt : j < L.length
    · obtain ⟨g0, o0, hAs, hgl, c0, c1, c2, c3, c4⟩ := hrow.evIn.five j hlt
      obtain ⟨y, hy⟩ : ∃ y, y = L[j] := ⟨_, rfl⟩
      rw [← hy] at c0 c1 c2 c3 c4
      obtain rfl : o0 = 0 := by
        rcases hrow.2 with ⟨e, _⟩ | ⟨g, cap', cur, e, _⟩
        · injection e with e1 _ _; rw [e1] at hAs; cases hAs
        · injection e with e1 _ _; rw [e1] at hAs; cases hAs; rfl
      subst hAs
      simp only [Nat.zero_add] at c0 c1 c2 c3 c4
      have htk : (L.take (j + 1)).filter p = (L.take j).filter p ++ (if p y = true then [y] else []) := by
        rw [List.take_succ_eq_append_getElem hlt, List.filter_append, ← hy]
        cases hp : p y <;> simp [hp]
      obtain ⟨A2, hA2⟩ : ∃ A2, A2 = wr.alloc (.cells #[.int .u64 y.n, .int .u64 y.tick, str y.kind, .int .i64 y.conn, str y.text] tEv) := ⟨_, rfl⟩
      have hBA : Below wr.heap.size wr A2 := by rw [hA2]; exact (Below.refl _ wr).alloc (Nat.le_refl _) _
      have hkA : Blk A2 wr.heap.size [.int .u64 y.n, .int .u64 y.tick, str y.kind, .int .i64 y.conn, str y.text] := by rw [hA2]; exact Blk.new wr _ _
      have hJA := HJS.out _ wr A2 HJ.out (by exact hBA)
      obtain ⟨a0, a1, a2, a3⟩ := HIN.out _ _ hJA
      have hzA := hBA.size
      have hct := (callsIn_wide (n := d - 1)).2 (HWT.out y A2 a2)
      have HRA := Lib.hid (hrow.below hBA)
      have HTK := Lib.hid htk
      have HKA := Lib.hid hkA
      have HJA := Lib.hid hJA
      have HBA := Lib.hid hBA
      have HYE := Lib.hid hy
      unfold evA at hct
      rw [hA2] at a1
      clear htk hkA hJA hBA hrow hy a2 a3
      gi_wp2
      refine ⟨trivial, ?_⟩
      rw [← hA2]
      refine hct.mono ?_
      rintro r A3 ⟨rfl, hb3⟩
      have hkB := HKA.out.below hb3 HKA.out.lt
      have e0 : A3.cell? ⟨wr.heap.size, 0, none⟩ = some (.int .u64 y.n) := hkB.at (o := 0) rfl
      have e1 : A3.cell? ⟨wr.heap.size, 1, none⟩ = some (.int .u64 y.tick) := hkB.at (o := 1) rfl
      have e2 : A3.cell? ⟨wr.heap.size, 2, none⟩ = some (str y.kind) := hkB.at (o := 2) rfl
      have e3 : A3.cell? ⟨wr.heap.size, 3, none⟩ = some (.int .i64 y.conn) := hkB.at (o := 3) rfl
      have e4 : A3.cell? ⟨wr.heap.size, 4, none⟩ = some (str y.text) := hkB.at (o := 4) rfl
      have hJ3 := HJS.out _ A2 A3 HJA.out hb3
      have hz3 := hb3.size
      have HB3 := Lib.hid (HBA.out.trans (hb3.mono hzA))
      have HR3 := Lib.hid (HRA.out.below hb3)
      have hS3 : S A3 = S wr := hS wr A3 (fun k hk => HB3.out.block k (by omega))
      clear hkB hb3 hct hA2 c0 c1 c2 c3 c4 a0 a1
      cases hp : p y with
      | false =>
        have HJ3 := Lib.hid hJ3
        have HS3 := Lib.hid hS3
        clear hJ3 hS3
        gi_wp2
        refine ⟨(fun f h => by cases h), ?_⟩
        gi_wp2
        go_roundw
        case rel => exact ⟨j + 1, by omega, by go_num, by rw [HTK.out, hp]; simpa using HJ3.out, by omega, HR3.out, fun k hk => by rw [HS3.out]; exact HNR.out k hk⟩
        case measure => simp [intOf]; omega
      | true =>
        have hpre : (L.take j).filter p ++ [y] <+: L.filter p := by
          have : (L.take (j + 1)).filter p <+: L.filter p := (List.take_prefix _ _).filter p
          rw [HTK.out, hp] at this
          simpa using this
        obtain ⟨fn, tmps, assign, body, hyl, hR⟩ := HY.out ((L.take j).filter p) y A3 hJ3 (by omega) hpre
        unfold evA at hyl
        clear hJ3 hpre
        have HS3 := Lib.hid hS3
        clear hS3
        gi_wp2
        refine hR.mono ?_
        rintro e W3 (⟨rfl, hJ4, hz4, hk4, _⟩ | ⟨rfl, hJx4, _, _⟩)
        · obtain ⟨q1, q2⟩ := hk4.2 (by omega)
          have hr4 : OwnV tEv W3 W.heap.size (.slice (some ⟨g0, 0, none⟩) L.length cs) L := by
            obtain ⟨x1, x2 | ⟨g', cap', cur, x3, x4, x5, x6⟩⟩ := HR3.out
            · exact ⟨x1, .inl x2⟩
            · exact ⟨x1, .inr ⟨g', cap', cur, x3, x4, q1 _ _ _ _ (by rw [HS3.out]; exact HNR.out g' (by rw [x3]; rfl)) x5, x6⟩⟩
          have hn4 : ∀ k, (Value.slice (some ⟨g0, 0, none⟩) L.length cs).ownBlock = some k → k ∉ S W3 := fun k hk hm => by
            rcases q2 k hm with q | q
            · rw [HS3.out] at q; exact HNR.out k hk q
            · have := (HR3.out.lt k hk).2; omega
          have HR4 := Lib.hid hr4
          have HN4 := Lib.hid hn4
          clear hr4 hn4 q1 q2 hk4
          gi_wp2
          go_roundw
          case rel => exact ⟨j + 1, by omega, by go_num, by rw [HTK.out, hp]; simpa using hJ4, by omega, HR4.out, HN4.out⟩
          case measure => simp [intOf]; omega
        · gi_wp2
          refine bodyPost_ret (results_none rfl _ _ _) rfl ?_
          exact ⟨⟨_, rfl⟩, .inr ⟨_, hJx4⟩⟩
    · have hjx : j = L.length := by omega
      have hall : L.take j = L := List.take_of_length_le (by omega)
      rw [hall] at HJ
      gi_wp2
      go_end0
      exact ⟨⟨_, rfl⟩, .inl ⟨_, rfl, HJ.out⟩⟩

set_option maxHeartbeats 4000000 in
theorem thSeq_of {S : World → List Nat} {b0 : Nat} (hS : MvV S b0) (p : EvL → Bool) (InW : World → Prop) (g b gb : Nat) (V : Value) (L : List EvL) (w : World) (hb0 : b0 ≤ w.heap.size)
    (hW : ∀ (e : EvL) (A : World), InW A → Calls Tryz.prog 55 #[evA e, .pointer (some ⟨gb, 0, none⟩)] A fun r B => r = .returned (.bool (p e)) ∧ Below A.heap.size A B)
    (hc : w.cell? ⟨b, 1, none⟩ = some V) (hv : EvIn w w.heap.size V L) (hl : L.length ≤ 1000) (d : Nat) (hd : 3 ≤ d) :
    SeqG Fence.wide d Tryz.prog 74 #[.pointer (some ⟨g, 0, none⟩), .pointer (some ⟨g + 1, 0, none⟩)] (fun x : EvL => #[evA x]) StV (KpV S b0) (fun _ pre x _ => pre ++ [x] <+: L.filter p) (fun ys => ys = L.filter p)
      (fun A => A.cell? ⟨g, 0, none⟩ = some (.pointer (some ⟨b, 0, none⟩)) ∧ A.cell? ⟨g + 1, 0, none⟩ = some (.func (Fn.func 55) #[] #[.pointer (some ⟨gb, 0, none⟩)]) ∧ InW A ∧ ∀ k ∈ S A, k < A.heap.size) w := by
  intro l J Jx W hW0 hIn hJ hJx hY h0
  clear hJx
  have hd1 : 1 ≤ d := by omega
  have hwz := hW0.size
  have hcW : W.cell? ⟨b, 1, none⟩ = some V := cell_belowV hc hW0
  have hvW := hv.below hW0 (Nat.le_refl _)
  obtain ⟨i0, i1, i2, i3⟩ := hIn _ _ h0
  have HY := Lib.hid hY; clear hY
  have HWT := Lib.hid hW; clear hW
  have HIN := Lib.hid hIn; clear hIn
  have HJS := Lib.hid hJ; clear hJ
  have hcl := (callsIn_wide (n := d - 1)).2 (clone_ev V L W (hvW.more hwz) (by omega))
  have HI3 := Lib.hid i3
  have HI2 := Lib.hid i2
  clear i2 i3 hv hc hvW
  refine callsIn_of_wp Tryz.func74 rfl trivial ?_ rfl
  simp only [Tryz.ntmps74, List.size_toArray, List.length_cons, List.length_nil, Nat.reduceAdd, Nat.reduceSub, Array.replicate_succ, Array.replicate_zero, List.push_toArray, List.append_toArray, List.nil_append, List.cons_append]
  gi_wp2
  refine ⟨trivial, hcl.mono ?_⟩
  rintro e w2 ⟨v, rfl, hrow, hb2⟩
  obtain ⟨As, cs, rfl, hcs1, hcs2⟩ := hrow.form
  have hJ2 : J [] w2 := HJS.out [] W w2 h0 hb2
  have hz2 := hb2.size
  have hS2 : S w2 = S W := hS W w2 (fun k hk => hb2.block k (by omega))
  have hns : ∀ k, (Value.slice As L.length cs).ownBlock = some k → k ∉ S w2 := fun k hk hm => by
    rw [hS2] at hm
    have := HI3.out k hm
    have := (hrow.lt k hk).1
    omega
  have HR := Lib.hid hrow
  have HNS := Lib.hid hns
  clear hrow hcl h0 hb2 hS2 hns hcW i0 i1
  gi_wp2
  gi_loopw [14] (fun i wr => ∃ (j : Nat), j ≤ L.length ∧ i = .int .i64 (j : Int) ∧ J ((L.take j).filter p) wr ∧ W.heap.size ≤ wr.heap.size ∧ OwnV tEv wr W.heap.size (.slice As L.length cs) L ∧ (∀ k, (Value.slice As L.length cs).ownBlock = some k → k ∉ S wr))
    (fun i _ => L.length - (intOf i).toNat)
  case atStart => exact ⟨0, by omega, rfl, by simpa using hJ2, hz2, HR.out, HNS.out⟩
  case round =>
    obtain ⟨j, hj, rfl, hJs, hzr, hrow, hnsr⟩ := hrel
    have HJ := Lib.hid hJs; clear hJs hJ2
    have HNR := Lib.hid hnsr; clear hnsr
    by_cases hlt : j < L.length
    · obtain ⟨g0, o0, hAs, hgl, c0, c1, c2, c3, c4⟩ := hrow.evIn.five j hlt
      obtain ⟨y, hy⟩ : ∃ y, y = L[j] := ⟨_, rfl⟩
      rw [← hy] at c0 c1 c2 c3 c4
      obtain rfl : o0 = 0 := by
        rcases hrow.2 with ⟨e, _⟩ | ⟨g, cap', cur, e, _⟩
        · injection e with e1 _ _; rw [e1] at hAs; cases hAs
        · injection e with e1 _ _; rw [e1] at hAs; cases hAs; rfl
      subst hAs
      simp only [Nat.zero_add] at c0 c1 c2 c3 c4
      have htk : (L.take (j + 1)).filter p = (L.take j).filter p ++ (if p y = true then [y] else []) := by
        rw [List.take_succ_eq_append_getElem hlt, List.filter_append, ← hy]
        cases hp : p y <;> simp [hp]
      obtain ⟨A2, hA2⟩ : ∃ A2, A2 = wr.alloc (.cells #[.int .u64 y.n, .int .u64 y.tick, str y.kind, .int .i64 y.conn, str y.text] tEv) := ⟨_, rfl⟩
      have hBA : Below wr.heap.size wr A2 := by rw [hA2]; exact (Below.refl _ wr).alloc (Nat.le_refl _) _
      have hkA : Blk A2 wr.heap.size [.int .u64 y.n, .int .u64 y.tick, str y.kind, .int .i64 y.conn, str y.text] := by rw [hA2]; exact Blk.new wr _ _
      have hJA := HJS.out _ wr A2 HJ.out (by exact hBA)
      obtain ⟨a0, a1, a2, a3⟩ := HIN.out _ _ hJA
      have hzA := hBA.size
      have hct := (callsIn_wide (n := d - 1)).2 (HWT.out y A2 a2)
      have HRA := Lib.hid (hrow.below hBA)
      have HTK := Lib.hid htk
      have HKA := Lib.hid hkA
      have HJA := Lib.hid hJA
      have HBA := Lib.hid hBA
      have HYE := Lib.hid hy
      unfold evA at hct
      rw [hA2] at a1
      clear htk hkA hJA hBA hrow hy a2 a3
      gi_wp2
      refine ⟨trivial, ?_⟩
      rw [← hA2]
      refine hct.mono ?_
      rintro r A3 ⟨rfl, hb3⟩
      have hkB := HKA.out.below hb3 HKA.out.lt
      have e0 : A3.cell? ⟨wr.heap.size, 0, none⟩ = some (.int .u64 y.n) := hkB.at (o := 0) rfl
      have e1 : A3.cell? ⟨wr.heap.size, 1, none⟩ = some (.int .u64 y.tick) := hkB.at (o := 1) rfl
      have e2 : A3.cell? ⟨wr.heap.size, 2, none⟩ = some (str y.kind) := hkB.at (o := 2) rfl
      have e3 : A3.cell? ⟨wr.heap.size, 3, none⟩ = some (.int .i64 y.conn) := hkB.at (o := 3) rfl
      have e4 : A3.cell? ⟨wr.heap.size, 4, none⟩ = some (str y.text) := hkB.at (o := 4) rfl
      have hJ3 := HJS.out _ A2 A3 HJA.out hb3
      have hz3 := hb3.size
      have HB3 := Lib.hid (HBA.out.trans (hb3.mono hzA))
      have HR3 := Lib.hid (HRA.out.below hb3)
      have hS3 : S A3 = S wr := hS wr A3 (fun k hk => HB3.out.block k (by omega))
      clear hkB hb3 hct hA2 c0 c1 c2 c3 c4 a0 a1
      cases hp : p y with
      | false =>
        have HJ3 := Lib.hid hJ3
        have HS3 := Lib.hid hS3
        clear hJ3 hS3
        gi_wp2
        refine ⟨(fun f h => by cases h), ?_⟩
        gi_wp2
        go_roundw
        case rel => exact ⟨j + 1, by omega, by go_num, by rw [HTK.out, hp]; simpa using HJ3.out, by omega, HR3.out, fun k hk => by rw [HS3.out]; exact HNR.out k hk⟩
        case measure => simp [intOf]; omega
      | true =>
        have hpre : (L.take j).filter p ++ [y] <+: L.filter p := by
          have : (L.take (j + 1)).filter p <+: L.filter p := (List.take_prefix _ _).filter p
          rw [HTK.out, hp] at this
          simpa using this
        obtain ⟨fn, tmps, assign, body, hyl, hR⟩ := HY.out ((L.take j).filter p) y A3 hJ3 (by omega) hpre
        unfold evA at hyl
        clear hJ3 hpre
        have HS3 := Lib.hid hS3
        clear hS3
        gi_wp2
        refine hR.mono ?_
        rintro e W3 (⟨rfl, hJ4, hz4, hk4, _⟩ | ⟨rfl, hJx4, _, _⟩)
        · obtain ⟨q1, q2⟩ := hk4.2 (by omega)
          have hr4 : OwnV tEv W3 W.heap.size (.slice (some ⟨g0, 0, none⟩) L.length cs) L := by
            obtain ⟨x1, x2 | ⟨g', cap', cur, x3, x4, x5, x6⟩⟩ := HR3.out
            · exact ⟨x1, .inl x2⟩
            · exact ⟨x1, .inr ⟨g', cap', cur, x3, x4, q1 _ _ _ _ (by rw [HS3.out]; exact HNR.out g' (by rw [x3]; rfl)) x5, x6⟩⟩
          have hn4 : ∀ k, (Value.slice (some ⟨g0, 0, none⟩) L.length cs).ownBlock = some k → k ∉ S W3 := fun k hk hm => by
            rcases q2 k hm with q | q
            · rw [HS3.out] at q; exact HNR.out k hk q
            · have := (HR3.out.lt k hk).2; omega
          have HR4 := Lib.hid hr4
          have HN4 := Lib.hid hn4
          clear hr4 hn4 q1 q2 hk4
          gi_wp2
          go_roundw
          case rel => exact ⟨j + 1, by omega, by go_num, by rw [HTK.out, hp]; simpa using hJ4, by omega, HR4.out, HN4.out⟩
          case measure => simp [intOf]; omega
        · gi_wp2
          refine bodyPost_ret (results_none rfl _ _ _) rfl ?_
          exact ⟨⟨_, rfl⟩, .inr ⟨_, hJx4⟩⟩
    · have hjx : j = L.length := by omega
      have hall : L.take j = L := List.take_of_length_le (by omega)
      rw [hall] at HJ
      gi_wp2
      go_end0
      exact ⟨⟨_, rfl⟩, .inl ⟨_, rfl, HJ.out⟩⟩

end Go.Proofs.YtockimgedckheaaGreatDoor
