/- trace: iterators, New, Since of a Trace, the law's awake. (The part of TvB that TraceLines wants.) -/
import Derived.Test.YtoehkhbppmgfkaaGreatDoorSl
import Derived.Test.YtoehkhbppmgfkaaGreatDoorReg
import Derived.Lib.Hide
import Derived.Test.YtoehkhbppmgfkaaGreatDoorTvA
import Derived.Test.YtoehkhbppmgfkaaGreatDoorRangeGx
import Derived.OwnWalk
import Derived.Deep.QuietTactic
set_option maxRecDepth 100000
namespace Go.Proofs.YtoehkhbppmgfkaaGreatDoor
open Go.RowKit
attribute [local go_sem] Oper.semAt_some
/-- What those leaves: its two boxes. -/
def thW (w : World) (A : Option Addr) (f : Value) : World := (w.alloc (.cells #[.pointer A] 38)).alloc (.cells #[f] 76)
def thV (b : Nat) : Value := .func (Fn.func 47) #[] #[.pointer (some ⟨b, 0, none⟩), .pointer (some ⟨b + 1, 0, none⟩)]
theorem trThose (A : Option Addr) (fn : Fn) (fi ca : Array Value) (w : World) : Calls Tryz.prog 32 #[.pointer A, .func fn fi ca] w fun e w' => e = .returned (thV w.heap.size) ∧ w' = thW w A (.func fn fi ca) := by
  go_enter Tryz.func32, Tryz.ntmps32
  go_wp2_with fail
  go_ret
  exact ⟨rfl, rfl⟩
def sinceF (b : Nat) : Value := .func (Fn.func 33) #[] #[.pointer (some ⟨b, 0, none⟩)]
theorem trSince (A : Option Addr) (n : Nat) (w : World) : Calls Tryz.prog 13 #[.pointer A, .int .u64 n] w fun e w' => e = .returned (thV (w.heap.size + 1)) ∧ w' = thW (w.alloc (.cells #[.int .u64 n] 22)) A (sinceF w.heap.size) := by
  have hmf : ∀ (fn : Fn) (first cap : Array Value) (w : World), (Instr.makeFunc fn first cap).run Tryz.prog w = .ok (.func fn first cap) w := fun _ _ _ _ => rfl
  go_enter Tryz.func13, Tryz.ntmps13
  go_wp2_with fail
  refine (trThose A _ _ _ _).mono ?_
  rintro e w1 ⟨rfl, rfl⟩
  go_wp2_with fail
  go_ret
  exact ⟨by simp, rfl⟩
end Go.Proofs.YtoehkhbppmgfkaaGreatDoor
set_option maxRecDepth 100000
namespace Go.Proofs.YtoehkhbppmgfkaaGreatDoor
open Go Go.RowKit Go.Shelf
attribute [local go_sem] Oper.semAt_some
set_option maxHeartbeats 1000000 in
theorem clone_ev (v : Value) (xs : List EvL) (w : World) (hv : EvIn w w.heap.size v xs) (hl : xs.length ≤ 100000) :
    Calls Tryz.prog 48 #[v] w fun e w' => ∃ v', e = .returned v' ∧ OwnV tEv w' w.heap.size v' xs ∧ Below w.heap.size w w' := by
  have HV := Lib.hid hv
  obtain ⟨A, c, rfl, hc1, hc2, hin⟩ := hv
  have hnilA := fun (A : Option Addr) (n c : Nat) => Lib.run_eql_slice_nil (P := Tryz.prog) w 43 29 A n c 0 0 Tryz.underlying43
  have HNIL := Lib.hid hnilA
  clear hnilA
  cases A with
  | none =>
    have hx : xs = [] := by
      cases xs with
      | nil => rfl
      | cons x t => obtain ⟨g, o, e, _⟩ := hin (by simp); cases e
    subst hx
    obtain rfl : c = 0 := hc2.2 rfl
    clear hin hc1 hc2 HV
    have hnil := HNIL.out none 0 0
    simp only [List.length_nil]
    go_enter Tryz.func48, Tryz.ntmps48
    go_wp2_with fail
    go_ret
    exact ⟨_, rfl, OwnV.nil _ _ _, Below.refl _ _⟩
  | some ad =>
    have HE := Lib.hid (OwnV.empty tEv w)
    have HV2 := Lib.hid (HV.out.below ((Below.refl w.heap.size w).alloc (Nat.le_refl _) (.cells #[] tEv)) (Nat.le_refl _))
    have hnil := HNIL.out (some ad) xs.length c
    clear hin
    go_enter Tryz.func48, Tryz.ntmps48
    go_wp2_with (at_builtin; (refine wpList_app_evs evT rfl (.tmp 5) (.tmp 6) rfl w.heap.size (.slice (some ⟨w.heap.size, 0, none⟩) 0 0) [] xs rfl HE.out w.heap.size (.slice (some ad) xs.length c) rfl HV2.out (by simpa using hl) (by simp) ?_); intro v5 A1 hO5 hg5 _; rw [List.nil_append] at hO5; have HO5 := Lib.hid hO5; have HB5 := Lib.hid (((Below.refl w.heap.size w).alloc (Nat.le_refl _) (.cells #[] tEv)).grown hg5 (by simp) (fun k hk => Nat.le_of_eq (by simpa [Value.ownBlock] using hk))); clear hO5 hg5)
    go_ret
    exact ⟨_, rfl, HO5.out, HB5.out⟩
/-- Nothing of what there was. -/
def StV (_ : Nat) (A B : World) : Prop := Below A.heap.size A B
/-- What a body may turn: the blocks S, and what is new. -/
def KpV (S : World → List Nat) (b0 : Nat) (A B : World) : Prop :=
  A.heap.size ≤ B.heap.size ∧ (b0 ≤ A.heap.size → (∀ (k : Nat) (c : Array Value) (t : TypeId) (f : Nat × Nat), k ∉ S A → A.heap[k]? = some (.cells c t f) → B.heap[k]? = some (.cells c t f)) ∧ ∀ k ∈ S B, k ∈ S A ∨ A.heap.size ≤ k)
/-- S is read off the blocks below b0. -/
def MvV (S : World → List Nat) (b0 : Nat) : Prop := ∀ A B : World, (∀ k, k < b0 → B.heap[k]? = A.heap[k]?) → S B = S A
section
variable {S : World → List Nat} {b0 : Nat} {A B C : World}
theorem KpV.trans (h : KpV S b0 A B) (k : KpV S b0 B C) : KpV S b0 A C := by
  refine ⟨Nat.le_trans h.1 k.1, fun hb => ?_⟩
  obtain ⟨h1, h2⟩ := h.2 hb
  obtain ⟨k1, k2⟩ := k.2 (Nat.le_trans hb h.1)
  refine ⟨fun i c t f hi ho => k1 i c t f (fun hs => ?_) (h1 i c t f hi ho), fun i hi => ?_⟩
  · rcases h2 i hs with q | q
    · exact hi q
    · have := (Array.getElem?_eq_some_iff.1 ho).1; omega
  · rcases k2 i hi with q | q
    · exact h2 i q
    · exact .inr (Nat.le_trans h.1 q)
theorem KpV.of_below (hS : MvV S b0) (h : Below A.heap.size A B) : KpV S b0 A B := by
  refine ⟨h.size, fun hb => ?_⟩
  have e := hS A B (fun k hk => h.block k (by omega))
  exact ⟨fun k c t f _ ho => (h.block k (Array.getElem?_eq_some_iff.1 ho).1).trans ho, fun k hk => .inl (by rw [← e]; exact hk)⟩
theorem KpV.put (hS : MvV S b0) {l : Nat} {o o' : Obj} (hl : b0 ≤ l) (h : A.heap[l]? = some o) (hc : o.isCells = false) : KpV S b0 A (A.putObj l o') := by
  refine ⟨by simp [World.putObj], fun hb => ?_⟩
  have e := hS A (A.putObj l o') (fun k hk => World.putObj_heap_other (by omega))
  refine ⟨fun k c t f _ ho => kc_putObj (b := 0) h hc k c t f (Nat.zero_le _) ho, fun k hk => .inl (by rw [← e]; exact hk)⟩
end
end Go.Proofs.YtoehkhbppmgfkaaGreatDoor
set_option maxRecDepth 100000
namespace Go.Proofs.YtoehkhbppmgfkaaGreatDoor
open Go Go.RowKit Go.Shelf
attribute [local go_sem] Oper.semAt_some
theorem cell_belowV {W W' : World} {p : Addr} {v : Value} (h : W.cell? p = some v) (hb : Below W.heap.size W W') : W'.cell? p = some v := (hb.cell (World.block_lt_of_cell? W p h)).trans h
set_option maxHeartbeats 4000000 in
theorem thSeq_since {S : World → List Nat} {b0 : Nat} (hS : MvV S b0) (p : EvL → Bool) (InW : World → Prop) (g b gb : Nat) (V : Value) (L : List EvL) (w : World) (hb0 : b0 ≤ w.heap.size)
    (hW : ∀ (e : EvL) (A : World), InW A → Calls Tryz.prog 33 #[evA e, .pointer (some ⟨gb, 0, none⟩)] A fun r B => r = .returned (.bool (p e)) ∧ Below A.heap.size A B)
    (hc : w.cell? ⟨b, 1, none⟩ = some V) (hv : EvIn w w.heap.size V L) (hl : L.length ≤ 1000) (d : Nat) (hd : 3 ≤ d) :
    SeqG Fence.wide d Tryz.prog 47 #[.pointer (some ⟨g, 0, none⟩), .pointer (some ⟨g + 1, 0, none⟩)] (fun x : EvL => #[evA x]) StV (KpV S b0) (fun _ pre x _ => pre ++ [x] <+: L.filter p) (fun ys => ys = L.filter p)
      (fun A => A.cell? ⟨g, 0, none⟩ = some (.pointer (some ⟨b, 0, none⟩)) ∧ A.cell? ⟨g + 1, 0, none⟩ = some (.func (Fn.func 33) #[] #[.pointer (some ⟨gb, 0, none⟩)]) ∧ InW A ∧ ∀ k ∈ S A, k < A.heap.size) w := by
  intro l J Jx W hW0 hIn hJ hJx hY h0
  clear hJx
  have hd1 : 1 ≤ d := by omega
  have hwz := hW0.size
  have hcW : W.cell? ⟨b, 1, none⟩ = some V := cell_belowV hc hW0
  have hvW := hv.below hW0 (Nat.le_refl _)
  obtain ⟨i0, i1, i2, i3⟩ := hIn _ _ h0
  have HY := Lib.hid hY; clear hY
  have HWT := Lib.hid hW; clear hW
  have HIN := Lib.hid hIn; clear hIn
  have HJS := Lib.hid hJ; clear hJ
  have hcl := (callsIn_wide (n := d - 1)).2 (clone_ev V L W (hvW.more hwz) (by omega))
  have HI3 := Lib.hid i3
  have HI2 := Lib.hid i2
  clear i2 i3 hv hc hvW
  refine callsIn_of_wp Tryz.func47 rfl trivial ?_ rfl
  simp only [Tryz.ntmps47, List.size_toArray, List.length_cons, List.length_nil, Nat.reduceAdd, Nat.reduceSub, Array.replicate_succ, Array.replicate_zero, List.push_toArray, List.append_toArray, List.nil_append, List.cons_append]
  gi_wp2
  refine ⟨trivial, hcl.mono ?_⟩
  rintro e w2 ⟨v, rfl, hrow, hb2⟩
  obtain ⟨As, cs, rfl, hcs1, hcs2⟩ := hrow.form
  have hJ2 : J [] w2 := HJS.out [] W w2 h0 hb2
  have hz2 := hb2.size
  have hS2 : S w2 = S W := hS W w2 (fun k hk => hb2.block k (by omega))
  have hns : ∀ k, (Value.slice As L.length cs).ownBlock = some k → k ∉ S w2 := fun k hk hm => by
    rw [hS2] at hm
    have := HI3.out k hm
    have := (hrow.lt k hk).1
    omega
  have HR := Lib.hid hrow
  have HNS := Lib.hid hns
  clear hrow hcl h0 hb2 hS2 hns hcW i0 i1
  gi_wp2
  gi_loopw [14] (fun i wr => ∃ (j : Nat), j ≤ L.length ∧ i = .int .i64 (j : Int) ∧ J ((L.take j).filter p) wr ∧ W.heap.size ≤ wr.heap.size ∧ OwnV tEv wr W.heap.size (.slice As L.length cs) L ∧ (∀ k, (Value.slice As L.length cs).ownBlock = some k → k ∉ S wr))
    (fun i _ => L.length - (intOf i).toNat)
  case atStart => exact ⟨0, by omega, rfl, by simpa using hJ2, hz2, HR.out, HNS.out⟩
  case round =>
    obtain ⟨j, hj, rfl, hJs, hzr, hrow, hnsr⟩ := hrel
    have HJ := Lib.hid hJs; clear hJs hJ2
    have HNR := Lib.hid hnsr; clear hnsr
    by_cases hlt : j < L.length
    · obtain ⟨g0, o0, hAs, hgl, c0, c1, c2, c3, c4⟩ := hrow.evIn.five j hlt
      obtain ⟨y, hy⟩ : ∃ y, y = L[j] := ⟨_, rfl⟩
      rw [← hy] at c0 c1 c2 c3 c4
      obtain rfl : o0 = 0 := by
        rcases hrow.2 with ⟨e, _⟩ | ⟨g, cap', cur, e, _⟩
        · injection e with e1 _ _; rw [e1] at hAs; cases hAs
        · injection e with e1 _ _; rw [e1] at hAs; cases hAs; rfl
      subst hAs
      simp only [Nat.zero_add] at c0 c1 c2 c3 c4
      have htk : (L.take (j + 1)).filter p = (L.take j).filter p ++ (if p y = true then [y] else []) := by
        rw [List.take_succ_eq_append_getElem hlt, List.filter_append, ← hy]
        cases hp : p y <;> simp [hp]
      obtain ⟨A2, hA2⟩ : ∃ A2, A2 = wr.alloc (.cells #[.int .u64 y.n, .int .u64 y.tick, str y.kind, .int .i64 y.conn, str y.text] tEv) := ⟨_, rfl⟩
      have hBA : Below wr.heap.size wr A2 := by rw [hA2]; exact (Below.refl _ wr).alloc (Nat.le_refl _) _
      have hkA : Blk A2 wr.heap.size [.int .u64 y.n, .int .u64 y.tick, str y.kind, .int .i64 y.conn, str y.text] := by rw [hA2]; exact Blk.new wr _ _
      have hJA := HJS.out _ wr A2 HJ.out (by exact hBA)
      obtain ⟨a0, a1, a2, a3⟩ := HIN.out _ _ hJA
      have hzA := hBA.size
      have hct := (callsIn_wide (n := d - 1)).2 (HWT.out y A2 a2)
      have HRA := Lib.hid (hrow.below hBA)
      have HTK := Lib.hid htk
      have HKA := Lib.hid hkA
      have HJA := Lib.hid hJA
      have HBA := Lib.hid hBA
      have HYE := Lib.hid hy
      unfold evA at hct
      rw [hA2] at a1
      clear htk hkA hJA hBA hrow hy a2 a3
      gi_wp2
      refine ⟨trivial, ?_⟩
      rw [← hA2]
      refine hct.mono ?_
      rintro r A3 ⟨rfl, hb3⟩
      have hkB := HKA.out.below hb3 HKA.out.lt
      have e0 : A3.cell? ⟨wr.heap.size, 0, none⟩ = some (.int .u64 y.n) := hkB.at (o := 0) rfl
      have e1 : A3.cell? ⟨wr.heap.size, 1, none⟩ = some (.int .u64 y.tick) := hkB.at (o := 1) rfl
      have e2 : A3.cell? ⟨wr.heap.size, 2, none⟩ = some (str y.kind) := hkB.at (o := 2) rfl
      have e3 : A3.cell? ⟨wr.heap.size, 3, none⟩ = some (.int .i64 y.conn) := hkB.at (o := 3) rfl
      have e4 : A3.cell? ⟨wr.heap.size, 4, none⟩ = some (str y.text) := hkB.at (o := 4) rfl
      have hJ3 := HJS.out _ A2 A3 HJA.out hb3
      have hz3 := hb3.size
      have HB3 := Lib.hid (HBA.out.trans (hb3.mono hzA))
      have HR3 := Lib.hid (HRA.out.below hb3)
      have hS3 : S A3 = S wr := hS wr A3 (fun k hk => HB3.out.block k (by omega))
      clear hkB hb3 hct hA2 c0 c1 c2 c3 c4 a0 a1
      cases hp : p y with
      | false =>
        have HJ3 := Lib.hid hJ3
        have HS3 := Lib.hid hS3
        clear hJ3 hS3
        gi_wp2
        refine ⟨(fun f h => by cases h), ?_⟩
        gi_wp2
        go_roundw
        case rel => exact ⟨j + 1, by omega, by go_num, by rw [HTK.out, hp]; simpa using HJ3.out, by omega, HR3.out, fun k hk => by rw [HS3.out]; exact HNR.out k hk⟩
        case measure => simp [intOf]; omega
      | true =>
        have hpre : (L.take j).filter p ++ [y] <+: L.filter p := by
          have : (L.take (j + 1)).filter p <+: L.filter p := (List.take_prefix _ _).filter p
          rw [HTK.out, hp] at this
          simpa using this
        obtain ⟨fn, tmps, assign, body, hyl, hR⟩ := HY.out ((L.take j).filter p) y A3 hJ3 (by omega) hpre
        unfold evA at hyl
        clear hJ3 hpre
        have HS3 := Lib.hid hS3
        clear hS3
        gi_wp2
        refine hR.mono ?_
        rintro e W3 (⟨rfl, hJ4, hz4, hk4, _⟩ | ⟨rfl, hJx4, _, _⟩)
        · obtain ⟨q1, q2⟩ := hk4.2 (by omega)
          have hr4 : OwnV tEv W3 W.heap.size (.slice (some ⟨g0, 0, none⟩) L.length cs) L := by
            obtain ⟨x1, x2 | ⟨g', cap', cur, x3, x4, x5, x6⟩⟩ := HR3.out
            · exact ⟨x1, .inl x2⟩
            · exact ⟨x1, .inr ⟨g', cap', cur, x3, x4, q1 _ _ _ _ (by rw [HS3.out]; exact HNR.out g' (by rw [x3]; rfl)) x5, x6⟩⟩
          have hn4 : ∀ k, (Value.slice (some ⟨g0, 0, none⟩) L.length cs).ownBlock = some k → k ∉ S W3 := fun k hk hm => by
            rcases q2 k hm with q | q
            · rw [HS3.out] at q; exact HNR.out k hk q
            · have := (HR3.out.lt k hk).2; omega
          have HR4 := Lib.hid hr4
          have HN4 := Lib.hid hn4
          clear hr4 hn4 q1 q2 hk4
          gi_wp2
          go_roundw
          case rel => exact ⟨j + 1, by omega, by go_num, by rw [HTK.out, hp]; simpa using hJ4, by omega, HR4.out, HN4.out⟩
          case measure => simp [intOf]; omega
        · gi_wp2
          refine bodyPost_ret (results_none rfl _ _ _) rfl ?_
          exact ⟨⟨_, rfl⟩, .inr ⟨_, hJx4⟩⟩
    · have hjx : j = L.length := by omega
      have hall : L.take j = L := List.take_of_length_le (by omega)
      rw [hall] at HJ
      gi_wp2
      go_end0
      exact ⟨⟨_, rfl⟩, .inl ⟨_, rfl, HJ.out⟩⟩

end Go.Proofs.YtoehkhbppmgfkaaGreatDoor
set_option maxRecDepth 100000
namespace Go.Proofs.YtoehkhbppmgfkaaGreatDoor
open Go Go.RowKit Go.Shelf
attribute [local go_sem] Oper.semAt_some
/-- The box and the row that Collect fills. -/
def colS (b : Nat) (A : World) : List Nat := b :: (match A.cell? ⟨b, 0, none⟩ with | some v => v.ownBlock.toList | none => [])
theorem colS_mv (b : Nat) : MvV (colS b) (b + 1) := fun A B h => by
  have e : B.cell? ⟨b, 0, none⟩ = A.cell? ⟨b, 0, none⟩ := by simp only [World.cell?, h b (by omega)]
  unfold colS
  rw [e]
theorem colS_box {b : Nat} {A : World} {t : TypeId} {v : Value} (h : Boxed A b t v) : colS b A = b :: v.ownBlock.toList := by unfold colS; rw [h.cell]
/-- Collect under way. -/
structure ColI (w : World) (pre : List EvL) (A : World) : Prop where
  bo : ∃ v, Boxed A w.heap.size tEvs v ∧ OwnV tEv A w.heap.size v pre ∧ v.ownBlock ≠ some w.heap.size
  low : Below w.heap.size w A
theorem ColI.below {w A B : World} {pre : List EvL} (h : ColI w pre A) (hb : Below A.heap.size A B) : ColI w pre B := by
  obtain ⟨⟨v, h1, h2, h3⟩, hl⟩ := h
  exact ⟨⟨v, (hb.block _ h1.lt).trans h1, h2.below hb, h3⟩, hl.trans (hb.mono hl.size)⟩
theorem ColI.put {w A : World} {pre : List EvL} (h : ColI w pre A) {l : Nat} {o o' : Obj} (hl : w.heap.size ≤ l) (ho : A.heap[l]? = some o) (hc : o.isCells = false) : ColI w pre (A.putObj l o') := by
  obtain ⟨⟨v, h1, h2, h3⟩, hlw⟩ := h
  have hk := kc_putObj (b := 0) (o' := o') ho hc
  exact ⟨⟨v, hk _ _ _ _ (Nat.zero_le _) h1, ownsRow_kc h2 (Nat.zero_le _) hk, h3⟩, below_putObj hlw hlw.size hl⟩
theorem ColI.inS {w A : World} {pre : List EvL} (h : ColI w pre A) : ∀ k ∈ colS w.heap.size A, k < A.heap.size := by
  obtain ⟨⟨v, h1, h2, h3⟩, hl⟩ := h
  intro k hk
  rw [colS_box h1] at hk
  rcases List.mem_cons.1 hk with rfl | hk
  · exact h1.lt
  · exact (h2.lt k (Option.mem_toList.1 hk)).2
theorem ColI.step {w A w1 : World} {pre : List EvL} {x : EvL} {v v' : Value} {o : Obj} (h : ColI w pre A) (h1 : Boxed A w.heap.size tEvs v) (h2 : OwnV tEv A w.heap.size v pre) (h3 : v.ownBlock ≠ some w.heap.size) (hv : OwnV tEv w1 w.heap.size v' (pre ++ [x])) (hg : (A.alloc o).grownBy w1 v.ownBlock) (ho : v'.ownBlock = v.ownBlock ∨ v'.ownBlock = some (A.alloc o).heap.size) (B : Nat) (hB : w.heap.size + 1 ≤ B) :
    Boxed w1 w.heap.size tEvs v ∧ ColI w (pre ++ [x]) (w1.setCell ⟨w.heap.size, 0, none⟩ v') ∧ KpV (colS w.heap.size) (w.heap.size + 1) A (w1.setCell ⟨w.heap.size, 0, none⟩ v') ∧ KeepsFrom B A (w1.setCell ⟨w.heap.size, 0, none⟩ v') := by
  have hbl := h1.lt
  have b1 : Boxed w1 w.heap.size tEvs v := (h1.alloc o).kept hg (fun e => h3 e.symm)
  have g1 := grown_set w1 ⟨w.heap.size, 0, none⟩ v'
  have hz := hg.size
  have hza : (A.alloc o).heap.size = A.heap.size + 1 := by simp
  have hv3 : v'.ownBlock ≠ some w.heap.size := by
    rcases ho with e | e
    · rw [e]; exact h3
    · rw [e]; intro q; have := Option.some.inj q; omega
  have hblk : ∀ (k : Nat), k < A.heap.size → k ≠ w.heap.size → v.ownBlock ≠ some k → (w1.setCell ⟨w.heap.size, 0, none⟩ v').heap[k]? = A.heap[k]? := by
    intro k hk k1 k2
    exact (g1.block k (by omega) (by simpa using k1)).trans ((hg.block k (by omega) (fun e => k2 e.symm)).trans (Below.heap_alloc A o k hk))
  have hl2 : Below w.heap.size w (w1.setCell ⟨w.heap.size, 0, none⟩ v') := by
    have hal : Below w.heap.size w (A.alloc o) := h.low.alloc h.low.size o
    exact (hal.grown hg hal.size (fun r e => (h2.lt r e).1)).setCell (p := ⟨w.heap.size, 0, none⟩) (Nat.le_refl _) v'
  refine ⟨b1, ⟨⟨v', b1.set v', World.ownsRow.kept hv g1 (.inr hv3), hv3⟩, hl2⟩, ⟨by have := g1.size; omega, fun _ => ⟨fun k c t f hk ho' => ?_, fun k hk => ?_⟩⟩, ⟨by have := g1.size; omega, fun k ob hk ho' hc => ?_⟩⟩
  · rw [colS_box h1] at hk
    simp only [List.mem_cons, Option.mem_toList, not_or] at hk
    exact (hblk k (Array.getElem?_eq_some_iff.1 ho').1 hk.1 hk.2).trans ho'
  · rw [colS_box (b1.set v')] at hk
    rw [colS_box h1]
    rcases List.mem_cons.1 hk with rfl | hk
    · exact .inl (List.mem_cons_self ..)
    · have hk := Option.mem_toList.1 hk
      rcases ho with e | e
      · exact .inl (List.mem_cons_of_mem _ (Option.mem_toList.2 (by rw [← e]; exact hk)))
      · rw [e] at hk; have := Option.some.inj hk; exact .inr (by omega)
  · have hkl := (Array.getElem?_eq_some_iff.1 ho').1
    refine (hblk k hkl (by omega) (fun e => ?_)).trans ho'
    rcases h2.2 with ⟨e1, _⟩ | ⟨g, cp, cur, e1, _, hg1, _⟩
    · rw [e1] at e; cases e
    · rw [e1] at e
      have : g = k := by simpa [Value.ownBlock] using e
      subst this
      rw [hg1] at ho'
      cases ho'
      cases hc
set_option maxHeartbeats 4000000 in
theorem appSeq_ev (g : Nat) (xs : List EvL) (In0 : World → Prop) (w : World) (hxl : xs.length ≤ 1000)
    (hseq : ∀ (S : World → List Nat) (b0 : Nat) (_ : MvV S b0) (w' : World) (_ : Below w.heap.size w w') (_ : b0 ≤ w'.heap.size), SeqG Fence.wide 9 Tryz.prog 47 #[.pointer (some ⟨g, 0, none⟩), .pointer (some ⟨g + 1, 0, none⟩)] (fun x : EvL => #[evA x]) StV (KpV S b0) (fun _ pre x _ => pre ++ [x] <+: xs) (fun ys => ys = xs) (fun A => In0 A ∧ ∀ k ∈ S A, k < A.heap.size) w')
    (hIn0 : ∀ A, Below w.heap.size w A → In0 A) :
    CallsIn Fence.wide 10 Tryz.prog 31 #[.slice none 0 0, thV g] w fun e w' => ∃ v, e = .returned v ∧ OwnV tEv w' w.heap.size v xs ∧ Below w.heap.size w w' := by
  refine callsIn_of_wp_marks Tryz.func31 rfl trivial ?_ rfl
  simp only [Tryz.ntmps31, List.size_toArray, List.length_cons, List.length_nil, Nat.reduceAdd, Nat.reduceSub, Array.replicate_succ, Array.replicate_zero, List.push_toArray, List.append_toArray, List.nil_append, List.cons_append]
  gi_wp2
  obtain ⟨W3, hW3⟩ : ∃ W3, W3 = w.alloc (.cells #[.slice none 0 0] 43) := ⟨_, rfl⟩
  have hB3 : Below w.heap.size w W3 := by rw [hW3]; exact (Below.refl _ w).alloc (Nat.le_refl _) _
  have hz3 : W3.heap.size = w.heap.size + 1 := by rw [hW3]; simp
  have hI3 : ColI w [] W3 := ⟨⟨.slice none 0 0, by rw [hW3]; exact Boxed.new w _ _, OwnV.nil _ _ _, by simp [Value.ownBlock]⟩, hB3⟩
  rw [← hW3]
  have HB3 := Lib.hid hB3
  have HI3 := Lib.hid hI3
  have HIN := Lib.hid hIn0
  have HSQ := Lib.hid (hseq (colS w.heap.size) (w.heap.size + 1) (colS_mv _) W3 hB3 (by omega))
  clear hW3 hB3 hI3 hIn0 hseq
  refine wpIn_rangeFunc_ga rfl (by omega) (gf := 47) (lb := #[.pointer (some ⟨g, 0, none⟩), .pointer (some ⟨g + 1, 0, none⟩)]) rfl trivial (fun _ _ => rfl) (encs := fun x : EvL => #[evA x]) StV (KpV (colS w.heap.size) (w.heap.size + 1)) (fun _ pre x _ => pre ++ [x] <+: xs) (fun ys => ys = xs) (fun A => In0 A ∧ ∀ k ∈ colS w.heap.size A, k < A.heap.size)
    (fun pre A => ColI w pre A ∧ W3.heap.size ≤ A.heap.size) (fun _ _ _ => False)
    HSQ.out (fun _ A h => ⟨HIN.out A h.1.low, h.1.inS⟩) (fun _ => rfl)
    (fun _ _ _ _ h _ hk => h.block _ hk) (fun _ _ _ h => h.size) (fun _ _ _ h k => h.trans k) (fun _ _ _ _ hl h hc => KpV.put (colS_mv _) (by omega) h hc)
    (fun pre A B h hst => ⟨h.1.below hst, Nat.le_trans h.2 hst.size⟩) (fun c pre A B h hst => h)
    (fun pre A l o o' h hl ho hc => ⟨h.1.put (by omega) ho hc, by simpa [World.putObj] using h.2⟩) (fun c pre A l o o' h hl ho hc => h)
    (fun _ _ _ _ _ _ _ h _ _ _ => h)
    (fun W' hb hs => ⟨HI3.out.below hb, by omega⟩)
    (fun pre A B h _ hb => ⟨h.1.below hb, Nat.le_trans h.2 hb.size⟩)
    (fun _ _ _ _ _ h _ => h) (fun A B hb => KpV.of_below (colS_mv _) hb)
    (fun x A a' V => V = A.alloc (.cells #[.int .u64 x.n, .int .u64 x.tick, str x.kind, .int .i64 x.conn, str x.text] tEv) ∧ a' = { tmps := #[.slice none 0 0, thV g, .pointer (some ⟨w.heap.size, 0, none⟩), undef, .slice none 0 0, .pointer (some ⟨A.heap.size, 0, none⟩), thV g, evA x, undef, undef, undef, undef, undef], defers := [] })
    (fun x A a' V h => by rw [h.1]; exact (Below.refl _ A).alloc (Nat.le_refl _) _)
    ?assign ?body ?done ?stop
  case assign =>
    rintro k x A K hK
    have HK := Lib.hid hK; clear hK
    unfold evA thV at *
    gi_wp2
    exact HK.out _ _ ⟨rfl, rfl⟩
  case done =>
    rintro D ys A hD hz rfl ⟨hJ, _⟩ hK
    obtain ⟨v, h1, h2, _⟩ := hJ.bo
    have c2 := h1.cell
    have hput := hJ.put (o' := .deferred none) (by omega) hK rfl
    have H2 := Lib.hid h2
    have HP := Lib.hid hput
    clear h2 hput hJ h1
    gi_wp2
    refine ⟨by simp, .inl ⟨_, _, rfl, run_takeDeferred hK, ?_⟩⟩
    exact ⟨_, results_tmp (t := 4) rfl _ _ _, v, rfl, ownsRow_kc H2.out (Nat.zero_le _) (kc_putObj (b := 0) hK rfl), HP.out.low⟩
  case stop =>
    rintro D c pre A hD hz h hK
    exact h.elim
  case body =>
    rintro lp bb pre x a' A hbb hbz ⟨hJ, hz⟩ hpre ⟨A0, V, ⟨hV, rfl⟩, hkc, hA0⟩
    obtain ⟨P7, hP7⟩ : ∃ P7, P7 = A0.heap.size := ⟨_, rfl⟩
    have hbk : Blk A P7 [.int .u64 x.n, .int .u64 x.tick, str x.kind, .int .i64 x.conn, str x.text] := ⟨_, hkc _ _ _ _ (Nat.zero_le _) (by rw [hV, hP7]; exact heap_alloc_new A0 _)⟩
    rw [← hP7]
    have e0 : A.cell? ⟨P7, 0, none⟩ = some (.int .u64 x.n) := hbk.at (o := 0) rfl
    have e1 : A.cell? ⟨P7, 1, none⟩ = some (.int .u64 x.tick) := hbk.at (o := 1) rfl
    have e2 : A.cell? ⟨P7, 2, none⟩ = some (str x.kind) := hbk.at (o := 2) rfl
    have e3 : A.cell? ⟨P7, 3, none⟩ = some (.int .i64 x.conn) := hbk.at (o := 3) rfl
    have e4 : A.cell? ⟨P7, 4, none⟩ = some (str x.text) := hbk.at (o := 4) rfl
    obtain ⟨v, h1, h2, h3⟩ := hJ.bo
    have c1 := h1.cell
    have hpl : pre.length + 1 ≤ xs.length := by have := hpre.length_le; simpa using this
    have HJ := Lib.hid hJ
    have H1 := Lib.hid h1
    have H2 := Lib.hid h2
    have H3 := Lib.hid h3
    have HS := Lib.hid hJ.low.size
    have HPL := Lib.hid hpl
    clear hJ h1 h2 h3 hkc hV hbk hP7 hA0 hpre hpl
    gi_wp2_with (gi_at_builtin; refine wpListIn_app_ev evT rfl (.tmp 8) (.tmp 10) rfl w.heap.size v pre x rfl (H2.out.below ((Below.refl _ _).alloc (Nat.le_refl _) _)) A.heap.size rfl (heap_alloc_new A _) (by have := HPL.out; omega) (by have := HS.out; simp; omega) ?_; intro v' w1 hv hg ho; have hst := ColI.step HJ.out H1.out H2.out H3.out hv hg ho W3.heap.size (by omega); have hps := hv.form; obtain ⟨A2, cp2, e2', -, -⟩ := hps; rw [List.length_append, List.length_singleton] at e2'; subst e2'; have e11 := hst.1.cell; have e13 := hst.1.frozen; have HST := Lib.hid hst; clear hst hv hg ho)
    exact ⟨HST.out.2.2.2, HST.out.2.2.1, HST.out.2.1, by have := HST.out.2.2.2.size; omega⟩
end Go.Proofs.YtoehkhbppmgfkaaGreatDoor
set_option maxRecDepth 100000
namespace Go.Proofs.YtoehkhbppmgfkaaGreatDoor
open Go.RowKit
attribute [local go_sem] Oper.semAt_some
theorem trNew_bad (room : Int) (h : room < 1 ∨ 256 < room) (w : World) :
    Calls Tryz.prog 10 #[.int .i64 room] w fun e w' => e = .returned (.tuple #[.pointer none, .int .i64 1]) ∧ w' = w := by
  by_cases h1 : room < 1
  · have d1 : decide (room < 1) = true := decide_eq_true h1
    go_enter Tryz.func10, Tryz.ntmps10
    go_wp2_with fail
    go_ret2
    exact ⟨rfl, rfl⟩
  · have d1 : decide (room < 1) = false := decide_eq_false h1
    have h2 : 256 < room := by omega
    have d2 : decide (256 < room) = true := decide_eq_true h2
    go_enter Tryz.func10, Tryz.ntmps10
    go_wp2_with fail
    go_ret2
    exact ⟨rfl, rfl⟩
theorem trNew_ok (room : Int) (h1 : 1 ≤ room) (h2 : room ≤ 256) (w : World) :
    Calls Tryz.prog 10 #[.int .i64 room] w fun e w' => (∃ p, e = .returned (.tuple #[.pointer (some p), .int .i64 0])) ∧ Below w.heap.size w w' := by
  have n1 : ¬ room < 1 := by omega
  have n2 : ¬ 256 < room := by omega
  have d1 : decide (room < 1) = false := decide_eq_false n1
  have d2 : decide (256 < room) = false := decide_eq_false n2
  have hm : (Instr.makeSlice 49 (.int .i64 32) (.int .i64 32)).run Tryz.prog w = .ok (.slice (some ⟨w.heap.size, 0, none⟩) 32 32) (w.alloc (.cells (noughts 32) 5)) := make_bytes 32 32 (by omega) (by omega) w
  go_enter Tryz.func10, Tryz.ntmps10
  go_wp2_with fail
  go_ret2
  exact ⟨⟨_, rfl⟩, ((Below.refl _ w).alloc (Nat.le_refl _) _).alloc (by rw [World.size_alloc]; omega) _⟩
theorem trAdd_nil (a b c d : Value) (w : World) : Calls Tryz.prog 11 #[.pointer none, a, b, c, d] w fun e w' => e = .returned (.tuple #[.int .u64 0, .int .i64 6]) ∧ Below w.heap.size w w' := by
  go_enter Tryz.func11, Tryz.ntmps11
  go_wp2_with fail
  go_ret2
  exact ⟨rfl, Below.refl _ _⟩
theorem trNew_eq (room : Int) (h1 : 1 ≤ room) (h2 : room ≤ 256) (w : World) :
    Calls Tryz.prog 10 #[.int .i64 room] w fun e w' => e = .returned (.tuple #[.pointer (some ⟨w.heap.size + 1, 0, none⟩), .int .i64 0]) ∧ w' = (w.alloc (.cells (noughts 32) 5)).alloc (.cells #[.int .i64 room, .slice none 0 0, .int .u64 0, .slice (some ⟨w.heap.size, 0, none⟩) 32 32] 71) := by
  have n1 : ¬ room < 1 := by omega
  have n2 : ¬ 256 < room := by omega
  have d1 : decide (room < 1) = false := decide_eq_false n1
  have d2 : decide (256 < room) = false := decide_eq_false n2
  have hm : (Instr.makeSlice 49 (.int .i64 32) (.int .i64 32)).run Tryz.prog w = .ok (.slice (some ⟨w.heap.size, 0, none⟩) 32 32) (w.alloc (.cells (noughts 32) 5)) := make_bytes 32 32 (by omega) (by omega) w
  go_enter Tryz.func10, Tryz.ntmps10
  go_wp2_with fail
  go_ret2
  exact ⟨rfl, rfl⟩
end Go.Proofs.YtoehkhbppmgfkaaGreatDoor
set_option maxRecDepth 100000
namespace Go.Proofs.YtoehkhbppmgfkaaGreatDoor
open Go Go.RowKit Go.Shelf
attribute [local go_sem] Oper.semAt_some
def sinP (n : Nat) (e : EvL) : Bool := decide (n < e.n)
theorem sinW (gb n : Nat) (e : EvL) (A : World) (h : A.cell? ⟨gb, 0, none⟩ = some (.int .u64 n)) :
    Calls Tryz.prog 33 #[evA e, .pointer (some ⟨gb, 0, none⟩)] A fun r B => r = .returned (.bool (sinP n e)) ∧ Below A.heap.size A B := by
  have hlt : gb < A.heap.size := World.block_lt_of_cell? A ⟨gb, 0, none⟩ h
  obtain ⟨N, t, k, c, s⟩ := e
  have hc : (A.alloc (.cells #[.int .u64 N, .int .u64 t, str k, .int .i64 c, str s] tEv)).cell? ⟨gb, 0, none⟩ = some (.int .u64 n) := cell_belowV h ((Below.refl _ A).alloc (Nat.le_refl _) _)
  have HB := Lib.hid (show Below A.heap.size A (A.alloc (.cells #[.int .u64 N, .int .u64 t, str k, .int .i64 c, str s] tEv)) from (Below.refl _ A).alloc (Nat.le_refl _) _)
  clear h hlt
  unfold evA sinP
  go_enter Tryz.func33, Tryz.ntmps33
  go_wp2_with fail
  go_ret
  exact ⟨rfl, HB.out⟩
theorem collect_ev (g : Nat) (xs : List EvL) (In0 : World → Prop) (w : World) (hxl : xs.length ≤ 1000)
    (hseq : ∀ (S : World → List Nat) (b0 : Nat) (_ : MvV S b0) (w' : World) (_ : Below w.heap.size w w') (_ : b0 ≤ w'.heap.size), SeqG Fence.wide 9 Tryz.prog 47 #[.pointer (some ⟨g, 0, none⟩), .pointer (some ⟨g + 1, 0, none⟩)] (fun x : EvL => #[evA x]) StV (KpV S b0) (fun _ pre x _ => pre ++ [x] <+: xs) (fun ys => ys = xs) (fun A => In0 A ∧ ∀ k ∈ S A, k < A.heap.size) w')
    (hIn0 : ∀ A, Below w.heap.size w A → In0 A) :
    Calls Tryz.prog 12 #[thV g] w fun e w' => ∃ v, e = .returned v ∧ OwnV tEv w' w.heap.size v xs ∧ Below w.heap.size w w' := by
  refine (callsIn_wide (n := 11)).1 ?_
  refine callsIn_of_wp Tryz.func12 rfl trivial ?_ rfl
  simp only [Tryz.ntmps12, List.size_toArray, List.length_cons, List.length_nil, Nat.reduceAdd, Nat.reduceSub, Array.replicate_succ, Array.replicate_zero, List.push_toArray, List.append_toArray, List.nil_append, List.cons_append]
  gi_wp2
  refine ⟨trivial, (appSeq_ev g xs In0 w hxl hseq hIn0).mono ?_⟩
  rintro e w' ⟨v, rfl, ho, hb⟩
  have HO := Lib.hid ho
  have HB := Lib.hid hb
  clear ho hb
  gi_wp2
  go_ret
  exact ⟨v, rfl, HO.out, HB.out⟩
theorem collect_since (g b gb n : Nat) (V : Value) (L : List EvL) (w : World) (hcT : w.cell? ⟨b, 1, none⟩ = some V) (hv : EvIn w w.heap.size V L) (hl : L.length ≤ 1000)
    (hg0 : w.cell? ⟨g, 0, none⟩ = some (.pointer (some ⟨b, 0, none⟩))) (hg1 : w.cell? ⟨g + 1, 0, none⟩ = some (sinceF gb)) (hn : w.cell? ⟨gb, 0, none⟩ = some (.int .u64 n)) :
    Calls Tryz.prog 12 #[thV g] w fun e w' => ∃ v, e = .returned v ∧ OwnV tEv w' w.heap.size v (L.filter (sinP n)) ∧ Below w.heap.size w w' := by
  refine collect_ev g (L.filter (sinP n)) (fun A => A.cell? ⟨g, 0, none⟩ = some (.pointer (some ⟨b, 0, none⟩)) ∧ A.cell? ⟨g + 1, 0, none⟩ = some (sinceF gb) ∧ A.cell? ⟨gb, 0, none⟩ = some (.int .u64 n)) w (Nat.le_trans (List.length_filter_le _ _) hl) ?_ (fun A hA => ⟨cell_belowV hg0 hA, cell_belowV hg1 hA, cell_belowV hn hA⟩)
  intro S b0 hS w' hw hb0
  have := thSeq_since hS (sinP n) (fun A => A.cell? ⟨gb, 0, none⟩ = some (.int .u64 n)) g b gb V L w' hb0 (fun e A h => sinW gb n e A h) (cell_belowV hcT hw) ((hv.below hw (Nat.le_refl _)).more hw.size) hl 9 (by omega)
  intro l J Jx W h1 h2 h3 h4 h5 h6
  exact this l J Jx W h1 (fun pre A hJ => by obtain ⟨⟨q1, q2, q3⟩, q4⟩ := h2 pre A hJ; exact ⟨q1, q2, q3, q4⟩) h3 h4 h5 h6
section
variable {w w' : World} {base b room last : Nat} {V C : Value} {L : List EvL} {ch : List UInt8}
/-- Since and Collect. -/
theorem since_tr (h : TR w base b room V C L last ch) (n : Nat) :
    Calls Tryz.prog 12 #[thV (w.heap.size + 1)] (thW (w.alloc (.cells #[.int .u64 n] 22)) (some ⟨b, 0, none⟩) (sinceF w.heap.size)) fun e w' => ∃ v, e = .returned v ∧ OwnV tEv w' (w.heap.size + 3) v (L.filter (sinP n)) ∧ Below w.heap.size w w' := by
  obtain ⟨W, hW⟩ : ∃ W, W = thW (w.alloc (.cells #[.int .u64 n] 22)) (some ⟨b, 0, none⟩) (sinceF w.heap.size) := ⟨_, rfl⟩
  have hz : W.heap.size = w.heap.size + 3 := by rw [hW]; simp [thW]
  have hb : Below w.heap.size w W := by rw [hW]; unfold thW; exact (((Below.refl _ w).alloc (Nat.le_refl _) _).alloc (by simp) _).alloc (by simp; omega) _
  have hT := h.below hb
  have k0 : W.cell? ⟨w.heap.size, 0, none⟩ = some (.int .u64 n) := by rw [hW]; unfold thW; exact (((Blk.new w [.int .u64 n] 22).alloc _).alloc _).at (o := 0) rfl
  have k1 : W.cell? ⟨w.heap.size + 1, 0, none⟩ = some (.pointer (some ⟨b, 0, none⟩)) := by
    have := ((Blk.new (w.alloc (.cells #[.int .u64 n] 22)) [.pointer (some ⟨b, 0, none⟩)] 38).alloc (.cells #[sinceF w.heap.size] 76)).at (o := 0) rfl
    rw [World.size_alloc] at this
    rw [hW]; exact this
  have k2 : W.cell? ⟨w.heap.size + 1 + 1, 0, none⟩ = some (sinceF w.heap.size) := by
    have := (Blk.new ((w.alloc (.cells #[.int .u64 n] 22)).alloc (.cells #[.pointer (some ⟨b, 0, none⟩)] 38)) [sinceF w.heap.size] 76).at (o := 0) rfl
    rw [World.size_alloc, World.size_alloc] at this
    rw [hW]; exact this
  rw [← hW]
  refine (collect_since (w.heap.size + 1) b w.heap.size n V L W (hT.blk.at (o := 1) rfl) hT.own.evIn h.len k1 k2 k0).mono ?_
  rintro e w' ⟨v, rfl, ho, hb2⟩
  exact ⟨v, rfl, by rw [← hz]; exact ho, hb.trans (hb2.mono hb.size)⟩
end
end Go.Proofs.YtoehkhbppmgfkaaGreatDoor
set_option maxRecDepth 100000
namespace Go.Proofs.YtoehkhbppmgfkaaGreatDoor
open Go Go.RowKit Go.Shelf
attribute [local go_sem] Oper.semAt_some
/-- A new Trace. -/
theorem TR.new (w : World) (room : Nat) (h1 : 1 ≤ room) (h2 : room ≤ 256) (hT : TabA w) (hE : PowE w) :
    TR ((w.alloc (.cells (noughts 32) 5)).alloc (.cells #[.int .i64 (room : Int), .slice none 0 0, .int .u64 0, .slice (some ⟨w.heap.size, 0, none⟩) 32 32] 71)) w.heap.size (w.heap.size + 1) room (.slice none 0 0) (.slice (some ⟨w.heap.size, 0, none⟩) 32 32) [] 0 (List.replicate 32 0) := by
  have hb1 : Below w.heap.size w (w.alloc (.cells (noughts 32) 5)) := (Below.refl _ w).alloc (Nat.le_refl _) _
  have hb2 : Below w.heap.size w ((w.alloc (.cells (noughts 32) 5)).alloc (.cells #[.int .i64 (room : Int), .slice none 0 0, .int .u64 0, .slice (some ⟨w.heap.size, 0, none⟩) 32 32] 71)) := hb1.alloc (by simp) _
  have hn : OwnB (w.alloc (.cells (noughts 32) 5)) w.heap.size (.slice (some ⟨w.heap.size, 0, none⟩) 32 32) (List.replicate 32 0) :=
    OwnB.of_heap (n := 32) (Nat.le_refl _) (heap_alloc_new w _) (noughts_size 32) (by decide) (by simp) (by rw [noughts_list]; simp) (Nat.le_refl _)
  refine ⟨?_, OwnV.nil _ _ _, hn.below ((Below.refl _ _).alloc (Nat.le_refl _) _), by omega, ⟨by simp [Value.ownBlock], by simp [Value.ownBlock]⟩, fun k hk => by simp [Value.ownBlock] at hk, h1, h2, by simp, by omega, by simp, hT.below hb2 (tab_lt hT), hE.below hb2, tab_lt hT, hE.low⟩
  have := Blk.new (w.alloc (.cells (noughts 32) 5)) [.int .i64 (room : Int), .slice none 0 0, .int .u64 0, .slice (some ⟨w.heap.size, 0, none⟩) 32 32] 71
  rw [World.size_alloc] at this
  exact this
def egE : EvL := ⟨1, 5, [111, 112, 101, 110], 2, [97]⟩
theorem egE_ok : egE.Ok := ⟨by decide, by decide, by decide, by decide +kernel, by decide, by decide, by decide⟩
theorem egE_line : evLine egE = [49, 32, 53, 32, 111, 112, 101, 110, 32, 50, 32, 54, 49] := by decide +kernel
set_option maxHeartbeats 2000000 in
theorem awake23 (w : World) (hT : TabA w) (hE : PowE w) :
    Calls Tryz.prog 4 #[] w fun e w' => e = .returned (.bool true) ∧ Below w.heap.size w w' := by
  have HNW := Lib.hid (trNew_eq 2 (by omega) (by omega) w)
  have HTR := Lib.hid (TR.new w 2 (by omega) (by omega) hT hE)
  obtain ⟨W1, hW1⟩ : ∃ W, W = (w.alloc (.cells (noughts 32) 5)).alloc (.cells #[.int .i64 2, .slice none 0 0, .int .u64 0, .slice (some ⟨w.heap.size, 0, none⟩) 32 32] 71) := ⟨_, rfl⟩
  have HB1 := Lib.hid (show Below w.heap.size w W1 from by rw [hW1]; exact ((Below.refl _ w).alloc (Nat.le_refl _) _).alloc (by simp) _)
  have HT1 := Lib.hid (show TR W1 w.heap.size (w.heap.size + 1) 2 (.slice none 0 0) (.slice (some ⟨w.heap.size, 0, none⟩) 32 32) [] 0 (List.replicate 32 0) from by rw [hW1]; exact HTR.out)
  rw [← hW1] at HNW
  have HAD := Lib.hid (add_ok HT1.out (by simp) 5 [111, 112, 101, 110] 2 [97] egE_ok (by omega))
  have hE' := Lib.hid hE
  clear hT hE HTR hW1
  go_enter Tryz.func4, Tryz.ntmps4
  go_wp2_with fail
  refine HNW.out.mono ?_
  rintro e w1 ⟨rfl, rfl⟩
  go_wp2_with fail
  refine HAD.out.mono ?_
  rintro e w2 ⟨rfl, V2, C2, hT2, ht2, -⟩
  have hkl : keepL 2 ([] ++ [(⟨0 + 1, 5, [111, 112, 101, 110], 2, [97]⟩ : EvL)]) = [egE] := rfl
  rw [hkl] at hT2
  have HB2 := Lib.hid (HB1.out.trans (HT1.out.low ht2))
  have HT2 := Lib.hid hT2
  clear hT2 ht2 hkl HAD
  go_wp2_with fail
  refine (trSince _ _ _).mono ?_
  rintro e w3 ⟨rfl, rfl⟩
  go_wp2_with fail
  refine (show Calls Tryz.prog 12 #[thV (w2.heap.size + 1)] (thW (w2.alloc (.cells #[.int .u64 0] 22)) (some ⟨w.heap.size + 1, 0, none⟩) (sinceF w2.heap.size)) _ from since_tr HT2.out 0).mono ?_
  rintro e w4 ⟨v, rfl, hO4, hB4⟩
  have hfl : [egE].filter (sinP 0) = [egE] := rfl
  rw [hfl] at hO4
  have HB4 := Lib.hid (HB2.out.trans (hB4.mono HB2.out.size))
  obtain ⟨A4, c4, rfl, hc1, hc2⟩ := hO4.form
  obtain ⟨g4, o4, rfl, hg4, q0, q1, q2, q3, q4⟩ := hO4.evIn.five 0 (by simp)
  have hE4 := hE'.out.below HB4.out
  simp only [List.getElem_cons_zero, Nat.zero_mul, Nat.add_zero, List.length_singleton] at q0 q1 q2 q3 q4 hc1 hc2 ⊢
  have n1 : (1 : Int) ≤ 1 := by omega
  have HLN := Lib.hid (show Calls Tryz.prog 6 #[.agg #[.int .u64 1, .int .u64 5, str [111, 112, 101, 110], .int .i64 2, str [97]]] w4 fun x w' => x = .returned (.tuple #[str [49, 32, 53, 32, 111, 112, 101, 110, 32, 50, 32, 54, 49], .int .i64 0]) ∧ Below w4.heap.size w4 w' from by
    have := evLine_ok egE egE_ok w4 hE4
    rw [egE_line] at this
    exact this)
  have r0 : w4.cell? ⟨g4, o4, none⟩ = some (.int .u64 1) := q0
  have r1 : w4.cell? ⟨g4, o4 + 1, none⟩ = some (.int .u64 5) := q1
  have r2 : w4.cell? ⟨g4, o4 + 2, none⟩ = some (str [111, 112, 101, 110]) := q2
  have r3 : w4.cell? ⟨g4, o4 + 3, none⟩ = some (.int .i64 2) := q3
  have r4 : w4.cell? ⟨g4, o4 + 4, none⟩ = some (str [97]) := q4
  clear q0 q1 q2 q3 q4 hO4 hB4 hfl hE4 HT2
  go_wp2_with fail
  refine HLN.out.mono ?_
  rintro e w5 ⟨rfl, hB5⟩
  have HB5 := Lib.hid (HB4.out.trans (hB5.mono HB4.out.size))
  clear hB5 HLN
  go_wp2_with fail
  go_ret
  exact ⟨rfl, HB5.out⟩
end Go.Proofs.YtoehkhbppmgfkaaGreatDoor
