/- The reference of box: Finds. The reference of box: Finds, walked. box.Handles: the iterator over a text's handles. The law's finds: a text's handles, at most so many. box: the law's same over finds. -/
import Derived.Test.YtpfbpiegejbhkaaDoorBxTag
import Derived.Test.YtpfbpiegejbhkaaDoorRangeG
import Derived.Test.YtpfbpiegejbhkaaDoorSlice
import Derived.Shelf.RegionOpen
import Derived.WalkKit
import Derived.OwnWalkIn
import Derived.TacticsInMore
import Derived.LoopNIn
import Derived.LoopIn
import Derived.RangeFuncCalls
import Derived.RangeFuncLeaves
import Derived.RangeFuncBox
import Derived.Test.YtpfbpiegejbhkaaDoorApart
import Derived.Deep.AppendLies
import Derived.Deep.DeepCutAuto
import Derived.StillTailTactics
set_option maxRecDepth 100000
namespace Go.Proofs.YtpfbpiegejbhkaaDoor
open Go.RowKit

def win (l : List UInt8) (i : Nat) : List UInt8 := (l.drop i).take 32
/-- The places from i on, with their numbers. -/
def fnd (l : List UInt8) : Nat → Nat → List (Nat × Nat)
  | 0, _ => []
  | f + 1, i => if l.length < i + 32 then [] else if 0 < tagN (win l i) then (i, tagN (win l i)) :: fnd l f (i + 32) else fnd l f (i + 1)
theorem fnd_end (l : List UInt8) (f i : Nat) (h : l.length < i + 32) : fnd l f i = [] := by
  cases f with
  | zero => rfl
  | succ f => unfold fnd; rw [if_pos h]
theorem fnd_same (l : List UInt8) : ∀ f g i, l.length + 1 ≤ f + i → l.length + 1 ≤ g + i → fnd l f i = fnd l g i
  | 0, g, i, h1, h2 => by rw [fnd_end l g i (by omega), fnd_end l 0 i (by omega)]
  | f + 1, 0, i, h1, h2 => by rw [fnd_end l (f + 1) i (by omega), fnd_end l 0 i (by omega)]
  | f + 1, g + 1, i, h1, h2 => by
    unfold fnd
    rw [fnd_same l f g (i + 32) (by omega) (by omega), fnd_same l f g (i + 1) (by omega) (by omega)]
/-- All places. -/
def fins (l : List UInt8) (i : Nat) : List (Nat × Nat) := fnd l (l.length + 1) i
theorem fins_end {l : List UInt8} {i : Nat} (h : l.length < i + 32) : fins l i = [] := fnd_end l _ i h
theorem fins_hit {l : List UInt8} {i : Nat} (h : i + 32 ≤ l.length) (ht : 0 < tagN (win l i)) : fins l i = (i, tagN (win l i)) :: fins l (i + 32) := by
  show fnd l (l.length + 1) i = _ :: fnd l (l.length + 1) (i + 32)
  rw [fnd_same l (l.length + 1) l.length (i + 32) (by omega) (by omega)]
  conv => lhs; unfold fnd
  rw [if_neg (by omega), if_pos ht]
theorem fins_miss {l : List UInt8} {i : Nat} (h : i + 32 ≤ l.length) (ht : tagN (win l i) = 0) : fins l i = fins l (i + 1) := by
  show fnd l (l.length + 1) i = fnd l (l.length + 1) (i + 1)
  rw [fnd_same l (l.length + 1) l.length (i + 1) (by omega) (by omega)]
  conv => lhs; unfold fnd
  rw [if_neg (by omega), if_neg (by omega)]
theorem win_eq (l : List UInt8) (i : Nat) : win l i = (l.drop i).take 32 := rfl
theorem win_length {l : List UInt8} {i : Nat} (h : i + 32 ≤ l.length) : (win l i).length = 32 := by unfold win; rw [List.length_take, List.length_drop]; omega
def fc (xs : List (Nat × Nat)) : List Value := xs.flatMap fun x => [.int .i64 (x.1 : Int), .int .i64 (x.2 : Int)]
theorem fc_snoc (xs : List (Nat × Nat)) (x : Nat × Nat) : fc (xs ++ [x]) = fc xs ++ [.int .i64 (x.1 : Int), .int .i64 (x.2 : Int)] := by unfold fc; simp
attribute [irreducible] win fins fc
end Go.Proofs.YtpfbpiegejbhkaaDoor
set_option maxRecDepth 100000
namespace Go.Proofs.YtpfbpiegejbhkaaDoor
open Go.RowKit

theorem info_fd : (Tryd.prog.info? 49).map (fun i => (i.zero, i.size, i.bytes)) = some (some (.agg #[.int .i64 0, .int .i64 0]), 2, 16) := by kernel_rfl
theorem fdRow_form {W : World} {base : Nat} {e : TypeId} {size n : Nat} {v : Value} {xs : List Value} (h : W.ownsRow base e size v n xs) : ∃ A c, v = .slice A n c ∧ n ≤ c ∧ c ≤ maxLen := by
  rcases h.2 with ⟨rfl, rfl⟩ | ⟨g, cap, cur, rfl, _, _, h1, h2, _⟩
  · exact ⟨_, _, rfl, by simp, by unfold maxLen; omega⟩
  · exact ⟨_, _, rfl, h1, h2⟩
theorem fdRow_below {W W' : World} {base : Nat} {e : TypeId} {size : Nat} {v : Value} {n : Nat} {xs : List Value} (h : W.ownsRow base e size v n xs) (hb : Below W.heap.size W W') : W'.ownsRow base e size v n xs := by
  obtain ⟨h1, h2 | ⟨g, cap, cur, rfl, hbg, hg, h3⟩⟩ := h
  · exact ⟨h1, .inl h2⟩
  · exact ⟨h1, .inr ⟨g, cap, cur, rfl, hbg, (hb.block g (Array.getElem?_eq_some_iff.1 hg).1).trans hg, h3⟩⟩
theorem wpList_appI {w : World} {ops : Array Oper} {rest : List Oper} {o : Oper} {a : Act} {Q : Exit → Act → World → Prop} (hgd : o.guard = none) (s x : Operand) (ho : o.op = .call { callee := .builtin .append, args := #[s, x], argTypes := #[31, 31] })
    (base : Nat) (v : Value) (pre : List (Nat × Nat)) (hs : a.eval s = v) (hown : w.ownsRow base 49 2 v pre.length (fc pre)) (g p n : Nat) (hx : a.eval x = .slice (some ⟨g, 0, none⟩) 1 1)
    (hg : w.heap[g]? = some (.cells #[.int .i64 (p : Int), .int .i64 (n : Int)] 49 (0, 0))) (hlen : pre.length ≤ 100000) (hbase : base ≤ w.heap.size)
    (h : ∀ v' w', w'.ownsRow base 49 2 v' (pre ++ [(p, n)]).length (fc (pre ++ [(p, n)])) → w.grownBy w' v.ownBlock → wpList Tryd.prog ops Q rest (a.put o.dst v') w') : wpList Tryd.prog ops Q (o :: rest) a w := by
  obtain ⟨i0, hi, hz0, hz1, hz2⟩ := info_parts info_fd
  refine wpList_append_own w hgd s x 31 ho base 49 i0 (.agg #[.int .i64 0, .int .i64 0]) 2 16 Tryd.underlying31 hi hz0 hz1 hz2 rfl (by decide) v pre.length (fc pre) hs hown ⟨g, 0, none⟩ 1 1 [.int .i64 (p : Int), .int .i64 (n : Int)] hx rfl ?_ ?_ (by unfold maxLen; omega) (by omega) hbase (fun v' w' g1 g2 _ => h v' w' ?_ g2)
  · intro j u hu
    have hadd : (⟨g, 0, none⟩ : Addr).add j = ⟨g, j, none⟩ := by unfold Addr.add; split <;> simp_all
    rw [hadd]
    simpa [World.cell?, hg] using hu
  · intro u hu
    simp at hu
    rcases hu with rfl | rfl <;> rfl
  · rw [fc_snoc, List.length_append]; exact g1
set_option maxHeartbeats 4000000 in
theorem refFinds_any (B : Nat) (v : Value) (l : List UInt8) (w : World) (hv : Sl w B v l) (hB : B ≤ w.heap.size) (hl : l.length ≤ 100000) :
    Calls Tryd.prog 11 #[v] w fun e w' => ∃ v', e = .returned v' ∧ w'.ownsRow w.heap.size 49 2 v' (fins l 0).length (fc (fins l 0)) ∧ Below w.heap.size w w' := by
  have HV := Lib.hid hv
  obtain ⟨A, c, rfl, _, k1, k2, _⟩ := hv
  have HBB := Lib.hid hB
  go_enter Tryd.func11, Tryd.ntmps11
  go_wp2_with fail
  go_loopw [3, 4] (fun s p wr => ∃ (i : Nat) (pre : List (Nat × Nat)), p = .int .i64 (i : Int) ∧ i ≤ l.length ∧ fins l 0 = pre ++ fins l i ∧ pre.length ≤ i ∧ wr.ownsRow w.heap.size 49 2 s pre.length (fc pre) ∧ Below w.heap.size w wr) (fun _ p _ => l.length - (intOf p).toNat)
  case atStart => exact ⟨0, [], rfl, Nat.zero_le _, rfl, Nat.le_refl _, (by have h := World.ownsRow_nil w w.heap.size 49 2; simpa [fc] using h), Below.refl _ _⟩
  case round =>
    obtain ⟨i, pre, rfl, hi, hf, hpl, hrow, hbl⟩ := hrel
    have HF := Lib.hid hf; clear hf
    have HR := Lib.hid hrow
    obtain ⟨As, cs, rfl, _, _⟩ := fdRow_form hrow
    clear hrow
    have HBL := Lib.hid hbl; clear hbl
    have hsw : w.heap.size ≤ wr.heap.size := HBL.out.size
    by_cases h32 : i + 32 ≤ l.length
    · have hc1 : (32 : Int) ≤ (l.length : Int) - (i : Int) := by omega
      obtain ⟨V, hrun, hsl, _⟩ := slice_mid A l.length c i (i + 32) (i : Int) ((i : Int) + 32) rfl (by omega) (by omega) h32 k1
      have HL := Lib.hid (show ∀ W, Below wr.heap.size wr W → Calls Tryd.prog 23 #[V] W fun e w' => e = .returned (.tuple #[.int .i64 (tagN (win l i) : Int), .bool (looks (win l i))]) ∧ Below W.heap.size W w' from fun W hW => by
        have hS := hsl W B l ((HV.out.below HBL.out hB).below hW (by omega)) rfl
        rw [show i + 32 - i = 32 by omega, ← win_eq] at hS
        exact refLooks_all B V (win l i) W hS (by have := hW.size; omega) (win_length h32))
      clear hsl
      have hno : looks (win l i) = false → tagN (win l i) = 0 := tagN_no
      have htl := tagN_lt (win l i)
      have Hhit := Lib.hid (fun h => fins_hit (l := l) h32 h)
      have Hmiss := Lib.hid (fun h => fins_miss (l := l) h32 h)
      obtain ⟨b, hb⟩ : ∃ b, b = looks (win l i) := ⟨_, rfl⟩
      obtain ⟨t, ht⟩ : ∃ t, t = tagN (win l i) := ⟨_, rfl⟩
      rw [← hb, ← ht] at HL hno
      rw [← ht] at Hhit Hmiss htl
      clear hb ht
      have HTL := Lib.hid htl; clear htl
      by_cases ht : 0 < t
      · have hbt : b = true := by cases b with
          | true => rfl
          | false => have := hno rfl; omega
        subst hbt
        clear hno
        go_wp2_with fail
        refine (HL.out _ (Below.refl _ _)).mono ?_
        rintro e w2 ⟨rfl, hb2⟩
        have HB2 := Lib.hid (HBL.out.trans (hb2.mono hsw))
        have HR2 := Lib.hid (fdRow_below HR.out hb2)
        have hs2 : wr.heap.size ≤ w2.heap.size := hb2.size
        clear hb2
        have HRA := Lib.hid (fdRow_below HR2.out ((Below.refl w2.heap.size w2).alloc (Nat.le_refl _) (.cells #[.int .i64 (i : Int), .int .i64 (t : Int)] 49)))
        have HBA := Lib.hid (HB2.out.alloc (Nat.le_trans hsw hs2) (.cells #[.int .i64 (i : Int), .int .i64 (t : Int)] 49))
        have HSZ : Hid (w.heap.size ≤ (w2.alloc (.cells #[.int .i64 (i : Int), .int .i64 (t : Int)] 49)).heap.size) := Lib.hid HBA.out.size
        have HNW := Lib.hid (heap_alloc_new w2 (.cells #[.int .i64 (i : Int), .int .i64 (t : Int)] 49))
        have HPL : Hid (pre.length ≤ 100000) := Lib.hid (by omega)
        go_wp2_with (at_builtin; go_loud ((with_reducible refine wpList_appI ?g1 (.tmp 26) (.tmp 30) ?g2 w.heap.size (.slice As pre.length cs) pre ?g3 ?g4 w2.heap.size i t ?g5 ?g6 ?g7 ?g8 ?_); (case g1 => rfl); (case g2 => rfl); (case g3 => rfl); (case g4 => exact HRA.out); (case g5 => rfl); (case g6 => exact HNW.out); (case g7 => exact HPL.out); (case g8 => exact HSZ.out); intro v' w3 hv hg; have HV3 := Lib.hid hv; have HB3 := Lib.hid (HBA.out.grown hg HSZ.out (fun j e => (World.ownsRow.lt HRA.out j e).1)); clear hv hg))
        go_roundw
        case rel => exact ⟨i + 32, pre ++ [(i, t)], by go_num, h32, by rw [HF.out, Hhit.out ht]; simp, by simp; omega, HV3.out, HB3.out⟩
        case measure => simp [intOf]; omega
      · have ht0 : t = 0 := by omega
        subst ht0
        clear hno ht
        have HMI := Lib.hid (Hmiss.out rfl)
        cases b
        all_goals
          go_wp2_with fail
          refine (HL.out _ (Below.refl _ _)).mono ?_
          rintro e w2 ⟨rfl, hb2⟩
          have HB2 := Lib.hid (HBL.out.trans (hb2.mono hsw))
          have HR2 := Lib.hid (fdRow_below HR.out hb2); clear hb2
          go_wp2_with fail
          go_roundw
          case rel => exact ⟨i + 1, pre, by go_num, by omega, by rw [HF.out, HMI.out], by omega, HR2.out, HB2.out⟩
          case measure => simp [intOf]; omega
    · have hc1 : ¬ (32 : Int) ≤ (l.length : Int) - (i : Int) := by omega
      have hend := fins_end (l := l) (i := i) (by omega)
      have HE := Lib.hid hend; clear hend
      go_wp2_with fail
      go_ret
      exact ⟨_, rfl, by rw [HF.out, HE.out, List.append_nil]; exact HR.out, HBL.out⟩
end Go.Proofs.YtpfbpiegejbhkaaDoor
set_option maxRecDepth 100000
namespace Go.Proofs.YtpfbpiegejbhkaaDoor
open Go.RowKit Go.Shelf
attribute [local go_sem] Oper.semAt_some
abbrev hF : Nat := 35
/-- Between its rounds the iterator only makes new memory. -/
def StH (_ : Nat) (A B : World) : Prop := Below A.heap.size A B
def HhY (L : List UInt8) (_ : Nat) (pre : List (Nat × Nat)) (x : Nat × Nat) (_ : World) : Prop := pre ++ [x] <+: fins L 0
/-- What the iterator reads: its box, and the text. -/
def HhIn (Bs : Nat) (V : Value) (L : List UInt8) (A : World) : Prop := Boxed A Bs 23 V ∧ Sl A A.heap.size V L
set_option maxHeartbeats 2000000 in
theorem handles1_g (d : Nat) (hd : 1 ≤ d) (Bs : Nat) (Ad : Option Addr) (c : Nat) (L : List UInt8) (hL : L.length ≤ 1000) (hk1 : L.length ≤ c) (w : World) :
    SeqG Fence.wide d Tryd.prog hF #[.pointer (some ⟨Bs, 0, none⟩)] (fun x : Nat × Nat => #[.int .i64 (x.1 : Int), .int .i64 (x.2 : Int)]) StH (fun _ _ => True) (HhY L) (fun ys => ys = fins L 0)
      (HhIn Bs (.slice Ad L.length c) L) w := by
  intro l J Jx W hW hIn hJ hJx hY h0
  have HIn := Lib.hid hIn; clear hIn
  clear hJx
  have HY := Lib.hid hY; clear hY
  have H0 := Lib.hid h0
  clear h0
  refine callsIn_of_wp Tryd.func35 rfl trivial ?_ rfl
  simp only [Tryd.ntmps35, List.size_toArray, List.length_cons, List.length_nil, Nat.reduceAdd, Nat.reduceSub, Array.replicate_succ, Array.replicate_zero, List.push_toArray, List.append_toArray, List.nil_append, List.cons_append]
  gi_wp2
  gi_loopw [3] (fun i wr => ∃ (p : Nat) (pre : List (Nat × Nat)), p ≤ L.length ∧ i = .int .i64 (p : Int) ∧ fins L 0 = pre ++ fins L p ∧ J pre wr ∧ W.heap.size ≤ wr.heap.size)
    (fun i _ => L.length - (intOf i).toNat)
  case atStart => exact ⟨0, [], by omega, rfl, rfl, H0.out, Nat.le_refl _⟩
  case round =>
    obtain ⟨p, pre, hp, rfl, hf, hJs, hzr⟩ := hrel
    have HF := Lib.hid hf; clear hf
    obtain ⟨hbx, hsl0⟩ := HIn.out _ _ hJs
    have hc := hbx.cell
    by_cases h32 : p + 32 ≤ L.length
    · have hc1 : (32 : Int) ≤ (L.length : Int) - (p : Int) := by omega
      obtain ⟨V, hrun, hsl, _⟩ := slice_mid Ad L.length c p (p + 32) (p : Int) ((p : Int) + 32) rfl (by omega) (by omega) h32 hk1
      have hS := hsl wr wr.heap.size L hsl0 rfl
      rw [show p + 32 - p = 32 by omega, ← win_eq] at hS
      have HNN := Lib.hid (number_all wr.heap.size V (win L p) wr hS)
      have htl := tagN_lt (win L p)
      have Hhit := Lib.hid (fun h => fins_hit (l := L) h32 h)
      have Hmiss := Lib.hid (fun h => fins_miss (l := L) h32 h)
      obtain ⟨t, ht⟩ : ∃ t, t = tagN (win L p) := ⟨_, rfl⟩
      rw [← ht] at HNN Hhit Hmiss htl
      have HTL := Lib.hid htl
      clear ht hS hsl hsl0 htl
      gi_wp2
      refine ⟨trivial, (callsIn_wide.2 HNN.out).mono ?_⟩
      rintro e w2 ⟨rfl, q, hq⟩
      have HB2 := Lib.hid (show Below wr.heap.size wr w2 from by rw [hq]; exact below_drewN (Below.refl _ _) q)
      have HJ2 := Lib.hid (hJ pre wr w2 hJs HB2.out)
      have hz2 := HB2.out.size
      clear hq hJs hbx hc HNN
      by_cases h0 : 0 < t
      · have hd0 : decide (0 < t) = true := decide_eq_true h0
        rw [hd0]
        have hpx : pre ++ [(p, t)] <+: fins L 0 := by
          rw [HF.out, Hhit.out h0]
          exact ⟨fins L (p + 32), by simp⟩
        obtain ⟨fn, tmps, assign, body, hy, hR⟩ := HY.out pre (p, t) w2 HJ2.out (by omega) hpx
        have HR := Lib.hid hR; clear hR hpx hd0
        gi_wp2
        refine HR.out.mono ?_
        rintro e W3 (⟨rfl, hJ4, hz4, _, _⟩ | ⟨rfl, hJx4, _, _⟩)
        · gi_wp2
          go_roundw
          case rel => exact ⟨p + 32, pre ++ [(p, t)], by omega, by go_num, by rw [HF.out, Hhit.out h0]; simp, hJ4, by omega⟩
          case measure => simp [intOf]; omega
        · gi_wp2
          refine bodyPost_ret (results_none rfl _ _ _) rfl ?_
          exact ⟨⟨_, rfl⟩, .inr ⟨_, hJx4⟩⟩
      · have hd0 : decide (0 < t) = false := decide_eq_false h0
        rw [hd0]
        have HMI := Lib.hid (Hmiss.out (by omega))
        clear hd0
        gi_wp2
        go_roundw
        case rel => exact ⟨p + 1, pre, by omega, by go_num, by rw [HF.out, HMI.out], HJ2.out, by omega⟩
        case measure => simp [intOf]; omega
    · have hc1 : ¬ (32 : Int) ≤ (L.length : Int) - (p : Int) := by omega
      have HE := Lib.hid (fins_end (l := L) (i := p) (by omega))
      clear hsl0
      gi_wp2
      go_end0
      exact ⟨⟨_, rfl⟩, .inl (by rw [HF.out, HE.out, List.append_nil]; exact hJs)⟩
/-- The library's Clone of a slice, nil or not. -/
theorem clone_nil (w : World) : Calls Tryd.prog 34 #[.slice none 0 0] w fun e w' => e = .returned (.slice none 0 0) ∧ w' = w := by
  have hnil := Lib.run_eql_slice_nil (P := Tryd.prog) w 23 5 none 0 0 0 0 Tryd.underlying23
  go_enter Tryd.func34, Tryd.ntmps34
  go_wp2_with fail
  go_ret
  exact ⟨rfl, rfl⟩
theorem clone_all (B : Nat) (v : Value) (l : List UInt8) (w : World) (hv : Sl w B v l) (hB : B ≤ w.heap.size) (hl : l.length ≤ 1000000) :
    Calls Tryd.prog 34 #[v] w fun e w' => ∃ v', e = .returned v' ∧ OwnB w' w.heap.size v' l ∧ Below w.heap.size w w' := by
  obtain ⟨A, c, rfl, h0, h1, h2, h3⟩ := id hv
  cases A with
  | some a => exact clone_any B a _ c l w hv hB hl
  | none =>
    obtain rfl := h0 rfl
    obtain rfl : l = [] := List.eq_nil_of_length_eq_zero (by omega)
    refine (clone_nil w).mono ?_
    rintro e w' ⟨rfl, rfl⟩
    exact ⟨_, rfl, OwnB.nil _ _, Below.refl _ _⟩
/-- box.Handles: its text lies in a box of its own, in memory of its own. -/
theorem handles_any (B : Nat) (v : Value) (l : List UInt8) (w : World) (hv : Sl w B v l) (hB : B ≤ w.heap.size) (hl : l.length ≤ 1000000) :
    Calls Tryd.prog 24 #[v] w fun e w' => e = .returned (.func (.func hF) #[] #[.pointer (some ⟨w.heap.size, 0, none⟩)]) ∧ (∃ v', Boxed w' w.heap.size 23 v' ∧ OwnB w' (w.heap.size + 1) v' l) ∧ Below w.heap.size w w' ∧ w.heap.size + 1 ≤ w'.heap.size := by
  have HC := Lib.hid (clone_all B v l (w.alloc (.cells #[v] 23)) (hv.below ((Below.refl _ _).alloc (Nat.le_refl _) _) hB) (by simp; omega) hl)
  have hbx := Boxed.new w 23 v
  have HB1 := Lib.hid (show Below w.heap.size w (w.alloc (.cells #[v] 23)) from (Below.refl _ _).alloc (Nat.le_refl _) _)
  have hz1 : (w.alloc (.cells #[v] 23)).heap.size = w.heap.size + 1 := by simp
  obtain ⟨A, c, rfl, _, _, _, _⟩ := hv
  go_enter Tryd.func24, Tryd.ntmps24
  go_wp2_with fail
  obtain ⟨W1, hW1⟩ : ∃ W, W = w.alloc (.cells #[.slice A l.length c] 23) := ⟨_, rfl⟩
  rw [← hW1] at HC HB1 hbx hz1 ⊢
  clear hW1
  refine HC.out.mono ?_
  rintro e W2 ⟨v2, rfl, hO2, hB2⟩
  obtain ⟨A2, c2, rfl, _, _, _, _⟩ := id hO2.sl
  have hb2 : Boxed W2 w.heap.size 23 (.slice A l.length c) := hbx.kept (grown_of_below hB2 none) (by simp)
  have hc2 := hb2.cell
  have hf2 := hb2.frozen
  have hap := apart_box hO2 hb2 (by decide)
  have HO := Lib.hid (show OwnB (W2.setCell ⟨w.heap.size, 0, none⟩ (.slice A2 l.length c2)) (w.heap.size + 1) (.slice A2 l.length c2) l from (hO2.lower (by omega)).kept (grown_set W2 ⟨w.heap.size, 0, none⟩ (.slice A2 l.length c2)) (.inr hap))
  have HX := Lib.hid (hb2.set (.slice A2 l.length c2))
  have HL := Lib.hid (show Below w.heap.size w (W2.setCell ⟨w.heap.size, 0, none⟩ (.slice A2 l.length c2)) from (HB1.out.trans (hB2.mono (by omega))).setCell (p := ⟨w.heap.size, 0, none⟩) (Nat.le_refl _) (.slice A2 l.length c2))
  have hz2 := hB2.size
  clear hO2 hb2 hap hB2
  go_wp2_with fail
  go_ret
  exact ⟨rfl, ⟨_, HX.out, HO.out⟩, HL.out, by simp; omega⟩
end Go.Proofs.YtpfbpiegejbhkaaDoor
set_option maxRecDepth 100000
namespace Go.Proofs.YtpfbpiegejbhkaaDoor
open Go.RowKit Go.Shelf
attribute [local go_sem] Oper.semAt_some
attribute [local semireducible] fc
theorem fc_len (xs : List (Nat × Nat)) : (fc xs).length = 2 * xs.length := by
  induction xs with
  | nil => rfl
  | cons x t ih => show (_ :: _ :: fc t).length = _; rw [List.length_cons, List.length_cons, ih, List.length_cons]; omega
/-- Finds of the call's own. -/
def OwnFd (w : World) (base : Nat) (v : Value) (xs : List (Nat × Nat)) : Prop := w.ownsRow base 49 2 v xs.length (fc xs)
theorem OwnFd.below {w w' : World} {base : Nat} {v : Value} {xs : List (Nat × Nat)} (h : OwnFd w base v xs) (hb : Below w.heap.size w w') : OwnFd w' base v xs :=
  World.ownsRow.kept h (grown_of_below hb none) (by by_cases e : v.ownBlock = none; exact .inl e; exact .inr e)
theorem fnd_len (l : List UInt8) : ∀ f i, (fnd l f i).length + i ≤ max i l.length := by
  intro f
  induction f with
  | zero => intro i; simp [fnd]; omega
  | succ f ih =>
    intro i
    unfold fnd
    by_cases h1 : l.length < i + 32
    · rw [if_pos h1]; simp; omega
    · rw [if_neg h1]
      by_cases h2 : 0 < tagN (win l i)
      · rw [if_pos h2, List.length_cons]; have := ih (i + 32); omega
      · rw [if_neg h2]; have := ih (i + 1); omega
attribute [local semireducible] fins
theorem fins_len (l : List UInt8) : (fins l 0).length ≤ l.length := by have := fnd_len l (l.length + 1) 0; show (fnd l (l.length + 1) 0).length ≤ _; omega
theorem grownBy_of_below2 {b : Nat} {A B : World} (h : Below b A B) (hb : A.heap.size ≤ b) : A.grownBy B none := grown_of_below (h.mono hb) none
theorem wpListIn_appFd {F : Fence} {n : Nat} {w : World} {ops : Array Oper} {rest : List Oper} {o : Oper} {a : Act} {Q : Exit → Act → World → Prop} (hgd : o.guard = none) (s x : Operand) (ho : o.op = .call { callee := .builtin .append, args := #[s, x], argTypes := #[31, 31] })
    (base : Nat) (v : Value) (xs : List (Nat × Nat)) (hs : a.eval s = v) (hown : OwnFd w base v xs) (gb : Nat) (q : Nat) (r : Nat) (hx : a.eval x = .slice (some ⟨gb, 0, none⟩) 1 1)
    (hnew : w.heap[gb]? = some (.cells #[.int .i64 (q : Int), .int .i64 (r : Int)] 49 (0, 0))) (hn : xs.length ≤ 1000) (hbase : base ≤ w.heap.size)
    (h : ∀ v' w', OwnFd w' base v' (xs ++ [(q, r)]) → w.grownBy w' v.ownBlock → wpListIn F n Tryd.prog ops Q rest (a.put o.dst v') w') : wpListIn F n Tryd.prog ops Q (o :: rest) a w := by
  obtain ⟨i0, hi, hz0, hz1, hz2⟩ := info_parts info_fd
  refine wpListIn_append_own w hgd s x 31 ho base 49 i0 (.agg #[.int .i64 0, .int .i64 0]) 2 16 Tryd.underlying31 hi hz0 hz1 hz2 rfl (by decide) v xs.length (fc xs) hs hown ⟨gb, 0, none⟩ 1 1 [.int .i64 (q : Int), .int .i64 (r : Int)] hx rfl (World.news_of_block hnew) (by simp [Value.oneCell']) (by unfold maxLen; omega) (by omega) hbase ?_
  intro v' w' h1 h2 _
  refine h v' w' ?_ h2
  unfold OwnFd
  rw [List.length_append, fc_snoc]
  exact h1
/-- signs under way. -/
structure Fn (w : World) (V : Value) (L : List UInt8) (m : Nat) (pre : List (Nat × Nat)) (va : Value) (A : World) : Prop where
  bm : Boxed A w.heap.size 3 (.int .i64 (m : Int))
  bo : Boxed A (w.heap.size + 1) 31 va
  own : OwnFd A w.heap.size va pre
  bs : Boxed A (w.heap.size + 2) 23 V
  bt : OwnB A (w.heap.size + 3) V L
  low : Below w.heap.size w A
  sz : w.heap.size + 3 ≤ A.heap.size
section
variable {w A B A1 : World} {V : Value} {L : List UInt8} {m : Nat} {pre : List (Nat × Nat)} {va v1 : Value}
theorem Fn.ne (h : Fn w V L m pre va A) {b : Nat} {t : TypeId} {u : Value} (hb : Boxed A b t u) (ht : 49 ≠ t) : some b ≠ va.ownBlock := fun e => apart_box h.own hb ht e.symm
theorem Fn.kc (h : Fn w V L m pre va A) (hk : KC 0 A B) (hl : Below w.heap.size A B) : Fn w V L m pre va B :=
  ⟨hk _ _ _ _ (Nat.zero_le _) h.bm, hk _ _ _ _ (Nat.zero_le _) h.bo, ownsRow_kc h.own (Nat.zero_le _) hk, hk _ _ _ _ (Nat.zero_le _) h.bs, ownsRow_kc h.bt (Nat.zero_le _) hk, h.low.trans hl, Nat.le_trans h.sz hl.size⟩
theorem Fn.below (h : Fn w V L m pre va A) (hb : Below A.heap.size A B) : Fn w V L m pre va B :=
  h.kc (fun k c t f _ ho => (hb.block k (Array.getElem?_eq_some_iff.1 ho).1).trans ho) (hb.mono (by have := h.sz; omega))
theorem Fn.put {l : Nat} {o o' : Obj} (h : Fn w V L m pre va A) (hl : w.heap.size ≤ l) (ho : A.heap[l]? = some o) (hc : o.isCells = false) : Fn w V L m pre va (A.putObj l o') :=
  h.kc (kc_putObj ho hc) (below_own (B := w.heap.size) (Nat.le_refl _) (by have := h.sz; omega) (grownBy_putObj' A l o') (fun r e => by cases e; exact ⟨hl, o, ho, hc⟩))
/-- One more sign. -/
theorem Fn.out {o : Obj} {x : Nat × Nat} (h : Fn w V L m pre va A) (hg : (A.alloc o).grownBy A1 va.ownBlock) (hv : OwnFd A1 w.heap.size v1 (pre ++ [x])) :
    Boxed A1 (w.heap.size + 1) 31 va ∧ Fn w V L m (pre ++ [x]) v1 (A1.setCell ⟨w.heap.size + 1, 0, none⟩ v1) ∧ KeepsFrom (w.heap.size + 3) A (A1.setCell ⟨w.heap.size + 1, 0, none⟩ v1) := by
  have g0 := World.grownBy_alloc A o none
  have g1 := grown_set A1 ⟨w.heap.size + 1, 0, none⟩ v1
  have bo1 := (h.bo.alloc o).kept hg (h.ne h.bo (by decide))
  have bm1 := (h.bm.alloc o).kept hg (h.ne h.bm (by decide))
  have bs1 := (h.bs.alloc o).kept hg (h.ne h.bs (by decide))
  have bt1 := (h.bt.below ((Below.refl A.heap.size A).alloc (Nat.le_refl _) o)).kept hg (apart_rows h.bt h.own (by decide))
  have hsz := h.sz
  have s0 := g0.size
  have s1 := hg.size
  have s2 := g1.size
  have lw : Below w.heap.size A A1 := ((Below.refl w.heap.size A).alloc (by omega) o).grown hg (by omega) (fun j e => (World.ownsRow.lt h.own j e).1)
  refine ⟨bo1, ⟨bm1.kept g1 (by simp), bo1.set v1, World.ownsRow.kept hv g1 (.inr (apart_box hv bo1 (by decide))), bs1.kept g1 (by simp), bt1.kept g1 (.inr (apart_box bt1 bo1 (by decide))), (h.low.trans lw).setCell (p := ⟨w.heap.size + 1, 0, none⟩) (by show w.heap.size ≤ w.heap.size + 1; omega) v1, by omega⟩, by omega, fun g ob hgl ho hc => ?_⟩
  have hk0 := (Array.getElem?_eq_some_iff.1 ho).1
  refine (g1.block g (by omega) (by simp; omega)).trans ((hg.block g (by omega) ?_).trans ((g0.block g hk0 (by simp)).trans ho))
  intro e
  rcases h.own.2 with ⟨h0, _⟩ | ⟨g', cap, cur, h0, _, hg', _⟩
  · rw [h0] at e; simp [Value.ownBlock] at e
  · rw [h0] at e
    have : g = g' := by simpa [Value.ownBlock] using e
    subst this
    rw [ho] at hg'; cases hg'; cases hc
end
theorem OwnFd.form {W : World} {base : Nat} {v : Value} {xs : List (Nat × Nat)} (h : OwnFd W base v xs) : ∃ A c, v = .slice A xs.length c := by
  obtain ⟨h1, ⟨h2, h3⟩ | ⟨g, cap, cur, h0, hb, hg, h3⟩⟩ := id h
  · have hx : xs = [] := by
      first
        | exact List.eq_nil_of_length_eq_zero h3
        | exact List.eq_nil_of_length_eq_zero (by rw [fc_len] at h1; omega)
    subst hx
    exact ⟨none, 0, h2⟩
  · exact ⟨_, cap, h0⟩
set_option maxRecDepth 100000 in
set_option maxHeartbeats 2000000 in
theorem finds_any (B0 : Nat) (v0 : Value) (s : List UInt8) (m : Nat) (w : World) (hv0 : Sl w B0 v0 s) (hB0 : B0 ≤ w.heap.size) (hs : s.length ≤ 1000) (hm : 1 ≤ m) (hm2 : m ≤ 1000) :
    Calls Tryd.prog 13 #[v0, .int .i64 (m : Int)] w fun e w' => ∃ v', e = .returned v' ∧ OwnFd w' w.heap.size v' ((fins s 0).take m) ∧ Below w.heap.size w w' := by
  obtain ⟨R, hR⟩ : ∃ R, R = fins s 0 := ⟨_, rfl⟩
  rw [← hR]
  have hlen : R.length ≤ s.length := by rw [hR]; exact fins_len s
  have hbelow : Below w.heap.size w ((w.alloc (.cells #[.int .i64 (m : Int)] 3)).alloc (.cells #[.slice none 0 0] 31)) := ((Below.refl _ w).alloc (Nat.le_refl _) _).alloc (by simp) _
  have HH := Lib.hid (handles_any B0 v0 s ((w.alloc (.cells #[.int .i64 (m : Int)] 3)).alloc (.cells #[.slice none 0 0] 31)) (hv0.below hbelow hB0) (by have := hbelow.size; omega) (by omega))
  have HBL := Lib.hid hbelow; clear hbelow
  obtain ⟨A0, c0, rfl, _, _, _, _⟩ := hv0
  refine (callsIn_wide (n := 10)).1 ?_
  refine callsIn_of_wp_marks Tryd.func13 rfl trivial ?_ rfl
  simp only [Tryd.ntmps13, List.size_toArray, List.length_cons, List.length_nil, Nat.reduceAdd, Nat.reduceSub, Array.replicate_succ, Array.replicate_zero, List.push_toArray, List.append_toArray, List.nil_append, List.cons_append]
  gi_wp2
  refine ⟨trivial, (callsIn_wide.2 HH.out).mono ?_⟩
  rintro e W3 ⟨rfl, ⟨V, hbx, hOV⟩, hB3, hz3⟩
  simp only [World.size_alloc, Nat.add_assoc, Nat.reduceAdd] at hbx hOV hB3 hz3 ⊢
  obtain ⟨Ad, c, rfl, _, hk1, _, _⟩ := id hOV.sl
  have hP : Fn w (.slice Ad s.length c) s m [] (.slice none 0 0) W3 := by
    have q1 := Boxed.new w 3 (.int .i64 (m : Int))
    have q2 := Boxed.new (w.alloc (.cells #[.int .i64 (m : Int)] 3)) 31 (.slice none 0 0)
    simp only [World.size_alloc] at q1 q2
    have g := grownBy_of_below2 hB3 (by simp)
    exact ⟨(q1.alloc _).kept g (by simp), q2.kept g (by simp), World.ownsRow_nil _ _ _ 2, hbx, hOV, HBL.out.trans (hB3.mono (by simp)), hz3⟩
  clear HH hbx hOV
  have HP := Lib.hid hP; clear hP
  have hseq := handles1_g (10 - 1) (by omega) (w.heap.size + 2) Ad c s hs hk1 W3
  unfold HhY at hseq
  rw [← hR] at hseq
  have HSQ := Lib.hid hseq; clear hseq hR
  gi_wp2
  refine wpIn_rangeFunc_g rfl (by omega) (gf := hF) (lb := #[.pointer (some ⟨w.heap.size + 2, 0, none⟩)]) rfl trivial (fun _ _ => rfl) (encs := fun x : Nat × Nat => #[.int .i64 (x.1 : Int), .int .i64 (x.2 : Int)]) StH (fun _ _ => True) (fun _ pre x _ => pre ++ [x] <+: R) (fun ys => ys = R)
    (HhIn (w.heap.size + 2) (.slice Ad s.length c) s)
    (fun pre A => (∃ va, Fn w (.slice Ad s.length c) s m pre va A) ∧ pre.length < m)
    (fun c1 pre A => c1 = .exit 0 ∧ (∃ va, Fn w (.slice Ad s.length c) s m pre va A) ∧ pre.length = m ∧ pre <+: R)
    HSQ.out (fun pre A h => by obtain ⟨⟨va, h⟩, _⟩ := h; exact ⟨h.bs, h.bt.sl⟩) (fun _ => rfl)
    (fun _ _ _ _ h _ hk => h.block _ hk) (fun _ _ _ h => h.size) (fun _ _ _ _ _ => trivial) (fun _ _ _ _ _ _ _ => trivial)
    (fun pre A B h hst => by obtain ⟨⟨va, h⟩, hn⟩ := h; exact ⟨⟨va, h.below hst⟩, hn⟩)
    (fun c pre A B h hst => by obtain ⟨e, ⟨va, h⟩, hn⟩ := h; exact ⟨e, ⟨va, h.below hst⟩, hn⟩)
    (fun pre A l o o' h hl ho hc => by obtain ⟨⟨va, h⟩, hn⟩ := h; exact ⟨⟨va, h.put (by omega) ho hc⟩, hn⟩)
    (fun c pre A l o o' h hl ho hc => by obtain ⟨e, ⟨va, h⟩, hn⟩ := h; exact ⟨e, ⟨va, h.put (by omega) ho hc⟩, hn⟩)
    (fun _ _ _ _ _ _ _ h _ _ _ => h)
    (fun W' hb hs => ⟨⟨_, HP.out.below hb⟩, by simp; omega⟩)
    (fun x a' => a' = { tmps := #[.slice A0 s.length c0, .int .i64 (m : Int), undef, .pointer (some ⟨w.heap.size, 0, none⟩), .slice none 0 0, .pointer (some ⟨w.heap.size + 1, 0, none⟩), .int .i64 (x.1 : Int), .int .i64 (x.2 : Int), .slice A0 s.length c0,
        .func (.func hF) #[] #[.pointer (some ⟨w.heap.size + 2, 0, none⟩)], .int .i64 (x.1 : Int), .int .i64 (x.2 : Int), undef, undef, undef, undef, undef, undef, undef, undef, undef, undef, undef], defers := [] })
    ?assign ?body ?done ?stop
  case assign =>
    rintro k x A K hK
    have HK := Lib.hid hK; clear hK
    gi_wp2
    exact HK.out _ rfl
  case done =>
    rintro D xs A hD hz rfl ⟨⟨va, hJ⟩, hn⟩ hK
    have c4 := hJ.bo.cell
    have hJ2 := hJ.put (o' := .deferred none) (l := D) (by omega) hK rfl
    have htk : xs.take m = xs := List.take_of_length_le (by omega)
    have HTK := Lib.hid htk; clear htk
    have HJ2 := Lib.hid hJ2; clear hJ2
    gi_wp2
    show LeavesInM _ _ _ _ _ _ _ _ _
    refine ⟨by simp, .inl ⟨_, _, rfl, run_takeDeferred hK, ?_⟩⟩
    exact ⟨_, results_tmp rfl _ _ _, _, rfl, by rw [HTK.out]; exact HJ2.out.own, HJ2.out.low⟩
  case stop =>
    rintro D c pre A hD hz ⟨rfl, ⟨va, hJ⟩, hn, hpre⟩ hK
    have c4 := hJ.bo.cell
    have hJ2 := hJ.put (o' := .deferred none) (l := D) (by omega) hK rfl
    have htk : R.take m = pre := by rw [← hn]; exact (List.prefix_iff_eq_take.1 hpre).symm
    have HTK := Lib.hid htk; clear htk
    have HJ2 := Lib.hid hJ2; clear hJ2
    gi_wp2
    show LeavesInM _ _ _ _ _ _ _ _ _
    refine ⟨by simp, .inl ⟨_, _, rfl, run_takeDeferred hK, ?_⟩⟩
    exact ⟨_, results_tmp rfl _ _ _, _, rfl, by rw [HTK.out]; exact HJ2.out.own, HJ2.out.low⟩
  case body =>
    rintro k bb pre ⟨at0, r⟩ a' A hbb hbz ⟨⟨va, hJ⟩, hn⟩ hpre rfl
    have hpl : (pre ++ [(at0, r)]).length ≤ R.length := hpre.length_le
    rw [List.length_append, List.length_singleton] at hpl
    have hz4 := hJ.sz
    have c4 := hJ.bo.cell
    have HJ := Lib.hid hJ
    have HPRE := Lib.hid hpre
    have hplen : pre.length ≤ 1000 := by omega
    have HOW := Lib.hid (hJ.own.below ((Below.refl A.heap.size A).alloc (Nat.le_refl _) (.cells #[.int .i64 (at0 : Int), .int .i64 (r : Int)] 49)))
    have HNW := Lib.hid (heap_alloc_new A (.cells #[.int .i64 (at0 : Int), .int .i64 (r : Int)] 49))
    have hzA : w.heap.size ≤ (A.alloc (.cells #[.int .i64 (at0 : Int), .int .i64 (r : Int)] 49)).heap.size := by simp; omega
    have hKl : (pre ++ [(at0, r)]).length = pre.length + 1 := by rw [List.length_append]; rfl
    obtain ⟨N, hN⟩ : ∃ N, N = (pre ++ [(at0, r)]).length := ⟨_, rfl⟩
    have HN := Lib.hid hN
    clear hJ hpre hpl
    by_cases hNm : N = m
    · clear hKl hN
      subst hNm
      gi_wp2_with (gi_at_builtin; (refine wpListIn_appFd rfl (.tmp 12) (.tmp 16) rfl w.heap.size va pre rfl HOW.out A.heap.size at0 r rfl HNW.out hplen hzA ?_); intro v5 A1 hO5 hg5; obtain ⟨A5, c5, e5⟩ := hO5.form; rw [← HN.out] at e5; subst e5; obtain ⟨hb5, hP5, hF5⟩ := HJ.out.out (x := (at0, r)) hg5 hO5; have n3 := hb5.cell; have n3' := hb5.frozen; have n4 := hP5.bm.cell; have n5 := hP5.bo.cell; have HP5 := Lib.hid hP5; have HF5 := Lib.hid hF5; clear hO5 hg5 hb5 hP5 hF5)
      gi_wp2
      exact ⟨⟨HF5.out.1, fun g o hg => HF5.out.2 g o (by omega)⟩, rfl, ⟨_, HP5.out⟩, HN.out.symm, HPRE.out⟩
    · have hbe : ((N : Int) == (m : Int)) = false := by rw [beq_eq_false_iff_ne]; omega
      clear hKl hN
      gi_wp2_with (gi_at_builtin; (refine wpListIn_appFd rfl (.tmp 12) (.tmp 16) rfl w.heap.size va pre rfl HOW.out A.heap.size at0 r rfl HNW.out hplen hzA ?_); intro v5 A1 hO5 hg5; obtain ⟨A5, c5, e5⟩ := hO5.form; rw [← HN.out] at e5; subst e5; obtain ⟨hb5, hP5, hF5⟩ := HJ.out.out (x := (at0, r)) hg5 hO5; have n3 := hb5.cell; have n3' := hb5.frozen; have n4 := hP5.bm.cell; have n5 := hP5.bo.cell; have HP5 := Lib.hid hP5; have HF5 := Lib.hid hF5; clear hO5 hg5 hb5 hP5 hF5)
      gi_wp2
      exact ⟨⟨HF5.out.1, fun g o hg => HF5.out.2 g o (by omega)⟩, trivial, ⟨_, HP5.out⟩, by have := HN.out; rw [List.length_append, List.length_singleton] at this ⊢; omega⟩
end Go.Proofs.YtpfbpiegejbhkaaDoor
set_option maxRecDepth 100000
namespace Go.Proofs.YtpfbpiegejbhkaaDoor
open Go.RowKit Go.Shelf
attribute [local semireducible] fc
/-- Finds that lie in memory. -/
def FdIn (W : World) (v : Value) (xs : List (Nat × Nat)) : Prop :=
  ∃ A c, v = .slice A xs.length c ∧ ∀ k (hk : k < xs.length), ∃ g, A = some ⟨g, 0, none⟩ ∧ W.cell? ⟨g, 0 + k * 2, none⟩ = some (.int .i64 ((xs[k]'hk).1 : Int)) ∧ W.cell? ⟨g, 0 + k * 2 + 1, none⟩ = some (.int .i64 ((xs[k]'hk).2 : Int))
theorem fc_at : ∀ (xs : List (Nat × Nat)) (k : Nat) (hk : k < xs.length), (fc xs)[k * 2]? = some (.int .i64 ((xs[k]'hk).1 : Int)) ∧ (fc xs)[k * 2 + 1]? = some (.int .i64 ((xs[k]'hk).2 : Int))
  | [], k, hk => by simp at hk
  | x :: t, 0, hk => ⟨rfl, rfl⟩
  | x :: t, k + 1, hk => by
    have ih := fc_at t k (by simpa using hk)
    have e : fc (x :: t) = .int .i64 (x.1 : Int) :: .int .i64 (x.2 : Int) :: fc t := rfl
    rw [e, show (k + 1) * 2 = k * 2 + 1 + 1 by omega, List.getElem?_cons_succ, List.getElem?_cons_succ, List.getElem?_cons_succ, List.getElem?_cons_succ]
    exact ih
theorem OwnFd.fdIn {W : World} {base : Nat} {v : Value} {xs : List (Nat × Nat)} (h : OwnFd W base v xs) : FdIn W v xs := by
  obtain ⟨h1, ⟨h2, h3⟩ | ⟨g, cap, cur, h0, hb, hg, h3⟩⟩ := id h
  · have hx : xs = [] := by
      first
        | exact List.eq_nil_of_length_eq_zero h3
        | exact List.eq_nil_of_length_eq_zero (by rw [fc_len] at h1; omega)
    subst hx
    exact ⟨none, 0, h2, fun k hk => by simp at hk⟩
  · refine ⟨_, cap, h0, fun k hk => ⟨g, rfl, ?_, ?_⟩⟩
    · have := World.ownsRow.cells h (g := g) (by rw [h0]; rfl) (k * 2) _ (fc_at xs k hk).1
      rwa [Addr.add_lit] at this
    · have := World.ownsRow.cells h (g := g) (by rw [h0]; rfl) (k * 2 + 1) _ (fc_at xs k hk).2
      rwa [Addr.add_lit] at this
theorem FdIn.below {W W' : World} {v : Value} {xs : List (Nat × Nat)} (h : FdIn W v xs) (hb : Below W.heap.size W W') : FdIn W' v xs := by
  obtain ⟨A, c, e, h⟩ := h
  refine ⟨A, c, e, fun k hk => ?_⟩
  obtain ⟨g, hg, h1, h2⟩ := h k hk
  exact ⟨g, hg, (hb.cell (p := ⟨g, 0 + k * 2, none⟩) (World.block_lt_of_cell? W _ h1)).trans h1, (hb.cell (p := ⟨g, 0 + k * 2 + 1, none⟩) (World.block_lt_of_cell? W _ h2)).trans h2⟩
set_option maxRecDepth 100000 in
set_option maxHeartbeats 1000000 in
theorem sameFd_any (v u : Value) (xs : List (Nat × Nat)) (w : World) (hv : FdIn w v xs) (hu : FdIn w u xs) (hl : xs.length ≤ 1000) :
    Calls Tryd.prog 12 #[v, u] w fun e w' => e = .returned (.bool true) ∧ Below w.heap.size w w' := by
  have HV := Lib.hid hv
  have HU := Lib.hid hu
  obtain ⟨A, c, rfl, _⟩ := hv
  obtain ⟨A2, c2, rfl, _⟩ := hu
  go_enter Tryd.func12, Tryd.ntmps12
  go_wp2_with fail
  go_loopw [13] (fun i wr => ∃ k : Nat, k ≤ xs.length ∧ i = .int .i64 (k : Int) ∧ Below w.heap.size w wr) (fun i _ => xs.length - (intOf i).toNat)
  case atStart => exact ⟨0, by omega, rfl, Below.refl _ _⟩
  case round =>
    obtain ⟨k, hk, rfl, hb⟩ := hrel
    by_cases hlt : k < xs.length
    · obtain ⟨A', c', he, hin⟩ := HV.out.below hb
      injection he with he1 he2 he3
      subst he1 he3
      obtain ⟨g, rfl, c0, c1⟩ := hin k hlt
      obtain ⟨A', c', he, hin'⟩ := HU.out.below hb
      injection he with he1 he2' he3
      subst he1 he3
      obtain ⟨g2, rfl, d0, d1⟩ := hin' k hlt
      rw [Nat.zero_add] at c0 c1 d0 d1
      clear hin hin' he2 he2'
      obtain ⟨x, hx⟩ : ∃ x, x = xs[k] := ⟨_, rfl⟩
      rw [← hx] at c0 c1 d0 d1
      clear hx
      obtain ⟨q, r⟩ := x
      simp only at c0 c1 d0 d1
      have HB := Lib.hid hb
      go_wp2_with fail
      go_quiet (fail)
      go_wp2_with fail
      go_roundw
      case rel => exact ⟨k + 1, by omega, by go_num, below_drewN HB.out _⟩
      case measure => simp [intOf]; omega
    · obtain rfl : k = xs.length := by omega
      have HB := Lib.hid hb
      go_wp2_with fail
      go_ret
      exact ⟨rfl, HB.out⟩
theorem OwnFd.drew {W : World} {base : Nat} {v : Value} {xs : List (Nat × Nat)} (h : OwnFd W base v xs) : OwnFd W.drew base v xs := h.below (Below.refl _ _).drew
theorem FdIn.take {W : World} {A : Option Addr} {c n m : Nat} {xs : List (Nat × Nat)} (h : FdIn W (.slice A n c) xs) (hn : n = xs.length) (hm : m ≤ xs.length) : FdIn W (.slice A m c) (xs.take m) := by
  subst hn
  obtain ⟨A', c', e, h⟩ := h
  injection e with e1 e2 e3
  subst e1 e3
  have hl : (xs.take m).length = m := by rw [List.length_take]; omega
  refine ⟨A, c, by rw [hl], fun k hk => ?_⟩
  obtain ⟨g, hg, h1, h2⟩ := h k (by omega)
  rw [List.getElem_take]
  exact ⟨g, hg, h1, h2⟩
theorem slice_hF (A : Option Addr) (n c k : Nat) (hk : k ≤ c) (w : World) : (Instr.slice 31 (.slice A n c) none (some (.int .i64 (k : Int))) none).run Tryd.prog w = .ok (.slice A k c) w := by
  rw [run_slice_h w 31 A n c Tryd.underlying31 .i64 k (by omega) (by omega)]
  by_cases h0 : c = 0 <;> simp [sliced, go_sem, h0]
theorem OwnFd.cap {W : World} {base : Nat} {v : Value} {xs : List (Nat × Nat)} (h : OwnFd W base v xs) : ∃ A c, v = .slice A xs.length c ∧ xs.length ≤ c := by
  obtain ⟨h1, ⟨h2, h3⟩ | ⟨g, cap, cur, h0, hb, hg, h3⟩⟩ := id h
  · have hx : xs = [] := by
      first
        | exact List.eq_nil_of_length_eq_zero h3
        | exact List.eq_nil_of_length_eq_zero (by rw [fc_len] at h1; omega)
    subst hx
    exact ⟨none, 0, h2, by simp⟩
  · exact ⟨_, cap, h0, h3.1⟩
end Go.Proofs.YtpfbpiegejbhkaaDoor
