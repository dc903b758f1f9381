/- name.Runes: the iterator over a text's signs. -/
import Derived.Test.YtnfkkopegbeacaaDoorStrT
import Derived.Test.YtnfkkopegbeacaaDoorShelf
import Derived.RangeFuncNested
import Derived.RangeFuncBound
import Derived.RangeFuncCalls
import Derived.RangeFuncLeaves
import Derived.RangeFuncBox
import Derived.Shelf.Abstract
import Derived.Shelf.RegionOpen
import Derived.WalkKit
import Derived.OwnWalkIn
import Derived.TacticsInMore
import Derived.LoopNIn
import Derived.LoopIn
import Derived.Lib.MapLaws
import Derived.Lib.RuneCount
namespace Go.Proofs.YtnfkkopegbeacaaDoor
open Go.RowKit Go.Shelf
attribute [local go_sem] Oper.semAt_some
abbrev rF : Nat := 55
/-- The first sign of l and how many bytes it has; -1 where none is written there. -/
def dec1 (l : List UInt8) : Nat × Nat := Lib.decodeGo ⟨l.toArray⟩
def sg1 (d : Nat × Nat) : Int := if d.1 = 65533 ∧ d.2 = 1 then -1 else (d.1 : Int)
/-- The signs of l, each with its place, from place p on; f: at most so many. -/
def runesF : Nat → Nat → List UInt8 → List (Nat × Int)
  | 0, _, _ => []
  | f + 1, p, l => if l.length = 0 then [] else (p, sg1 (dec1 l)) :: runesF f (p + (dec1 l).2) (l.drop (dec1 l).2)
theorem dec1_pos (l : List UInt8) (h : 0 < l.length) : 1 ≤ (dec1 l).2 ∧ (dec1 l).2 ≤ l.length := by
  have hs : (ByteArray.mk l.toArray).size = l.length := by simp [ByteArray.size]
  have e : dec1 l = Utf8.decode ⟨l.toArray⟩ 0 := by unfold dec1 Lib.decodeGo; rw [if_neg (by omega)]
  rw [e]
  refine ⟨Lib.decode_width_pos _ 0 (by omega), ?_⟩
  have := Lib.decodeL_le l (by intro e; rw [e] at h; simp at h)
  exact this
/-- The box of the text and the two tables of the library lie as they lay. -/
def KpR (Bs : Nat) (L : List UInt8) (A B : World) : Prop := Boxed A Bs 9 (str L) ∧ Lib.Utf8Tabs 0 1 A → Boxed B Bs 9 (str L) ∧ Lib.Utf8Tabs 0 1 B
set_option maxRecDepth 100000 in
set_option maxHeartbeats 2000000 in
theorem runes1_in (F : Fence) (d : Nat) (h7 : F.fn rF) (hro : F.round = none) (hd : 1 ≤ d) (hdec : F.fn 56) (l Bs : Nat) (L : List UInt8) (hL : L.length ≤ 1000) (J Jx : List (Nat × Int) → World → Prop)
    (hcd : ∀ (x : List UInt8) (w : World), Lib.Utf8Tabs 0 1 w → CallsIn F (d - 1) Tryd.prog 56 #[str x] w fun e w' => e = .returned (.tuple #[.int .i32 (dec1 x).1, .int .i64 (dec1 x).2]) ∧ Below w.heap.size w w')
    (hY : ∀ pre x W, J pre W → pre.length < L.length → YieldAt F (d - 1) Tryd.prog l #[.int .i64 (x.1 : Int), .int .i32 x.2] W fun e W' =>
      (e = .returned (.bool true) ∧ J (pre ++ [x]) W' ∧ KpR Bs L W W') ∨ (e = .returned (.bool false) ∧ Jx (pre ++ [x]) W'))
    (W : World) (hJ : AbidesFrom W.heap.size J) (hB : Boxed W Bs 9 (str L)) (hT : Lib.Utf8Tabs 0 1 W) (h0 : J [] W) :
    CallsIn F d Tryd.prog rF #[.func (.yield l) #[] #[], .pointer (some ⟨Bs, 0, none⟩)] W fun e W' => (∃ v, e = .returned v) ∧
      ((∃ ys, ys = runesF L.length 0 L ∧ J ys W') ∨ (∃ pre, pre <+: runesF L.length 0 L ∧ Jx pre W')) := by
  refine callsIn_of_wp Tryd.func55 rfl h7 ?_ hro
  simp only [Tryd.ntmps55, List.size_toArray, List.length_cons, List.length_nil, Nat.reduceAdd, Nat.reduceSub, Array.replicate_succ, Array.replicate_zero, List.push_toArray, List.append_toArray, List.nil_append, List.cons_append]
  gi_wp2
  gi_loopw [3] (fun i wr => ∃ (p f : Nat) (pre : List (Nat × Int)), p ≤ L.length ∧ L.length - p ≤ f ∧ pre.length + f ≤ L.length ∧ i = .int .i64 (p : Int) ∧ runesF L.length 0 L = pre ++ runesF f p (L.drop p) ∧ J pre wr ∧ Boxed wr Bs 9 (str L) ∧ Lib.Utf8Tabs 0 1 wr)
    (fun i _ => L.length - (intOf i).toNat)
  case atStart => exact ⟨0, L.length, [], by omega, by omega, by simp, rfl, by simp, h0, hB, hT⟩
  case round =>
    obtain ⟨p, f, pre, hp, hf, hpf, rfl, hr, hJs, hBs, hTs⟩ := hrel
    have hc := hBs.cell
    by_cases hlt : p < L.length
    · obtain ⟨x, hx⟩ : ∃ x, x = L.drop p := ⟨_, rfl⟩
      have hxl : x.length = L.length - p := by rw [hx, List.length_drop]
      have hdp := dec1_pos x (by omega)
      have hsd := str_drop L p hp
      rw [← hx] at hsd hr
      have hct := hcd x wr hTs
      gi_wp2
      rw [← hx]
      refine hct.mono ?_
      rintro e w2 ⟨rfl, hb⟩
      have hB2 : Boxed w2 Bs 9 (str L) := hBs.kept (grown_of_below hb none) (by simp)
      have hT2 : Lib.Utf8Tabs 0 1 w2 := Utf8Tabs_below hTs hb
      have hJ2 : J pre w2 := hJ pre wr w2 none hJs (grown_of_below hb none) (fun r e => by cases e)
      obtain ⟨n1, n2, hn⟩ : ∃ n1 n2, dec1 x = (n1, n2) := ⟨_, _, rfl⟩
      rw [hn] at hdp ⊢
      obtain ⟨f', rfl⟩ : ∃ f', f = f' + 1 := ⟨f - 1, by omega⟩
      have hr2 : runesF (f' + 1) p x = (p, sg1 (n1, n2)) :: runesF f' (p + n2) (x.drop n2) := by
        rw [runesF, if_neg (by omega), hn]
      have hxd : x.drop n2 = L.drop (p + n2) := by rw [hx, List.drop_drop]
      rw [hr2, hxd] at hr
      have hap : pre ++ (p, sg1 (n1, n2)) :: runesF f' (p + n2) (L.drop (p + n2)) = (pre ++ [(p, sg1 (n1, n2))]) ++ runesF f' (p + n2) (L.drop (p + n2)) := by simp
      rw [hap] at hr
      have hpre : pre ++ [(p, sg1 (n1, n2))] <+: runesF L.length 0 L := by
        rw [hr]
        exact List.prefix_append _ _
      have Hr := Lib.hid hr; clear hr
      clear hct hcd hsd hr2 hxd hx hT hB hTs hBs hc hJs hap
      by_cases hbad : n1 = 65533 ∧ n2 = 1
      · obtain ⟨rfl, rfl⟩ := hbad
        rw [show sg1 (65533, 1) = -1 from rfl] at Hr hpre
        obtain ⟨fn, tmps, assign, body, hy, hR⟩ := hY pre (p, -1) w2 hJ2 (by omega)
        have HY := Lib.hid hY; clear hY
        gi_wp2
        refine hR.mono ?_
        rintro e W3 (⟨rfl, hJ3, hk3⟩ | ⟨rfl, hJx3⟩)
        · obtain ⟨hB3, hT3⟩ := hk3 ⟨hB2, hT2⟩
          have hc3 := hB3.cell
          gi_wp2
          go_roundw
          case rel => exact ⟨p + 1, f', pre ++ [(p, -1)], by omega, by omega, by simp; omega, by go_num, Hr.out, hJ3, hB3, hT3⟩
          case measure => simp [intOf]; omega
        · gi_wp2
          refine bodyPost_ret (results_none rfl _ _ _) rfl ?_
          exact ⟨⟨_, rfl⟩, .inr ⟨_, hpre, hJx3⟩⟩
      · have hsg : sg1 (n1, n2) = (n1 : Int) := if_neg hbad
        rw [hsg] at Hr hpre
        obtain ⟨fn, tmps, assign, body, hy, hR⟩ := hY pre (p, (n1 : Int)) w2 hJ2 (by omega)
        have HY := Lib.hid hY; clear hY
        by_cases hn1 : n1 = 65533
        · have hn2 : (n2 : Int) ≠ 1 := fun e => hbad ⟨hn1, by omega⟩
          subst hn1
          have h655 : ((65533 : Nat) : Int) = 65533 := rfl
          rw [h655] at hy Hr hpre hR ⊢
          clear h655
          gi_wp2
          refine hR.mono ?_
          rintro e W3 (⟨rfl, hJ3, hk3⟩ | ⟨rfl, hJx3⟩)
          · obtain ⟨hB3, hT3⟩ := hk3 ⟨hB2, hT2⟩
            have hc3 := hB3.cell
            gi_wp2
            go_roundw
            case rel => exact ⟨p + n2, f', pre ++ [(p, 65533)], by omega, by omega, by simp; omega, by go_num, Hr.out, hJ3, hB3, hT3⟩
            case measure => simp [intOf]; omega
          · gi_wp2
            refine bodyPost_ret (results_none rfl _ _ _) rfl ?_
            exact ⟨⟨_, rfl⟩, .inr ⟨_, hpre, hJx3⟩⟩
        · have hn1' : (n1 : Int) ≠ 65533 := by omega
          gi_wp2
          refine hR.mono ?_
          rintro e W3 (⟨rfl, hJ3, hk3⟩ | ⟨rfl, hJx3⟩)
          · obtain ⟨hB3, hT3⟩ := hk3 ⟨hB2, hT2⟩
            have hc3 := hB3.cell
            gi_wp2
            go_roundw
            case rel => exact ⟨p + n2, f', pre ++ [(p, (n1 : Int))], by omega, by omega, by simp; omega, by go_num, Hr.out, hJ3, hB3, hT3⟩
            case measure => simp [intOf]; omega
          · gi_wp2
            refine bodyPost_ret (results_none rfl _ _ _) rfl ?_
            exact ⟨⟨_, rfl⟩, .inr ⟨_, hpre, hJx3⟩⟩
    · have hx0 : L.drop p = [] := List.drop_eq_nil_of_le (by omega)
      have he : runesF f p (L.drop p) = [] := by
        rw [hx0]; cases f <;> simp [runesF]
      rw [he, List.append_nil] at hr
      clear hcd hY
      gi_wp2
      go_end0
      exact ⟨⟨_, rfl⟩, .inl ⟨_, hr.symm, hJs⟩⟩
theorem dec_any (x : List UInt8) (w : World) (hT : Lib.Utf8Tabs 0 1 w) :
    Calls Tryd.prog 56 #[str x] w fun e w' => e = .returned (.tuple #[.int .i32 (dec1 x).1, .int .i64 (dec1 x).2]) ∧ Below w.heap.size w w' :=
  Tryd.utf8_DecodeRuneInString ⟨x.toArray⟩ w hT
/-- name.Runes(s): a box, and the closure over it. -/
theorem runes_any (L : List UInt8) (w : World) : Calls Tryd.prog 50 #[str L] w fun e w' => e = .returned (.func (.func rF) #[] #[.pointer (some ⟨w.heap.size, 0, none⟩)]) ∧ w' = w.alloc (.cells #[str L] 9) := by
  go_enter Tryd.func50, Tryd.ntmps50
  go_wp2_with fail
  go_ret
  exact ⟨rfl, rfl⟩
theorem runes_stops (d : Nat) (hd : 1 ≤ d) (Bs : Nat) (L : List UInt8) (hL : L.length ≤ 1000) (w : World) (hB : Boxed w Bs 9 (str L)) (hT : Lib.Utf8Tabs 0 1 w) :
    SeqStopsK Fence.wide d Tryd.prog rF #[.pointer (some ⟨Bs, 0, none⟩)] (fun x : Nat × Int => #[.int .i64 (x.1 : Int), .int .i32 x.2]) (KpR Bs L) (fun ys => ys = runesF L.length 0 L) (fun pre => pre <+: runesF L.length 0 L) L.length w := fun l J Jx W hW hJ _ hY h0 =>
  runes1_in Fence.wide d trivial rfl hd trivial l Bs L hL J Jx (fun x w hT => callsIn_wide.2 (dec_any x w hT)) hY W hJ (hB.kept (grown_of_below hW none) (by simp)) (Utf8Tabs_below hT hW) h0
end Go.Proofs.YtnfkkopegbeacaaDoor
