/- name.Runes: the iterator over a text's signs, in order, each in range. -/
import Derived.Test.YtnfkkopegbeacaaDoorRunes
import Derived.Test.YtnfkkopegbeacaaDoorRangeG
import Derived.Lib.QuoteLoop
namespace Go.Proofs.YtnfkkopegbeacaaDoor
open Go.RowKit Go.Shelf
attribute [local go_sem] Oper.semAt_some
/-- Done from block b on: nothing of what there was. -/
def StR (_ : Nat) (A B : World) : Prop := Below A.heap.size A B
/-- A sign where it stands in its text. -/
def RuY (L : List UInt8) (_ : Nat) (pre : List (Nat × Int)) (x : Nat × Int) (_ : World) : Prop := pre ++ [x] <+: runesF L.length 0 L ∧ -1 ≤ x.2 ∧ x.2 ≤ 1114111
theorem dec1_top (l : List UInt8) (h : 0 < l.length) : (dec1 l).1 ≤ 1114111 := by
  have hs : (ByteArray.mk l.toArray).size = l.length := by simp [ByteArray.size]
  have e : dec1 l = Utf8.decode ⟨l.toArray⟩ 0 := by unfold dec1 Lib.decodeGo; rw [if_neg (by omega)]
  have := Lib.rune_valid ⟨l.toArray⟩
  rw [← e] at this
  simp only [Lib.validRune, decide_eq_true_eq] at this
  omega
set_option maxRecDepth 100000 in
set_option maxHeartbeats 2000000 in
theorem runes1_g (d : Nat) (hd : 1 ≤ d) (Bs : Nat) (L : List UInt8) (hL : L.length ≤ 1000) (w : World) :
    SeqG Fence.wide d Tryd.prog rF #[.pointer (some ⟨Bs, 0, none⟩)] (fun x : Nat × Int => #[.int .i64 (x.1 : Int), .int .i32 x.2]) StR (fun _ _ => True) (RuY L) (fun ys => ys = runesF L.length 0 L)
      (fun A => Boxed A Bs 9 (str L) ∧ Lib.Utf8Tabs 0 1 A) w := by
  intro l J Jx W hW hIn hJ hJx hY h0
  have HIn := Lib.hid hIn; clear hIn
  obtain ⟨hB, hT⟩ := HIn.out _ _ h0
  clear hJx
  have HY := Lib.hid hY; clear hY
  refine callsIn_of_wp Tryd.func55 rfl trivial ?_ rfl
  simp only [Tryd.ntmps55, List.size_toArray, List.length_cons, List.length_nil, Nat.reduceAdd, Nat.reduceSub, Array.replicate_succ, Array.replicate_zero, List.push_toArray, List.append_toArray, List.nil_append, List.cons_append]
  gi_wp2
  gi_loopw [3] (fun i wr => ∃ (p f : Nat) (pre : List (Nat × Int)), p ≤ L.length ∧ L.length - p ≤ f ∧ pre.length + f ≤ L.length ∧ i = .int .i64 (p : Int) ∧ runesF L.length 0 L = pre ++ runesF f p (L.drop p) ∧ J pre wr ∧ W.heap.size ≤ wr.heap.size ∧ Boxed wr Bs 9 (str L) ∧ Lib.Utf8Tabs 0 1 wr)
    (fun i _ => L.length - (intOf i).toNat)
  case atStart => exact ⟨0, L.length, [], by omega, by omega, by simp, rfl, by simp, h0, Nat.le_refl _, hB, hT⟩
  case round =>
    obtain ⟨p, f, pre, hp, hf, hpf, rfl, hr, hJs, hzr, hBs, hTs⟩ := hrel
    have hc := hBs.cell
    by_cases hlt : p < L.length
    · obtain ⟨x, hx⟩ : ∃ x, x = L.drop p := ⟨_, rfl⟩
      have hxl : x.length = L.length - p := by rw [hx, List.length_drop]
      have hdp := dec1_pos x (by omega)
      have hsd := str_drop L p hp
      rw [← hx] at hsd hr
      have hct := (callsIn_wide (n := d - 1)).2 (dec_any x wr hTs)
      have htop := dec1_top x (by omega)
      gi_wp2
      rw [← hx]
      refine ⟨trivial, hct.mono ?_⟩
      rintro e w2 ⟨rfl, hb⟩
      have hB2 : Boxed w2 Bs 9 (str L) := hBs.kept (grown_of_below hb none) (by simp)
      have hT2 : Lib.Utf8Tabs 0 1 w2 := Utf8Tabs_below hTs hb
      have hJ2 : J pre w2 := hJ pre wr w2 hJs hb
      have hz2 := hb.size
      obtain ⟨n1, n2, hn⟩ : ∃ n1 n2, dec1 x = (n1, n2) := ⟨_, _, rfl⟩
      rw [hn] at hdp htop ⊢
      obtain ⟨f', rfl⟩ : ∃ f', f = f' + 1 := ⟨f - 1, by omega⟩
      have hr2 : runesF (f' + 1) p x = (p, sg1 (n1, n2)) :: runesF f' (p + n2) (x.drop n2) := by
        rw [runesF, if_neg (by omega), hn]
      have hxd : x.drop n2 = L.drop (p + n2) := by rw [hx, List.drop_drop]
      rw [hr2, hxd] at hr
      have hap : pre ++ (p, sg1 (n1, n2)) :: runesF f' (p + n2) (L.drop (p + n2)) = (pre ++ [(p, sg1 (n1, n2))]) ++ runesF f' (p + n2) (L.drop (p + n2)) := by simp
      rw [hap] at hr
      have hpre : pre ++ [(p, sg1 (n1, n2))] <+: runesF L.length 0 L := by
        rw [hr]
        exact List.prefix_append _ _
      have Hr := Lib.hid hr; clear hr
      clear hct hsd hr2 hxd hx hT hB hTs hBs hc hJs hap
      by_cases hbad : n1 = 65533 ∧ n2 = 1
      · obtain ⟨rfl, rfl⟩ := hbad
        rw [show sg1 (65533, 1) = -1 from rfl] at Hr hpre
        obtain ⟨fn, tmps, assign, body, hy, hR⟩ := HY.out pre (p, -1) w2 hJ2 (by omega) ⟨hpre, by show (-1 : Int) ≤ -1; omega, by show (-1 : Int) ≤ 1114111; omega⟩
        gi_wp2
        refine hR.mono ?_
        rintro e W3 (⟨rfl, hJ3, hz3, _, _⟩ | ⟨rfl, hJx3, _, _⟩)
        · obtain ⟨hB3, hT3⟩ := HIn.out _ _ hJ3
          have hc3 := hB3.cell
          gi_wp2
          go_roundw
          case rel => exact ⟨p + 1, f', pre ++ [(p, -1)], by omega, by omega, by simp; omega, by go_num, Hr.out, hJ3, by omega, hB3, hT3⟩
          case measure => simp [intOf]; omega
        · gi_wp2
          refine bodyPost_ret (results_none rfl _ _ _) rfl ?_
          exact ⟨⟨_, rfl⟩, .inr ⟨_, hJx3⟩⟩
      · have hsg : sg1 (n1, n2) = (n1 : Int) := if_neg hbad
        rw [hsg] at Hr hpre
        obtain ⟨fn, tmps, assign, body, hy, hR⟩ := HY.out pre (p, (n1 : Int)) w2 hJ2 (by omega) ⟨hpre, by show (-1 : Int) ≤ (n1 : Int); omega, by show (n1 : Int) ≤ 1114111; simp only at htop; omega⟩
        by_cases hn1 : n1 = 65533
        · have hn2 : (n2 : Int) ≠ 1 := fun e => hbad ⟨hn1, by omega⟩
          subst hn1
          have h655 : ((65533 : Nat) : Int) = 65533 := rfl
          rw [h655] at hy Hr hpre hR ⊢
          clear h655
          gi_wp2
          refine hR.mono ?_
          rintro e W3 (⟨rfl, hJ3, hz3, _, _⟩ | ⟨rfl, hJx3, _, _⟩)
          · obtain ⟨hB3, hT3⟩ := HIn.out _ _ hJ3
            have hc3 := hB3.cell
            gi_wp2
            go_roundw
            case rel => exact ⟨p + n2, f', pre ++ [(p, 65533)], by omega, by omega, by simp; omega, by go_num, Hr.out, hJ3, by omega, hB3, hT3⟩
            case measure => simp [intOf]; omega
          · gi_wp2
            refine bodyPost_ret (results_none rfl _ _ _) rfl ?_
            exact ⟨⟨_, rfl⟩, .inr ⟨_, hJx3⟩⟩
        · have hn1' : (n1 : Int) ≠ 65533 := by omega
          gi_wp2
          refine hR.mono ?_
          rintro e W3 (⟨rfl, hJ3, hz3, _, _⟩ | ⟨rfl, hJx3, _, _⟩)
          · obtain ⟨hB3, hT3⟩ := HIn.out _ _ hJ3
            have hc3 := hB3.cell
            gi_wp2
            go_roundw
            case rel => exact ⟨p + n2, f', pre ++ [(p, (n1 : Int))], by omega, by omega, by simp; omega, by go_num, Hr.out, hJ3, by omega, hB3, hT3⟩
            case measure => simp [intOf]; omega
          · gi_wp2
            refine bodyPost_ret (results_none rfl _ _ _) rfl ?_
            exact ⟨⟨_, rfl⟩, .inr ⟨_, hJx3⟩⟩
    · have hx0 : L.drop p = [] := List.drop_eq_nil_of_le (by omega)
      have he : runesF f p (L.drop p) = [] := by
        rw [hx0]; cases f <;> simp [runesF]
      rw [he, List.append_nil] at hr
      gi_wp2
      go_end0
      exact ⟨⟨_, rfl⟩, .inl ⟨_, hr.symm, hJs⟩⟩
end Go.Proofs.YtnfkkopegbeacaaDoor
