/- head.Lines: the iterator over the lines of bytes. -/
import Derived.Test.YtajclihnoedecaaGreatDoorHdReq
import Derived.Test.YtajclihnoedecaaGreatDoorRangeG
import Derived.Test.YtajclihnoedecaaGreatDoorKc
namespace Go.Proofs.YtajclihnoedecaaGreatDoor
open Go.RowKit Go.Shelf
attribute [local go_sem] Oper.semAt_some
abbrev lF : Nat := 58
def StL (_ : Nat) (A B : World) : Prop := Below A.heap.size A B
def LnY (L : List UInt8) (_ : Nat) (pre : List (List UInt8 × Bool)) (x : List UInt8 × Bool) (_ : World) : Prop := pre ++ [x] <+: linesL L
def strLen : Value → Nat
  | .string b => b.size
  | _ => 0
theorem strLen_str (l : List UInt8) : strLen (str l) = l.length := rfl
theorem hlines_any (v : Value) (l : List UInt8) (B : Nat) (w : World) (hv : Sl w B v l) : Calls Tryz.prog 42 #[v] w fun e w' => e = .returned (.func (.func lF) #[] #[.pointer (some ⟨w.heap.size, 0, none⟩)]) ∧ w' = w.alloc (.cells #[str l] 9) := by
  have hc := conv_sl hv
  obtain ⟨A, c, rfl, -⟩ := hv
  go_enter Tryz.func42, Tryz.ntmps42
  go_wp2_with fail
  go_ret
  exact ⟨rfl, rfl⟩
theorem cut_lt {l sep : List UInt8} (h : l ≠ []) (hs : sep ≠ []) : (Lib.cut l sep).2.1.length < l.length := by
  have h1 := List.length_pos_iff.2 h
  have h2 := List.length_pos_iff.2 hs
  unfold Lib.cut
  split
  · simp; omega
  · simpa using h1
set_option maxRecDepth 100000 in
set_option maxHeartbeats 2000000 in
theorem lines1_g (d : Nat) (hd : 1 ≤ d) (Bs : Nat) (L : List UInt8) (hL : L.length ≤ 5000) (w : World) :
    SeqG Fence.wide d Tryz.prog lF #[.pointer (some ⟨Bs, 0, none⟩)] (fun x : List UInt8 × Bool => #[str x.1, .bool x.2]) StL (fun _ _ => True) (LnY L) (fun ys => ys = linesL L)
      (fun A => Boxed A Bs 9 (str L) ∧ Env A) w := by
  intro l J Jx W hW hIn hJ hJx hY h0
  have HIn := Lib.hid hIn; clear hIn
  obtain ⟨hB, hT⟩ := HIn.out _ _ h0
  clear hJx
  have HY := Lib.hid hY; clear hY
  have hc := hB.cell
  have hLL : linesL L = [] ++ lnF L.length L := rfl
  have HLL := Lib.hid hLL; clear hLL
  refine callsIn_of_wp Tryz.func58 rfl trivial ?_ rfl
  simp only [Tryz.ntmps58, List.size_toArray, List.length_cons, List.length_nil, Nat.reduceAdd, Nat.reduceSub, Array.replicate_succ, Array.replicate_zero, List.push_toArray, List.append_toArray, List.nil_append, List.cons_append]
  gi_wp2
  gi_loopw [3] (fun i wr => ∃ (rest : List UInt8) (f : Nat) (pre : List (List UInt8 × Bool)), rest.length ≤ f ∧ rest.length ≤ 5000 ∧ i = str rest ∧ linesL L = pre ++ lnF f rest ∧ J pre wr ∧ W.heap.size ≤ wr.heap.size)
    (fun i _ => strLen i)
  case atStart => exact ⟨L, L.length, [], by omega, hL, rfl, HLL.out, h0, Nat.le_refl _⟩
  case round =>
    obtain ⟨rest, f, pre, hf, hr5, rfl, hr, hJs, hzr⟩ := hrel
    obtain ⟨-, hE⟩ := HIn.out _ _ hJs
    by_cases hne : rest = []
    · subst hne
      have he : lnF f [] = [] := by cases f <;> rfl
      rw [he, List.append_nil] at hr
      clear hc hB hT he
      gi_wp2
      go_end0
      exact ⟨⟨_, rfl⟩, .inl ⟨_, hr.symm, hJs⟩⟩
    · have hemp := ne_isEmpty hne
      have hlt := cut_lt (sep := [13, 10]) hne (by decide)
      have hct := (callsIn_wide (n := d - 1)).2 (cut_env rest [13, 10] wr hE (by omega))
      obtain ⟨f', rfl⟩ : ∃ f', f = f' + 1 := ⟨f - 1, by have := List.length_pos_iff.2 hne; omega⟩
      have hr2 : lnF (f' + 1) rest = ((Lib.cut rest [13, 10]).1, (Lib.cut rest [13, 10]).2.2) :: lnF f' (Lib.cut rest [13, 10]).2.1 := by rw [lnF, if_neg hne]
      rw [hr2] at hr
      obtain ⟨A, B, b, hcc⟩ : ∃ A B b, Lib.cut rest [13, 10] = (A, B, b) := ⟨_, _, _, rfl⟩
      rw [hcc] at hct hlt hr
      simp only at hlt hr
      have hap : pre ++ (A, b) :: lnF f' B = (pre ++ [(A, b)]) ++ lnF f' B := by simp
      rw [hap] at hr
      have hpre : pre ++ [(A, b)] <+: linesL L := by
        rw [hr]
        exact List.prefix_append _ _
      have Hr := Lib.hid hr
      have HCT := Lib.hid hct
      clear hr hct hr2 hap hcc hc hB hT hne
      gi_wp2
      refine ⟨trivial, HCT.out.mono ?_⟩
      rintro e w2 ⟨rfl, hb⟩
      have hJ2 : J pre w2 := hJ pre wr w2 hJs hb
      have hz2 := hb.size
      obtain ⟨fn, tmps, assign, body, hy, hR⟩ := HY.out pre (A, b) w2 hJ2 (by omega) hpre
      clear HCT
      gi_wp2
      refine hR.mono ?_
      rintro e W3 (⟨rfl, hJ3, hz3, _, _⟩ | ⟨rfl, hJx3, _, _⟩)
      · gi_wp2
        go_roundw
        case rel => exact ⟨B, f', pre ++ [(A, b)], by omega, by omega, rfl, Hr.out, hJ3, by omega⟩
        case measure => rw [strLen_str, strLen_str]; omega
      · gi_wp2
        refine bodyPost_ret (results_none rfl _ _ _) rfl ?_
        exact ⟨⟨_, rfl⟩, .inr ⟨_, hJx3⟩⟩
end Go.Proofs.YtajclihnoedecaaGreatDoor
