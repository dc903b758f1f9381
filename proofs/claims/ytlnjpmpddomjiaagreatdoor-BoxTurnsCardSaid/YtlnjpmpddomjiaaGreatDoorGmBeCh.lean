/- slices.Chunk of bytes by four; an entry's numbers. -/
import Derived.Test.YtlnjpmpddomjiaaGreatDoorGmBeJn
import Derived.Test.YtlnjpmpddomjiaaGreatDoorGmKc
set_option maxRecDepth 100000
namespace Go.Proofs.YtlnjpmpddomjiaaGreatDoor
open Go.RowKit Go.Shelf
attribute [local go_sem] Oper.semAt_some
abbrev gCh : Nat := 103
theorem chunk_any (A : Option Addr) (n c : Nat) (w : World) : Calls Tryz.prog 83 #[.slice A n c, .int .i64 4] w fun e w' => e = .returned (.func (.func gCh) #[] #[.pointer (some ⟨w.heap.size, 0, none⟩), .pointer (some ⟨w.heap.size + 1, 0, none⟩)]) ∧ w' = (w.alloc (.cells #[.slice A n c] 34)).alloc (.cells #[.int .i64 4] 3) := by
  go_enter Tryz.func83, Tryz.ntmps83
  go_wp2_with fail
  go_ret
  exact ⟨rfl, rfl⟩
/-- Between its rounds the iterator only makes new memory. -/
def StC (_ : Nat) (A B : World) : Prop := Below A.heap.size A B
/-- What the iterator reads. -/
def ChIn (b g n c : Nat) (A : World) : Prop := Boxed A b 34 (.slice (some ⟨g, 0, none⟩) (4 * n) c) ∧ Boxed A (b + 1) 3 (.int .i64 4)
def ChY (n : Nat) (_ : Nat) (pre : List Nat) (x : Nat) (_ : World) : Prop := pre ++ [x] <+: List.range n
set_option maxHeartbeats 2000000 in
theorem chunk1_g (d : Nat) (hd : 1 ≤ d) (b g n c : Nat) (hn : n ≤ 5000) (hc : 4 * n ≤ c) (w : World) :
    SeqG Fence.wide d Tryz.prog gCh #[.pointer (some ⟨b, 0, none⟩), .pointer (some ⟨b + 1, 0, none⟩)] (fun k : Nat => #[.slice (some ⟨g, 4 * k, none⟩) 4 4]) StC (fun _ _ => True) (ChY n) (fun ys => ys = List.range n)
      (ChIn b g n c) w := by
  intro l J Jx W hW hIn hJ hJx hY h0
  have HIn := Lib.hid hIn; clear hIn
  have hG := HIn.out _ _ h0
  clear hJx
  have HY := Lib.hid hY; clear hY
  have hc0 := hG.1.cell
  have hc1 := hG.2.cell
  have H0 := Lib.hid h0
  clear hG h0
  refine callsIn_of_wp Tryz.func103 rfl trivial ?_ rfl
  simp only [Tryz.ntmps103, List.size_toArray, List.length_cons, List.length_nil, Nat.reduceAdd, Nat.reduceSub, Array.replicate_succ, Array.replicate_zero, List.push_toArray, List.append_toArray, List.nil_append, List.cons_append]
  gi_wp2
  clear hc0 hc1
  gi_loopw [4, 5] (fun i _ wr => ∃ (k : Nat) (pre : List Nat), k ≤ n ∧ i = .int .i64 ((4 * k : Nat) : Int) ∧ pre = List.range k ∧ J pre wr ∧ W.heap.size ≤ wr.heap.size)
    (fun i _ _ => 4 * n - (intOf i).toNat)
  case atStart => exact ⟨0, [], by omega, rfl, rfl, H0.out, Nat.le_refl _⟩
  case round =>
    obtain ⟨k, pre, hk, rfl, hpre, hJs, hzr⟩ := hrel
    have hG := HIn.out _ _ hJs
    have hc0 := hG.1.cell
    have hc1 := hG.2.cell
    clear hG
    by_cases hlt : k < n
    · have hi : ((4 * k : Nat) : Int) < ((4 * n : Nat) : Int) := by omega
      have hpx : pre ++ [k] <+: List.range n := by
        rw [hpre, ← List.range_succ]
        obtain ⟨r, hr⟩ : ∃ r, n = (k + 1) + r := ⟨n - (k + 1), by omega⟩
        rw [hr, List.range_add]
        exact List.prefix_append _ _
      have HPX := Lib.hid hpx; clear hpx
      have hmn : min (4 : Int) (((4 * n - 4 * k : Nat)) : Int) = 4 := by omega
      have htn : ((4 : Int) * (k : Int) + 4).toNat - 4 * k = 4 := by omega
      have hJ3 : J pre wr.drew := hJ pre wr _ hJs ((Below.refl _ _).drew)
      obtain ⟨fn, tmps, assign, body, hy, hR⟩ := HY.out pre k _ hJ3 (by simpa using hzr) HPX.out
      have HMN := Lib.hid hmn
      clear hJ3 hJs hmn
      gi_wp2
      gi_region
      rw [HMN.out]
      gi_wp2
      refine hR.mono ?_
      rintro e W3 (⟨rfl, hJ4, hz4, _, _⟩ | ⟨rfl, hJx4, _, _⟩)
      · simp at hz4
        have hc1' := (HIn.out _ _ hJ4).2.cell
        gi_wp2
        go_roundw
        case rel => exact ⟨k + 1, _, by omega, by go_num, by rw [hpre, List.range_succ], hJ4, by omega⟩
        case measure => simp [intOf]; omega
      · gi_wp2
        refine bodyPost_ret (results_none rfl _ _ _) rfl ?_
        exact ⟨⟨_, rfl⟩, .inr ⟨_, hJx4⟩⟩
    · have hi : ¬ ((4 * k : Nat) : Int) < ((4 * n : Nat) : Int) := by omega
      have hkn : k = n := by omega
      subst hkn
      have HPRE := Lib.hid hpre; clear hpre
      gi_wp2
      go_end0
      first | exact ⟨⟨_, rfl⟩, .inl ⟨_, HPRE.out, hJs⟩⟩ | exact ⟨⟨_, rfl⟩, .inl (by rw [← HPRE.out]; exact hJs)⟩
end Go.Proofs.YtlnjpmpddomjiaaGreatDoor
