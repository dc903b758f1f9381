/- head.Get's iterator; slices.Collect over it. -/
import Derived.Test.YtgipbkopndghdaaDoorHdGet2
import Derived.Test.YtgipbkopndghdaaDoorRangeOw
set_option maxRecDepth 100000
namespace Go.Proofs.YtgipbkopndghdaaDoor
open Go.RowKit Go.Shelf
attribute [local go_sem] Oper.semAt_some
set_option maxHeartbeats 2000000 in
theorem get1_g (d : Nat) (hd : 1 ≤ d) (b : Nat) (v : Value) (xs : Prs) (n : List UInt8) (hl : xs.length ≤ 1000) (hn : n.length ≤ 1000) (hs : ∀ x ∈ xs, x.1.length ≤ 1000) (w : World) :
    SeqG Fence.wide d Tryd.prog gGet #[.pointer (some ⟨b, 0, none⟩), .pointer (some ⟨b + 1, 0, none⟩)] (fun x : List UInt8 => #[str x]) StL (fun _ _ => True) (GtY xs n) (fun ys => ys = getL xs n)
      (GetIn b v xs n) w := by
  intro l J Jx W hW hIn hJ hJx hY h0
  have HIn := Lib.hid hIn; clear hIn
  have hG := HIn.out _ _ h0
  clear hJx
  have HY := Lib.hid hY; clear hY
  have hc := hG.bx.cell
  obtain ⟨A, c, e0, hq⟩ := hG.pr.prIn
  subst e0
  clear hq hG
  refine callsIn_of_wp Tryd.func38 rfl trivial ?_ rfl
  simp only [Tryd.ntmps38, List.size_toArray, List.length_cons, List.length_nil, Nat.reduceAdd, Nat.reduceSub, Array.replicate_succ, Array.replicate_zero, List.push_toArray, List.append_toArray, List.nil_append, List.cons_append]
  gi_wp2
  clear hc
  gi_loopw [8] (fun i wr => ∃ (k : Nat) (pre : List (List UInt8)), k ≤ xs.length ∧ i = .int .i64 (k : Int) ∧ pre = getL (xs.take k) n ∧ J pre wr ∧ W.heap.size ≤ wr.heap.size)
    (fun i _ => xs.length - (intOf i).toNat)
  case atStart => exact ⟨0, [], by omega, rfl, rfl, h0, Nat.le_refl _⟩
  case round =>
    obtain ⟨k, pre, hk, rfl, hpre, hJs, hzr⟩ := hrel
    have hG := HIn.out _ _ hJs
    by_cases hlt : k < xs.length
    · obtain ⟨A', c', he, _, _, hin⟩ := hG.pr.prIn
      injection he with he1 he2 he3
      subst he1 he3
      obtain ⟨g, o, rfl, c0, c1⟩ := hin k hlt
      have cn := hG.bn.cell
      clear hin he2
      have hts : getL (xs.take (k + 1)) n = pre ++ (if foldB xs[k].1 n then [xs[k].2] else []) := by rw [take_snocG xs k hlt, getL_snoc, hpre]
      have hpx : foldB xs[k].1 n = true → pre ++ [xs[k].2] <+: getL xs n := fun h => by
        rw [h, if_pos rfl] at hts
        rw [← hts]
        have : xs = xs.take (k + 1) ++ xs.drop (k + 1) := (List.take_append_drop ..).symm
        conv => rhs; rw [this]
        unfold getL
        rw [List.filter_append, List.map_append]
        exact List.prefix_append _ _
      have hs1 := hs xs[k] (List.getElem_mem hlt)
      obtain ⟨x, hx⟩ : ∃ x, x = xs[k] := ⟨_, rfl⟩
      rw [← hx] at c0 c1 hts hs1 hpx
      clear hx
      obtain ⟨q, r⟩ := x
      simp only at c0 c1 hts hs1 hpx
      have hJa : J pre (wr.alloc (.cells #[str q, str r] 37)) := hJ pre wr _ hJs ((Below.refl _ _).alloc (Nat.le_refl _) _)
      have cn' := cell_below cn ((Below.refl wr.heap.size wr).alloc (Nat.le_refl _) (.cells #[str q, str r] 37))
      have HF := Lib.hid ((callsIn_wide (n := d - 1)).2 (fold_any q n (wr.alloc (.cells #[str q, str r] 37)) (by omega) (by omega)))
      have HTS := Lib.hid hts
      have HPX := Lib.hid hpx
      have HPRE := Lib.hid hpre
      clear hpre hts hpx cn hG
      cases hf : foldB q n with
      | false =>
        rw [hf] at HF HTS
        clear hf
        gi_wp2
        refine ⟨trivial, HF.out.mono ?_⟩
        rintro e w3 ⟨rfl, m, rfl⟩
        clear HF
        have hJ3 := hJ pre _ ((wr.alloc (.cells #[str q, str r] 37)).drewN m) hJa (belowN m)
        gi_wp2
        refine ⟨(fun f h => by cases h), ?_⟩
        gi_wp2
        go_roundw
        case rel => exact ⟨k + 1, pre, by omega, by go_num, by rw [HTS.out]; simp, hJ3, by simp; omega⟩
        case measure => simp [intOf]; omega
      | true =>
        rw [hf] at HF HTS
        have HP2 := Lib.hid (HPX.out hf)
        clear hf
        gi_wp2
        refine ⟨trivial, HF.out.mono ?_⟩
        rintro e w3 ⟨rfl, m, rfl⟩
        clear HF
        have hJ3 := hJ pre _ ((wr.alloc (.cells #[str q, str r] 37)).drewN m) hJa (belowN m)
        obtain ⟨fn, tmps, assign, body, hy, hR⟩ := HY.out pre r _ hJ3 (by simp; omega) HP2.out
        gi_wp2
        refine hR.mono ?_
        rintro e W3 (⟨rfl, hJ4, hz4, _, _⟩ | ⟨rfl, hJx4, _, _⟩)
        · simp at hz4
          gi_wp2
          go_roundw
          case rel => exact ⟨k + 1, pre ++ [r], by omega, by go_num, by rw [HTS.out]; simp, hJ4, by omega⟩
          case measure => simp [intOf]; omega
        · gi_wp2
          refine bodyPost_ret (results_none rfl _ _ _) rfl ?_
          exact ⟨⟨_, rfl⟩, .inr ⟨_, hJx4⟩⟩
    · have htk : xs.take k = xs := List.take_of_length_le (by omega)
      rw [htk] at hpre
      have HPRE := Lib.hid hpre
      clear hpre htk hG
      gi_wp2
      go_end0
      exact ⟨⟨_, rfl⟩, .inl ⟨_, HPRE.out, hJs⟩⟩
end Go.Proofs.YtgipbkopndghdaaDoor
