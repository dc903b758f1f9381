/- What sha.Blocks tells: the iterator over whole, in order; a drawn region in a round that calls yield. -/
import Derived.Test.YtmgbiefobkpafaaDoorShaBlocks
import Derived.Test.YtmgbiefobkpafaaDoorRangeG
import Derived.Test.YtmgbiefobkpafaaDoorStepApp
import Derived.RegionIn
namespace Go.Proofs.YtmgbiefobkpafaaDoor
open Go.RowKit Go.Shelf
attribute [local go_sem] Oper.semAt_some
/-- From a fence to a round in it. -/
theorem uponIn_toRound {F : Fence} {n : Nat} {P : Program} {o : Oper} {a : Act} {K : Act → World → Prop} {Q : Exit → Act → World → Prop} {l : Nat} {r : Result Next} (h : o.uponIn F n P a K Q r) : o.uponIn (F.inRound l) n P a K Q r := by
  cases r with
  | ok x w' => cases x <;> exact h
  | halt x w' => cases x <;> exact h
theorem wpOpsIn_toRound {F : Fence} (hro : F.round = none) {P : Program} {ops : Array Oper} {Q : Exit → Act → World → Prop} {n l : Nat} (hd : noDefer ops = true) :
    ∀ (is : List Nat) (a : Act) (w : World), wpOpsIn F n P ops Q is a w → wpOpsIn (F.inRound l) n P ops Q is a w := by
  intro is
  induction is with
  | nil => intro a w h; exact h
  | cons i rest ih =>
    intro a w h
    rw [wpOpsIn_cons] at h ⊢
    unfold wpOpIn at h ⊢
    cases ho : ops[i]? with
    | none => rw [ho] at h; exact ih _ _ h
    | some o =>
      rw [ho] at h
      by_cases hw : Region.wanted o (yielded ops a.tmps) = true
      · simp only [hw, if_true] at h ⊢
        refine Oper.wpIn_mono (fun a w => ih a w) ?_
        refine ⟨h.1, ?_⟩
        have h2 := h.2
        rw [hro, Oper.semAt_none] at h2
        rw [Fence.inRound_round, Oper.semAt_some l _ _ (noDefer_spec hd ho)]
        exact uponIn_toRound h2
      · simp only [hw] at h ⊢
        exact ⟨h.1, ih _ _ h.2⟩
theorem wpIn_region_any_r {F : Fence} (hro : F.round = none) {P : Program} {ops : Array Oper} {Q : Exit → Act → World → Prop} {n l id : Nat} {a : Act} {w : World} (hm : P.follows .mixedOrders = true) (hd : noDefer ops = true)
    (h : wpAnyIn F n P .any ops Q ops.size (Array.replicate ops.size false) a w.drew) : (Code.region id ops true).wpIn (F.inRound l) n P Q a w :=
  wpIn_region_draw fun t => by
    simp only [Region.schedule, hm, Bool.true_or, if_true]
    exact wpOpsIn_toRound hro hd _ _ _ (wpAnyIn_sound ops.size t _ a _ h)
/-- A call of yield, one round's or another's. -/
theorem roundIn_wide {m m' : Nat} {P : Program} {l : Nat} {f : FuncId} {tmps : Array Value} {assign body : Code} {w : World} {R : Ending → World → Prop}
    (h : RoundIn Fence.wide m P l f tmps assign body w R) : RoundIn Fence.wide m' P l f tmps assign body w R := ⟨h.1, fun c cs _ => h.2 c cs (fun d h => by cases h)⟩
abbrev gWh : Nat := 23
set_option maxRecDepth 100000 in
set_option maxHeartbeats 1000000 in
theorem whole1_g (F : Fence) (n : Nat) (hf : F.fn 23) (hro : F.round = none) (hn : 1 ≤ n) (Bx b o len cap : Nat) (hlc : len ≤ cap) (hcap : len ≤ 9223372036854775000 ∧ cap ≤ 9223372036854775807) (w : World) :
    SeqG F n Tryd.prog gWh #[.pointer (some ⟨Bx, 0, none⟩)] (fun j : Nat => #[blk b o j]) (fun _ _ _ => False) (fun _ _ => True) (fun _ pre x _ => x = pre.length ∧ pre.length < len / 64) (fun xs => xs.length = len / 64) (fun A => A.cell? ⟨Bx, 0, none⟩ = some (.slice (some ⟨b, o, none⟩) len cap)) w := by
  intro l J Jx W hW hIn hJ hJx hY h0
  obtain ⟨hcapl, hcap⟩ := hcap
  have hBx := hIn _ _ h0
  have HY := Lib.hid hY; clear hY
  have HIn := Lib.hid hIn; clear hIn
  clear hJ hJx
  refine callsIn_of_wp Tryd.func23 rfl hf ?_ hro
  simp only [Tryd.ntmps23, List.size_toArray, List.length_cons, List.length_nil, Nat.reduceAdd, Nat.reduceSub, Array.replicate_succ, Array.replicate_zero, List.push_toArray, List.append_toArray, List.nil_append, List.cons_append]
  gi_wp2
  gi_loopw [3] (fun i wr => ∃ k : Nat, k ≤ len / 64 ∧ i = .int .i64 (64 * (k : Int)) ∧ (∃ pre : List Nat, pre.length = k ∧ J pre wr) ∧ wr.cell? ⟨Bx, 0, none⟩ = some (.slice (some ⟨b, o, none⟩) len cap) ∧ W.heap.size ≤ wr.heap.size)
    (fun i _ => len - (intOf i).toNat)
  case atStart => exact ⟨0, by omega, rfl, ⟨[], rfl, h0⟩, hBx, Nat.le_refl _⟩
  case round =>
    obtain ⟨k, hk, rfl, ⟨pre, hlen, hJ⟩, hc, hz⟩ := hrel
    have HJ := Lib.hid hJ; clear hJ
    by_cases hlt : k < len / 64
    · obtain ⟨fn, tmps, assign, body, hy, hR⟩ := HY.out pre k wr HJ.out hz ⟨hlen.symm, by rw [hlen]; exact hlt⟩
      unfold blk at hy
      obtain ⟨k0, k1⟩ : 64 * k + 64 ≤ len ∧ 64 * k + 64 ≤ cap := ⟨by omega, by omega⟩
      gi_wp2
      refine hR.mono ?_
      rintro e W3 (⟨rfl, hJ3, hz3, _, _⟩ | ⟨rfl, hJx3, _, _⟩)
      · have hc3 := HIn.out _ _ hJ3
        have HJ3 := Lib.hid hJ3; clear hJ3
        gi_wp2
        go_roundw
        case rel => exact ⟨k + 1, by omega, by congr 1, ⟨pre ++ [k], by rw [List.length_append, hlen]; rfl, HJ3.out⟩, hc3, by omega⟩
        case measure => simp [intOf]; omega
      · gi_wp2
        refine bodyPost_ret (results_none rfl _ _ _) rfl ?_
        exact ⟨⟨_, rfl⟩, .inr ⟨pre ++ [k], hJx3⟩⟩
    · obtain rfl : k = len / 64 := by omega
      obtain ⟨k0, k1, k2⟩ : (len : Int) - 64 * ((len / 64 : Nat) : Int) < 64 ∧ 64 * ((len / 64 : Nat) : Int) ≤ (len : Int) ∧ (0 : Int) ≤ ((len / 64 : Nat) : Int) := ⟨by omega, by omega, by omega⟩
      gi_wp2
      go_end0
      exact ⟨⟨_, rfl⟩, .inl ⟨pre, hlen, HJ.out⟩⟩
end Go.Proofs.YtmgbiefobkpafaaDoor
