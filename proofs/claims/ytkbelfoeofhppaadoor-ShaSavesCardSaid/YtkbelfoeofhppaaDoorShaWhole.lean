/- The law's helper whole: parts, cut, and all of them together. -/
import Derived.Test.YtkbelfoeofhppaaDoorShaSum
import Derived.Test.YtkbelfoeofhppaaDoorCut2
import Derived.Test.YtkbelfoeofhppaaDoorAppAtL
import Derived.Test.YtkbelfoeofhppaaDoorApart
import Derived.Maps.AppendAt
namespace Go.Proofs.YtkbelfoeofhppaaDoor
open Go.RowKit
theorem info_bs : (Tryd.prog.info? 24).map (fun i => (i.zero, i.size, i.bytes)) = some (some (.slice none 0 0), 1, 24) := by kernel_rfl
/-- What whole collects of the first k parts. -/
def cuts (ls : List (List UInt8)) (n k : Nat) : List (List UInt8) := ((ls.take k).take 6).map (·.take n)
theorem cuts_len (ls : List (List UInt8)) (n k : Nat) : (cuts ls n k).length = min 6 (min k ls.length) := by unfold cuts; simp
theorem cuts_lo (ls : List (List UInt8)) (n k : Nat) (hk : k < ls.length) (h6 : k < 6) : cuts ls n (k + 1) = cuts ls n k ++ [(ls[k]).take n] := by
  unfold cuts
  rw [List.take_take, List.take_take, Nat.min_eq_right (by omega), Nat.min_eq_right (by omega), List.take_succ_eq_append_getElem hk, List.map_append]; rfl
theorem cuts_hi (ls : List (List UInt8)) (n k : Nat) (h6 : 6 ≤ k) : cuts ls n (k + 1) = cuts ls n k := by
  unfold cuts
  rw [List.take_take, List.take_take, Nat.min_eq_left (by omega), Nat.min_eq_left (by omega)]
theorem cuts_at (ls : List (List UInt8)) (n j : Nat) (h : j < (cuts ls n ls.length).length) (h2 : j < ls.length) : (cuts ls n ls.length)[j] = (ls[j]).take n := by
  unfold cuts
  simp [List.getElem_take]
theorem cuts_short (ls : List (List UInt8)) (n k : Nat) : ∀ x ∈ cuts ls n k, x.length ≤ n := by
  intro x hx
  unfold cuts at hx
  rw [List.mem_map] at hx
  obtain ⟨y, _, rfl⟩ := hx
  exact List.length_take_le _ _
theorem flatten_le (n : Nat) : ∀ (L : List (List UInt8)), (∀ x ∈ L, x.length ≤ n) → L.flatten.length ≤ n * L.length
  | [], _ => by simp
  | x :: L, h => by
    have h1 := h x (by simp)
    have h2 := flatten_le n L (fun y hy => h y (by simp [hy]))
    rw [List.flatten_cons, List.length_append, List.length_cons, Nat.mul_succ]
    omega
attribute [irreducible] cuts
/-- The parts in a row of the call's own, and all of them together, in memory apart. -/
structure Wh (w : World) (base : Nat) (vp va : Value) (L : List (List UInt8)) (vs : List Value) : Prop where
  row : w.ownsRow base 24 1 vp L.length vs
  len : vs.length = L.length
  el : ∀ j (h : j < L.length), ∃ vj, vs[j]? = some vj ∧ OwnB w base vj L[j] ∧ (vj.ownBlock = none ∨ vj.ownBlock ≠ va.ownBlock)
  all : OwnB w base va L.flatten
  le : base ≤ w.heap.size
theorem Wh.below {w w' : World} {base : Nat} {vp va : Value} {L : List (List UInt8)} {vs : List Value} (h : Wh w base vp va L vs) (hb : Below w.heap.size w w') : Wh w' base vp va L vs := by
  refine ⟨World.ownsRow.kept h.row (grown_of_below hb none) (by cases vp.ownBlock <;> simp), h.len, fun j hj => ?_, h.all.below hb, Nat.le_trans h.le hb.size⟩
  obtain ⟨vj, h1, h2, h3⟩ := h.el j hj
  exact ⟨vj, h1, h2.below hb, h3⟩
theorem ownB_apart {w : World} {b1 b2 : Nat} {v1 v2 : Value} {l : List UInt8} {n : Nat} {vs : List Value} (h1 : OwnB w b1 v1 l) (h2 : w.ownsRow b2 24 1 v2 n vs) : v1.ownBlock = none ∨ v1.ownBlock ≠ v2.ownBlock := apart_rows h1 h2 (by decide)
/-- Behind both appends. -/
theorem Wh.step {w w1 w2 w3 w4 : World} {base : Nat} {vp va vp' va' v1 : Value} {L : List (List UInt8)} {vs : List Value} {x : List UInt8} (h : Wh w base vp va L vs)
    (hb1 : Below w.heap.size w w1) (hx : OwnB w1 w.heap.size v1 x) (hb2 : Below w1.heap.size w1 w2) (hr : w3.ownsRow base 24 1 vp' (L.length + 1) (vs ++ [v1])) (hg3 : w2.grownBy w3 vp.ownBlock)
    (ha : OwnB w4 base va' (L.flatten ++ x)) (hg4 : w3.grownBy w4 va.ownBlock) (hat : va'.ownBlock = va.ownBlock ∨ va'.ownBlock = some w3.heap.size) : Wh w4 base vp' va' (L ++ [x]) (vs ++ [v1]) := by
  have h2 := (h.below hb1).below hb2
  have hx2 := hx.below hb2
  have hall3 : OwnB w3 base va L.flatten := h2.all.kept hg3 (ownB_apart h2.all h2.row)
  have hrow4 : w4.ownsRow base 24 1 vp' (L.length + 1) (vs ++ [v1]) := World.ownsRow.kept hr hg4 (apart_rows hr hall3 (by decide))
  have key : ∀ (b : Nat) (v : Value) (l : List UInt8), base ≤ b → OwnB w2 b v l → (v.ownBlock = none ∨ v.ownBlock ≠ va.ownBlock) → OwnB w4 base v l ∧ (v.ownBlock = none ∨ v.ownBlock ≠ va'.ownBlock) := by
    intro b v l hb hv hne
    have hv3 : OwnB w3 b v l := hv.kept hg3 (ownB_apart hv h2.row)
    refine ⟨(hv3.kept hg4 hne).lower hb, ?_⟩
    rcases hne with e | e
    · exact .inl e
    · rcases hat with e2 | e2
      · rw [e2]; exact .inr e
      · rw [e2]
        refine .inr fun e3 => ?_
        have := (hv3.lt _ e3).2
        omega
  refine ⟨by simpa using hrow4, by simp [h.len], fun j hj => ?_, by simpa using ha, Nat.le_trans h2.le (Nat.le_trans hg3.size hg4.size)⟩
  by_cases hlt : j < L.length
  · obtain ⟨vj, h1, h2', h3⟩ := h2.el j hlt
    obtain ⟨k1, k2⟩ := key base vj L[j] (Nat.le_refl _) h2' h3
    exact ⟨vj, by rw [List.getElem?_append_left (by rw [h.len]; exact hlt)]; exact h1, by rw [List.getElem_append_left hlt]; exact k1, k2⟩
  · have e : j = L.length := by simp at hj; omega
    subst e
    obtain ⟨k1, k2⟩ := key w.heap.size v1 x h.le hx2 (by
      cases hv : v1.ownBlock with
      | none => exact .inl rfl
      | some k =>
        refine .inr fun e => ?_
        have h5 := (hx.lt k hv).1
        have h6 := (h.all.lt k e.symm).2
        omega)
    exact ⟨v1, by rw [← h.len]; simp, by simpa using k1, k2⟩
theorem Wh.sls {w : World} {base : Nat} {vp va : Value} {L : List (List UInt8)} {vs : List Value} (h : Wh w base vp va L vs) : Sls w w.heap.size vp L := by
  rcases h.row.2 with ⟨rfl, h0⟩ | ⟨g, cap, cur, rfl, hb, hg, hc, hm, hs, ht⟩
  · have : L = [] := List.eq_nil_of_length_eq_zero h0
    subst this
    exact ⟨none, 0, rfl, by simp, by omega, fun hp => by simp at hp⟩
  · refine ⟨_, cap, rfl, hc, by unfold maxLen at hm; omega, fun _ => ⟨g, 0, rfl, (Array.getElem?_eq_some_iff.1 hg).1, fun j hj => ?_⟩⟩
    obtain ⟨vj, h1, h2, _⟩ := h.el j hj
    refine ⟨vj, ?_, h2.sl⟩
    have e : cur[j]? = some vj := by
      rw [← h1, ← ht, List.getElem?_take, if_pos (by omega)]; simp
    simp [World.cell?, hg, e]
set_option maxRecDepth 100000 in
set_option maxHeartbeats 2000000 in
theorem whole_any (v : Value) (ls : List (List UInt8)) (n : Nat) (w : World) (hs : Sls w w.heap.size v ls) (hn : n ≤ 1000) :
    Calls Tryd.prog 10 #[v, .int .i64 (n : Int)] w fun e w' => ∃ vp va vs, e = .returned (.tuple #[vp, va]) ∧ Wh w' w.heap.size vp va (cuts ls n ls.length) vs ∧ Below w.heap.size w w' := by
  obtain ⟨i0, hi, hz0, hz1, hz2⟩ := info_parts info_bs
  obtain ⟨A, c, rfl, k1, k2, k3⟩ := hs
  have H3 := Lib.hid k3; clear k3
  go_enter Tryd.func10, Tryd.ntmps10
  go_wp2_with fail
  go_loopw [6, 7, 12] (fun vp va i wr => ∃ (k : Nat) (vs : List Value), k ≤ ls.length ∧ i = .int .i64 k ∧ Wh wr w.heap.size vp va (cuts ls n k) vs ∧ Below w.heap.size w wr) (fun _ _ i _ => ls.length - (intOf i).toNat)
  case atStart =>
    refine ⟨0, [], by omega, rfl, ?_, Below.refl _ _⟩
    have e : cuts ls n 0 = [] := by unfold cuts; rfl
    rw [e]
    exact ⟨World.ownsRow_nil _ _ _ _, rfl, fun j hj => by simp at hj, OwnB.nil _ _, Nat.le_refl _⟩
  case round =>
    obtain ⟨k, vs, hk, rfl, hW, hB⟩ := hrel
    have HW := Lib.hid hW; clear hW
    have HB := Lib.hid hB; clear hB
    by_cases hlt : k < ls.length
    · obtain ⟨b, o, rfl, hb, hx⟩ := H3.out (by omega)
      obtain ⟨vj, hc, hsl⟩ := hx k hlt
      have hcell : wr.cell? ⟨b, o + k, none⟩ = some vj := (HB.out.cell (p := ⟨b, o + k, none⟩) hb).trans hc
      have HSL := Lib.hid (hsl.below HB.out (Nat.le_refl _))
      clear hx hc hsl
      by_cases h6 : k < 6
      · have h6' : (k : Int) < 6 := by omega
        have HC := Lib.hid (cuts_lo ls n k hlt h6)
        have hlen : (cuts ls n k).length ≤ 6 := by rw [cuts_len]; omega
        have hfl : (cuts ls n k).flatten.length ≤ 6000 := by
          have := flatten_le n _ (cuts_short ls n k)
          have h2 : n * (cuts ls n k).length ≤ 1000 * 6 := Nat.mul_le_mul hn hlen
          omega
        go_wp2_with fail
        refine (cut_any w.heap.size vj ls[k] (n : Int) wr HSL.out HB.out.size (by omega) (by omega)).mono ?_
        rintro e w1 ⟨v1, rfl, hO, hB1⟩
        rw [Int.toNat_natCast] at hO
        have hxl : ((ls[k]).take n).length ≤ 1000 := by have := List.length_take_le n ls[k]; omega
        obtain ⟨x, hx⟩ : ∃ x, x = (ls[k]).take n := ⟨_, rfl⟩
        rw [← hx] at hO hxl HC
        clear hx
        obtain ⟨A1, c1, rfl, _⟩ := hO.sl
        have HO := Lib.hid hO; clear hO
        have HB1 := Lib.hid hB1; clear hB1
        have HW1 := Lib.hid (HW.out.below HB1.out)
        have hz1' := HW1.out.le
        go_wp2_with (first
          | (at_builtin; ((with_reducible refine wpList_append_own_at _ ?a1 (.tmp 22) (.tmp 24) 22 ?a2 w.heap.size 24 i0 (.slice none 0 0) 1 24 Tryd.underlying22 hi hz0 hz1 hz2 ?a3 (by decide) u6 (cuts ls n k).length vs ?a4 (HW1.out.row.alloc _) ⟨w1.heap.size, 0, none⟩ 1 1 [.slice A1 x.length c1] ?a5 ?a6 (cell_one_new _ _ _) ?a7 (by unfold maxLen; omega) (by omega) ?a8 ?_); (case a1 => rfl); (case a2 => rfl); (case a3 => rfl); (case a4 => rfl); (case a5 => rfl); (case a6 => rfl); (case a7 => simp [Value.oneCell']); (case a8 => simp; omega); intro vp' w3 hr3 hg3 _ _; have H2 := HW1.out.below ((Below.refl w1.heap.size w1).alloc (Nat.le_refl _) (.cells #[.slice A1 x.length c1] 24)); have HR3 := Lib.hid hr3; have HG3 := Lib.hid hg3; have HA3 := Lib.hid (H2.all.kept hg3 (ownB_apart H2.all H2.row)); have HX3 := Lib.hid ((HO.out.below ((Below.refl w1.heap.size w1).alloc (Nat.le_refl _) (.cells #[.slice A1 x.length c1] 24))).kept hg3 (ownB_apart (HO.out.below ((Below.refl w1.heap.size w1).alloc (Nat.le_refl _) _)) H2.row)).sl; have hz3 : w.heap.size ≤ w3.heap.size := Nat.le_trans H2.le hg3.size; clear H2 hr3 hg3))
          | (at_builtin; ((with_reducible refine wpList_app_at ?b1 (.tmp 26) (.tmp 27) ?b2 w.heap.size u7 (cuts ls n k).flatten x ?b3 ?b4 _ (.slice A1 x.length c1) ?b5 HX3.out ?b6 ?b7 ?_); (case b1 => rfl); (case b2 => rfl); (case b3 => rfl); (case b4 => exact HA3.out); (case b5 => rfl); (case b6 => omega); (case b7 => exact hz3); intro va' w4 hv4 hg4 hat4; have HV4 := Lib.hid hv4; have HG4 := Lib.hid hg4; have HAT := Lib.hid hat4; clear hv4 hg4 hat4)))
        have hstep := HW.out.step HB1.out HO.out ((Below.refl w1.heap.size w1).alloc (Nat.le_refl _) (.cells #[.slice A1 x.length c1] 24)) HR3.out HG3.out HV4.out HG4.out HAT.out
        have HST := Lib.hid hstep; clear hstep
        have HB4 : Hid (Below w.heap.size w w4) := Lib.hid (by
          have b1 := (HB.out.trans (HB1.out.mono HB.out.size)).alloc hz1' (.cells #[.slice A1 x.length c1] 24)
          have b2 := b1.grown HG3.out (by simp; omega) (fun j e => (World.ownsRow.lt HW1.out.row j e).1)
          exact b2.grown HG4.out hz3 (fun j e => (HA3.out.lt j e).1))
        go_wp2_with fail
        go_roundw
        case rel => exact ⟨k + 1, vs ++ [.slice A1 x.length c1], by omega, by go_num, by rw [HC.out]; exact HST.out, HB4.out⟩
        case measure => simp [intOf]; omega
      · have h6' : ¬ (k : Int) < 6 := by omega
        have HC := Lib.hid (cuts_hi ls n k (by omega))
        go_wp2_with fail
        go_roundw
        case rel => exact ⟨k + 1, vs, by omega, by go_num, by rw [HC.out]; exact HW.out, HB.out⟩
        case measure => simp [intOf]; omega
    · obtain rfl : k = ls.length := by omega
      go_wp2_with fail
      go_ret2
      exact ⟨_, _, vs, rfl, HW.out, HB.out⟩
end Go.Proofs.YtkbelfoeofhppaaDoor
