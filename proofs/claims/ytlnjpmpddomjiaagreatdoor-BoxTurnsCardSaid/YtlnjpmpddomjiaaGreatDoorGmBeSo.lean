/- slices.Sort of ints of one's own; once. box: lists of numbers that are turned by one another: once sorted and paired off is the same as picked out of a range. -/
import Derived.Test.YtlnjpmpddomjiaaGreatDoorGmBeNu
import Derived.Sort.OwnSortedInts
set_option maxRecDepth 100000
namespace Go.Proofs.YtlnjpmpddomjiaaGreatDoor
open Go.RowKit
attribute [local go_sem] Oper.semAt_some
def sortL (l : List Nat) : List Nat := l.mergeSort fun x y => decide (x ≤ y)
theorem sortL_len (l : List Nat) : (sortL l).length = l.length := List.length_mergeSort l
theorem sort_any {w : World} {base : Nat} {v : Value} {l : List Nat} (h : OwnJ w base v l) (hl : l.length ≤ 100000) :
    Calls Tryz.prog 64 #[v] w fun e w' => e = .returned (.tuple #[]) ∧ OwnJ w' base v (sortL l) ∧ w.grownBy w' v.ownBlock := by
  have hj : l.map jv = (l.map (fun n : Nat => (n : Int))).map (Value.int .i64) := by rw [List.map_map]; rfl
  rcases h.2 with ⟨rfl, h0⟩ | ⟨g, cap, cur, rfl, hb, hg, hc, hm, hs, ht⟩
  · have hx : l = [] := List.eq_nil_of_length_eq_zero h0
    subst hx
    refine (Tryz.slices_Sort_int_none none 0 w).mono ?_
    rintro e w' ⟨rfl, rfl⟩
    exact ⟨rfl, by rw [show sortL [] = [] from by simp [sortL]]; exact h, World.grownBy.refl _ _⟩
  · have hl2 : (l.map (fun n : Nat => (n : Int))).length = l.length := List.length_map _
    rw [hj, ← hl2, Nat.mul_one] at ht
    have hH := holds_of_blockI hg ht
    have := Tryz.slices_Sort_int g 0 cap _ w hH (Array.getElem?_eq_some_iff.1 hg).1 (by rw [hl2]; omega)
    rw [hl2] at this
    refine this.mono ?_
    rintro e w' ⟨rfl, n, os, rfl⟩
    have hms : ((l.map (fun n : Nat => (n : Int))).mergeSort fun x y => decide (x ≤ y)) = (sortL l).map (fun n : Nat => (n : Int)) := by
      unfold sortL
      rw [List.map_mergeSort]
      intro a _ b _
      simp
    rw [hms]
    refine ⟨rfl, ?_, grownBy_sortedI _⟩
    have hr := ownsRow_sortedI (n := n) (os := os) (ss := l.map (fun n : Nat => (n : Int))) (ts := (sortL l).map (fun n : Nat => (n : Int))) (by rw [List.length_map, List.length_map, sortL_len]) hb hg (by rw [hl2]; exact hc) hm hs
    rw [hl2] at hr
    unfold OwnJ
    rw [sortL_len]
    have e2 : (sortL l).map jv = ((sortL l).map (fun n : Nat => (n : Int))).map (Value.int .i64) := by rw [List.map_map]; rfl
    rw [e2]
    exact hr
/-- out with one more number: twice is none. -/
def onceS (out : List Nat) (n : Nat) : List Nat := if out.getLast? = some n then out.dropLast else out ++ [n]
def onceL (x y : List Nat) : List Nat := (sortL (x ++ y)).foldl onceS []
theorem OwnJ.take {w : World} {base : Nat} {A : Option Addr} {c k : Nat} {l : List Nat} (h : OwnJ w base (.slice A l.length c) l) (hk : k < l.length) : OwnJ w base (.slice A k c) (l.take k) := by
  have hk2 : (l.take k).length = k := by rw [List.length_take]; omega
  rcases h.2 with ⟨_, h0⟩ | ⟨g, cap, cur, e, hb, hg, hc, hm, hs, ht⟩
  · omega
  · injection e with e1 _ e3
    subst e1 e3
    refine ⟨by rw [List.length_map]; omega, .inr ⟨g, c, cur, by rw [hk2], hb, hg, by omega, hm, hs, ?_⟩⟩
    rw [hk2, Nat.mul_one, List.map_take, ← ht, List.take_take, Nat.mul_one, Nat.min_eq_left (by omega)]
theorem slice_hJ (A : Option Addr) (n c k : Nat) (hk : k ≤ c) (w : World) : (Instr.slice 39 (.slice A n c) none (some (.int .i64 (k : Int))) none).run Tryz.prog w = .ok (.slice A k c) w := by
  rw [run_slice_h w 39 A n c Tryz.underlying39 .i64 k (by omega) (by omega)]
  by_cases h0 : c = 0 <;> simp [sliced, go_sem, h0]
set_option maxHeartbeats 4000000 in
theorem once_any (v1 v2 : Value) (x y : List Nat) (w : World) (h1 : JS w w.heap.size v1 x) (h2 : JS w w.heap.size v2 y) (hl1 : x.length ≤ 10000) (hl2 : y.length ≤ 10000) :
    Calls Tryz.prog 40 #[v1, v2] w fun e w' => ∃ v', e = .returned v' ∧ OwnJ w' w.heap.size v' (onceL x y) ∧ Below w.heap.size w w' := by
  have H1 := Lib.hid h1
  have H2 := Lib.hid h2
  obtain ⟨A1, c1, rfl, _⟩ := h1
  obtain ⟨A2, c2, rfl, _⟩ := h2
  obtain ⟨W1, hW1⟩ : ∃ W, W = w.alloc (.cells #[.slice A1 x.length c1, .slice A2 y.length c2] 39) := ⟨_, rfl⟩
  have HB1 := Lib.hid (show Below w.heap.size w W1 from by rw [hW1]; exact (Below.refl _ _).alloc (Nat.le_refl _) _)
  have hk := (show Blk W1 w.heap.size [.slice A1 x.length c1, .slice A2 y.length c2] from by rw [hW1]; exact Blk.new w _ _)
  have HCC := Lib.hid (concatJ_any w.heap.size _ _ x y W1 hk.lt (hk.at (o := 0) rfl) (hk.at (o := 1) rfl) ((H1.out.below HB1.out (Nat.le_refl _)).more HB1.out.size) ((H2.out.below HB1.out (Nat.le_refl _)).more HB1.out.size) hl1 hl2)
  clear hk
  have hzl : (x ++ y).length ≤ 20000 := by rw [List.length_append]; omega
  have hOL : onceL x y = (sortL (x ++ y)).foldl onceS [] := rfl
  rw [hOL]
  obtain ⟨Z, hZ⟩ : ∃ Z, Z = x ++ y := ⟨_, rfl⟩
  rw [← hZ] at HCC hzl ⊢
  clear hZ hOL
  obtain ⟨S, hS⟩ : ∃ S, S = sortL Z := ⟨_, rfl⟩
  have hz : Z.length = S.length := by rw [hS, sortL_len]
  have hSO := fun (W : World) (b : Nat) (v : Value) (h : OwnJ W b v Z) => sort_any h (by omega)
  rw [← hS] at hSO ⊢
  have HSRT := Lib.hid hSO
  clear hS hSO
  have HZ := Lib.hid hz
  rw [hz] at hzl
  clear hz
  go_enter Tryz.func40, Tryz.ntmps40
  go_wp2_with fail
  rw [← hW1]
  clear hW1
  refine HCC.out.mono ?_
  rintro e W2 ⟨vc, rfl, hO2, hB2⟩
  have HSO := Lib.hid (HSRT.out _ _ _ hO2)
  have HB2 := Lib.hid hB2
  have hsz1 := HB1.out.size
  have hbk2 := fun k e => (OwnJ.lt hO2 k e).1
  obtain ⟨A3, c3, rfl, _⟩ := hO2.jIn
  rw [HZ.out] at HSO hO2 hbk2 ⊢
  have HBK := Lib.hid hbk2
  clear hO2 hB2 hbk2 HCC
  go_wp2_with fail
  refine HSO.out.mono ?_
  rintro e W3 ⟨rfl, hO3, hg3⟩
  have hB3 : Below W1.heap.size W1 W3 := HB2.out.trans ((Below.refl W1.heap.size W2).grown hg3 HB2.out.size HBK.out)
  have HLOW := Lib.hid (HB1.out.trans (hB3.mono hsz1))
  have hsz3 : w.heap.size ≤ W3.heap.size := HLOW.out.size
  have HJS := Lib.hid hO3.js
  clear HSO hB3 hg3 hO3 HBK HB2 HB1 HSRT
  go_wp2_with fail
  go_loopw [6, 8, 9, 18] (fun o _ _ i wr => ∃ (k : Nat) (out : List Nat), k ≤ S.length ∧ i = .int .i64 (k : Int) ∧ out.length ≤ k ∧ OwnJ wr W3.heap.size o out ∧ Below W3.heap.size W3 wr ∧ (S.drop k).foldl onceS out = S.foldl onceS []) (fun _ _ _ i _ => S.length - (intOf i).toNat)
  case atStart => exact ⟨0, [], by omega, rfl, by simp, OwnJ.nil _ _, Below.refl _ _, rfl⟩
  case round =>
    obtain ⟨k, out, hk, rfl, hok, hO, hBl, hf⟩ := hrel
    have HBl := Lib.hid hBl; clear hBl
    have HF := Lib.hid hf; clear hf
    by_cases hlt : k < S.length
    · have hi : (k : Int) < (S.length : Int) := by omega
      have hjs := HJS.out.below HBl.out (Nat.le_refl _)
      obtain ⟨A0, c0, e0, _, hlc, _, hq⟩ := hjs
      injection e0 with e0 _ e1
      subst e0 e1
      obtain ⟨g, o, rfl, hgl, hcs⟩ := hq (by omega)
      have hcell : wr.cell? ⟨g, o + k, none⟩ = some (.int .i64 (S[k] : Int)) := hcs k hlt
      clear hcs hq
      have HDR := Lib.hid (show S.drop k = S[k] :: S.drop (k + 1) from List.drop_eq_getElem_cons hlt)
      rcases List.eq_nil_or_concat out with rfl | ⟨t, z, hcon⟩
      · obtain ⟨A4, c4, rfl, _⟩ := hO.jIn
        have HO := Lib.hid hO; clear hO
        simp only [List.length_nil] at HO ⊢
        have HLA := Lib.hid (show Below W3.heap.size W3 (wr.alloc (.cells #[.int .i64 (S[k] : Int)] 3)) from HBl.out.alloc HBl.out.size _)
        have HOA := Lib.hid (show OwnJ (wr.alloc (.cells #[.int .i64 (S[k] : Int)] 3)) W3.heap.size (.slice A4 0 c4) [] from HO.out.below ((Below.refl _ _).alloc (Nat.le_refl _) _))
        have hbn := (show Blk (wr.alloc (.cells #[.int .i64 (S[k] : Int)] 3)) wr.heap.size [jv S[k]] from Blk.new wr [jv S[k]] _)
        have HNW := Lib.hid (show JS (wr.alloc (.cells #[.int .i64 (S[k] : Int)] 3)) (wr.heap.size + 1) (.slice (some ⟨wr.heap.size, 0, none⟩) 1 1) [S[k]] from ⟨_, _, rfl, (fun e => by cases e), by simp, by omega, fun _ => ⟨_, _, rfl, by omega, fun j hj => by
          obtain rfl : j = 0 := by simpa using hj
          exact hbn.at (o := 0) rfl⟩⟩)
        have hzA : W3.heap.size ≤ (wr.alloc (.cells #[.int .i64 (S[k] : Int)] 3)).heap.size := HLA.out.size
        clear hbn
        go_wp2_with (at_builtin; ((with_reducible refine wpList_appJs ?g1 (.tmp 38) (.tmp 40) ?g2 W3.heap.size (.slice A4 0 c4) [] [S[k]] ?g3 ?g4 (wr.heap.size + 1) (.slice (some ⟨wr.heap.size, 0, none⟩) 1 1) ?g5 ?g6 ?g7 ?g8 ?_); (case g1 => rfl); (case g2 => rfl); (case g3 => rfl); (case g4 => exact HOA.out); (case g5 => rfl); (case g6 => exact HNW.out); (case g7 => first | (simp; done) | (simp; omega) | omega); (case g8 => exact hzA); intro v' w2 hv hgr; have Hv := Lib.hid hv; clear hv; have Hg := Lib.hid (HLA.out.trans (HOA.out.belowBase hgr hzA)); clear hgr))
        go_roundw
        case rel => exact ⟨k + 1, [S[k]], by omega, by go_num, by simp, Hv.out, Hg.out, by have := HF.out; rw [HDR.out] at this; exact this⟩
        case measure => simp [intOf]; omega
      · rw [List.concat_eq_append] at hcon
        subst hcon
        have hO' := hO
        obtain ⟨A4, c4, rfl, hlc4, _, hq⟩ := hO'.jIn
        obtain ⟨M, hM⟩ : ∃ M, M = t.length := ⟨_, rfl⟩
        have hLm : (t ++ [z]).length = M + 1 := by rw [hM]; simp
        obtain ⟨g4, rfl, _, hc4⟩ := hq (by rw [hLm]; omega)
        have hcz := hc4 M (by rw [hLm]; omega)
        rw [List.getElem_append_right (by omega)] at hcz
        simp only [hM, Nat.sub_self, List.getElem_cons_zero] at hcz
        rw [← hM] at hcz
        unfold jv at hcz
        rw [hLm] at hO hok ⊢
        rw [hLm] at hlc4
        have hTK := OwnJ.take (k := M) (show OwnJ wr W3.heap.size (.slice (some ⟨g4, 0, none⟩) (t ++ [z]).length c4) (t ++ [z]) from hO') (by rw [hLm]; omega)
        rw [hM, List.take_left] at hTK
        rw [← hM] at hTK
        have HT := Lib.hid hTK
        have HO := Lib.hid hO
        have htM : t.length = M := hM.symm
        clear hO hO' hq hc4 hLm hM hTK
        by_cases hzs : z = S[k]
        · have hzi : ((z : Int) == (S[k] : Int)) = true := by rw [hzs]; simp
          have hsl := fun W => slice_hJ (some ⟨g4, 0, none⟩) (M + 1) c4 M (by omega) W
          have HST := Lib.hid (show onceS (t ++ [z]) S[k] = t from by unfold onceS; rw [hzs]; simp)
          clear hzs
          go_wp2_with fail
          go_roundw
          case rel => exact ⟨k + 1, t, by omega, by go_num, by omega, HT.out, HBl.out, by have := HF.out; rw [HDR.out, List.foldl_cons, HST.out] at this; exact this⟩
          case measure => simp [intOf]; omega
        · have hzi : ((z : Int) == (S[k] : Int)) = false := by rw [beq_eq_false_iff_ne]; omega
          have HST := Lib.hid (show onceS (t ++ [z]) S[k] = (t ++ [z]) ++ [S[k]] from by unfold onceS; rw [if_neg (by simp; exact hzs)])
          clear hzs
          have HLA := Lib.hid (show Below W3.heap.size W3 (wr.alloc (.cells #[.int .i64 (S[k] : Int)] 3)) from HBl.out.alloc HBl.out.size _)
          have HOA := Lib.hid (show OwnJ (wr.alloc (.cells #[.int .i64 (S[k] : Int)] 3)) W3.heap.size (.slice (some ⟨g4, 0, none⟩) (M + 1) c4) (t ++ [z]) from HO.out.below ((Below.refl _ _).alloc (Nat.le_refl _) _))
          have hbn := (show Blk (wr.alloc (.cells #[.int .i64 (S[k] : Int)] 3)) wr.heap.size [jv S[k]] from Blk.new wr [jv S[k]] _)
          have HNW := Lib.hid (show JS (wr.alloc (.cells #[.int .i64 (S[k] : Int)] 3)) (wr.heap.size + 1) (.slice (some ⟨wr.heap.size, 0, none⟩) 1 1) [S[k]] from ⟨_, _, rfl, (fun e => by cases e), by simp, by omega, fun _ => ⟨_, _, rfl, by omega, fun j hj => by
            obtain rfl : j = 0 := by simpa using hj
            exact hbn.at (o := 0) rfl⟩⟩)
          have hzA : W3.heap.size ≤ (wr.alloc (.cells #[.int .i64 (S[k] : Int)] 3)).heap.size := HLA.out.size
          clear hbn
          go_wp2_with (at_builtin; ((with_reducible refine wpList_appJs ?g1 (.tmp 38) (.tmp 40) ?g2 W3.heap.size (.slice (some ⟨g4, 0, none⟩) (M + 1) c4) (t ++ [z]) [S[k]] ?g3 ?g4 (wr.heap.size + 1) (.slice (some ⟨wr.heap.size, 0, none⟩) 1 1) ?g5 ?g6 ?g7 ?g8 ?_); (case g1 => rfl); (case g2 => rfl); (case g3 => rfl); (case g4 => exact HOA.out); (case g5 => rfl); (case g6 => exact HNW.out); (case g7 => first | (simp; done) | (simp; omega) | omega); (case g8 => exact hzA); intro v' w2 hv hgr; have Hv := Lib.hid hv; clear hv; have Hg := Lib.hid (HLA.out.trans (HOA.out.belowBase hgr hzA)); clear hgr))
          go_roundw
          case rel => exact ⟨k + 1, (t ++ [z]) ++ [S[k]], by omega, by go_num, by simp; omega, Hv.out, Hg.out, by have := HF.out; rw [HDR.out, List.foldl_cons, HST.out] at this; exact this⟩
          case measure => simp [intOf]; omega
    · have hi : ¬ (k : Int) < (S.length : Int) := by omega
      have hkn : k = S.length := by omega
      have hff : out = S.foldl onceS [] := by have := HF.out; rw [hkn, List.drop_length] at this; exact this
      have HO := Lib.hid hO
      obtain ⟨A4, c4, rfl, _⟩ := hO.jIn
      clear hO
      have HFF := Lib.hid hff; clear hff
      go_wp2_with fail
      go_ret
      exact ⟨_, rfl, by rw [← HFF.out]; exact HO.out.le hsz3, HLOW.out.trans (HBl.out.mono hsz3)⟩
end Go.Proofs.YtlnjpmpddomjiaaGreatDoor
set_option maxRecDepth 100000
namespace Go.Proofs.YtlnjpmpddomjiaaGreatDoor
open Go.RowKit
theorem lt_ext : ∀ {a b : List Nat}, a.Pairwise (· < ·) → b.Pairwise (· < ·) → (∀ n, n ∈ a ↔ n ∈ b) → a = b
  | [], [], _, _, _ => rfl
  | [], y :: b, _, _, h => absurd ((h y).2 (by simp)) (by simp)
  | x :: a, [], _, _, h => absurd ((h x).1 (by simp)) (by simp)
  | x :: a, y :: b, ha, hb, h => by
    rw [List.pairwise_cons] at ha hb
    have hxy : x = y := by
      have h1 := (h x).1 (by simp)
      have h2 := (h y).2 (by simp)
      rcases List.mem_cons.1 h1 with e | e
      · exact e
      · rcases List.mem_cons.1 h2 with e2 | e2
        · exact e2.symm
        · have := hb.1 x e; have := ha.1 y e2; omega
    subst hxy
    have ht := lt_ext (a := a) (b := b) ha.2 hb.2 (fun n => by
      constructor
      · intro hn
        have := ha.1 n hn
        rcases List.mem_cons.1 ((h n).1 (by simp [hn])) with e | e
        · omega
        · exact e
      · intro hn
        have := hb.1 n hn
        rcases List.mem_cons.1 ((h n).2 (by simp [hn])) with e | e
        · omega
        · exact e)
    rw [ht]
theorem onceF : ∀ (k : Nat) (p : List Nat), p.length = k → p.Pairwise (· ≤ ·) → (∀ n, p.count n ≤ 2) → (p.foldl onceS []).Pairwise (· < ·) ∧ ∀ n, n ∈ p.foldl onceS [] ↔ p.count n = 1 := by
  intro k
  induction k with
  | zero =>
    intro p hp _ _
    obtain rfl := List.eq_nil_of_length_eq_zero hp
    simp
  | succ k ih =>
    intro p hp hs hc
    obtain ⟨q, a, rfl⟩ : ∃ q a, p = q ++ [a] := by
      rcases List.eq_nil_or_concat p with rfl | ⟨q, a, h⟩
      · simp at hp
      · exact ⟨q, a, by simpa using h⟩
    rw [List.pairwise_append] at hs
    obtain ⟨hs1, _, hs3⟩ := hs
    have hqa : ∀ x ∈ q, x ≤ a := fun x hx => hs3 x hx a (by simp)
    have hcn : ∀ n, (q ++ [a]).count n = q.count n + if a = n then 1 else 0 := fun n => by
      rw [List.count_append, List.count_singleton]
      by_cases h : a = n <;> simp [h]
    obtain ⟨hr, hm⟩ := ih q (by simpa using hp) hs1 (fun n => by have := hc n; rw [hcn] at this; omega)
    rw [List.foldl_append]
    generalize q.foldl onceS [] = r at hr hm
    show (onceS r a).Pairwise (· < ·) ∧ ∀ n, n ∈ onceS r a ↔ _
    have ha1 : q.count a ≤ 1 := by have := hc a; rw [hcn, if_pos rfl] at this; omega
    unfold onceS
    by_cases hl : r.getLast? = some a
    · rw [if_pos hl]
      obtain ⟨r', rfl⟩ := List.getLast?_eq_some_iff.1 hl
      rw [List.dropLast_concat]
      rw [List.pairwise_append] at hr
      obtain ⟨h1, _, h3⟩ := hr
      refine ⟨h1, fun n => ?_⟩
      rw [hcn]
      by_cases hn : a = n
      · subst hn
        have h2 := (hm a).1 (by simp)
        rw [if_pos rfl, h2]
        constructor
        · intro h; have := h3 a h a (by simp); omega
        · omega
      · rw [if_neg hn, Nat.add_zero, ← hm n, List.mem_append, List.mem_singleton]
        constructor
        · exact Or.inl
        · rintro (h | h)
          · exact h
          · exact absurd h.symm hn
    · rw [if_neg hl]
      have hna : a ∉ r := by
        intro h
        rcases List.eq_nil_or_concat r with rfl | ⟨r', b, hb⟩
        · simp at h
        · rw [List.concat_eq_append] at hb
          subst hb
          have hba : b ≠ a := fun e => hl (by simp [e])
          have hb1 : b ∈ q := List.count_pos_iff.1 (by have := (hm b).1 (by simp); omega)
          have := hqa b hb1
          rw [List.pairwise_append] at hr
          rcases List.mem_append.1 h with h | h
          · have := hr.2.2 a h b (by simp); omega
          · exact hba (List.mem_singleton.1 h).symm
      have hca : q.count a = 0 := by
        have : ¬ q.count a = 1 := fun h => hna ((hm a).2 h)
        omega
      refine ⟨?_, fun n => ?_⟩
      · rw [List.pairwise_append]
        refine ⟨hr, by simp, fun x hx y hy => ?_⟩
        rw [List.mem_singleton.1 hy]
        have hxq : x ∈ q := List.count_pos_iff.1 (by have := (hm x).1 hx; omega)
        have := hqa x hxq
        have : x ≠ a := fun e => hna (e ▸ hx)
        omega
      · rw [hcn, List.mem_append, List.mem_singleton, hm n]
        by_cases hn : a = n
        · subst hn; simp [hca]
        · rw [if_neg hn, Nat.add_zero]
          constructor
          · rintro (h | h)
            · exact h
            · exact absurd h.symm hn
          · exact Or.inl
theorem sortL_le (l : List Nat) : (sortL l).Pairwise (· ≤ ·) := by
  have := List.pairwise_mergeSort (le := fun x y => decide (x ≤ y)) (fun a b c h1 h2 => by simp at *; omega) (fun a b => by simp; omega) l
  exact this.imp (fun h => by simpa using h)
theorem lt_nodup {l : List Nat} (h : l.Pairwise (· < ·)) : l.Nodup := h.imp (fun h => Nat.ne_of_lt h)
theorem lt_count {l : List Nat} (h : l.Pairwise (· < ·)) (n : Nat) : l.count n = if n ∈ l then 1 else 0 := (lt_nodup h).count
theorem onceL_lt {x y : List Nat} (hx : x.Pairwise (· < ·)) (hy : y.Pairwise (· < ·)) : (onceL x y).Pairwise (· < ·) ∧ ∀ n, n ∈ onceL x y ↔ (decide (n ∈ x) != decide (n ∈ y)) = true := by
  have hc : ∀ n, (sortL (x ++ y)).count n = (if n ∈ x then 1 else 0) + if n ∈ y then 1 else 0 := fun n => by
    rw [← lt_count hx, ← lt_count hy, ← List.count_append]
    exact (List.mergeSort_perm _ _).count_eq n
  obtain ⟨h1, h2⟩ := onceF _ (sortL (x ++ y)) rfl (sortL_le _) (fun n => by rw [hc]; split <;> split <;> omega)
  refine ⟨h1, fun n => ?_⟩
  show n ∈ (sortL (x ++ y)).foldl onceS [] ↔ _
  rw [h2 n, hc]
  by_cases h3 : n ∈ x <;> by_cases h4 : n ∈ y <;> simp [h3, h4]
/-- The numbers up to k that are in just one of two lists. -/
def pickN (x y : List Nat) (k : Nat) : List Nat := (List.range k).filterMap fun i => if (decide (i + 1 ∈ x) != decide (i + 1 ∈ y)) = true then some (i + 1) else none
theorem pickN_zero (x y : List Nat) : pickN x y 0 = [] := rfl
theorem pickN_succ (x y : List Nat) (k : Nat) : pickN x y (k + 1) = pickN x y k ++ if (decide (k + 1 ∈ x) != decide (k + 1 ∈ y)) = true then [k + 1] else [] := by
  unfold pickN
  rw [List.range_succ, List.filterMap_append]
  congr 1
  by_cases h : (decide (k + 1 ∈ x) != decide (k + 1 ∈ y)) = true
  · simp only [List.filterMap_cons, if_pos h, List.filterMap_nil]
  · simp only [List.filterMap_cons, if_neg h, List.filterMap_nil]
theorem pickN_mem (x y : List Nat) (k n : Nat) : n ∈ pickN x y k ↔ (1 ≤ n ∧ n ≤ k) ∧ (decide (n ∈ x) != decide (n ∈ y)) = true := by
  induction k with
  | zero => simp [pickN_zero]; omega
  | succ k ih =>
    rw [pickN_succ, List.mem_append, ih]
    by_cases h : (decide (k + 1 ∈ x) != decide (k + 1 ∈ y)) = true
    · rw [if_pos h, List.mem_singleton]
      constructor
      · rintro (⟨h1, h2⟩ | rfl)
        · exact ⟨by omega, h2⟩
        · exact ⟨by omega, h⟩
      · rintro ⟨h1, h2⟩
        by_cases e : n = k + 1
        · exact .inr e
        · exact .inl ⟨by omega, h2⟩
    · rw [if_neg h]
      constructor
      · rintro (⟨h1, h2⟩ | h1)
        · exact ⟨by omega, h2⟩
        · simp at h1
      · rintro ⟨h1, h2⟩
        by_cases e : n = k + 1
        · subst e; exact absurd h2 h
        · exact .inl ⟨by omega, h2⟩
theorem pickN_lt (x y : List Nat) (k : Nat) : (pickN x y k).Pairwise (· < ·) := by
  induction k with
  | zero => simp [pickN_zero]
  | succ k ih =>
    rw [pickN_succ]
    split
    · rw [List.pairwise_append]
      exact ⟨ih, by simp, fun a ha b hb => by rw [List.mem_singleton.1 hb]; have := ((pickN_mem x y k a).1 ha).1; omega⟩
    · simpa using ih
theorem once_pick {x y : List Nat} (k : Nat) (hx : x.Pairwise (· < ·)) (hy : y.Pairwise (· < ·)) (hxk : ∀ n ∈ x, 1 ≤ n ∧ n ≤ k) (hyk : ∀ n ∈ y, 1 ≤ n ∧ n ≤ k) : onceL x y = pickN x y k := by
  obtain ⟨h1, h2⟩ := onceL_lt hx hy
  refine lt_ext h1 (pickN_lt x y k) (fun n => ?_)
  rw [h2 n, pickN_mem]
  constructor
  · intro h
    refine ⟨?_, h⟩
    by_cases h3 : n ∈ x
    · exact hxk n h3
    · by_cases h4 : n ∈ y
      · exact hyk n h4
      · simp [h3, h4] at h
  · exact fun h => h.2
theorem pickN_len (x y : List Nat) (k : Nat) : (pickN x y k).length ≤ k := by unfold pickN; exact Nat.le_trans (List.length_filterMap_le _ _) (by simp)
end Go.Proofs.YtlnjpmpddomjiaaGreatDoor
