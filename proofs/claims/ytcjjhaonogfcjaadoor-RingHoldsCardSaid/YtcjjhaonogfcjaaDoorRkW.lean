/- ring: the law's awake. -/
import Derived.Test.YtcjjhaonogfcjaaDoorRkN
import Derived.Lib.SlBytesConst
set_option maxRecDepth 100000
namespace Go.Proofs.YtcjjhaonogfcjaaDoor
open Go.RowKit
attribute [local go_sem] Oper.semAt_some
/-- A literal of one byte. -/
theorem sl_lit (b : UInt8) (w : World) : Sl (w.alloc (.cells #[vb b] 5 (1, 2))) (w.heap.size + 1) (.slice (some ⟨w.heap.size, 0, none⟩) 1 1) [b] := by
  refine ⟨_, 1, rfl, (fun h => by cases h), Nat.le_refl _, by omega, fun _ => ⟨_, 0, rfl, by omega, fun j h => ?_⟩⟩
  have hb := heap_alloc_new w (.cells #[vb b] 5 (1, 2))
  match j, h with
  | 0, _ => show (match (w.alloc (.cells #[vb b] 5 (1, 2))).heap[w.heap.size]? with | some (.cells c _ _) => c[0 + 0]? | _ => none) = _; rw [hb]; rfl
theorem map_two {L : List KyL} {a b : Nat} (h : L.map KyL.n = [a, b]) : ∃ x y, L = [x, y] ∧ x.n = a ∧ y.n = b := by
  match L, h with
  | [x, y], h =>
    simp only [List.map_cons, List.map_nil, List.cons.injEq, and_true] at h
    exact ⟨x, y, rfl, h.1, h.2⟩
set_option maxHeartbeats 4000000 in
theorem awake17 (w : World) (hT : TabA w) (hP : PowE w) :
    Calls Tryd.prog 4 #[] w fun e w' => e = .returned (.bool true) ∧ Below w.heap.size w w' := by
  have HT := Lib.hid hT
  have HP := Lib.hid hP
  have HNB := Lib.hid (newBox_any w)
  clear hT hP
  go_enter Tryd.func4, Tryd.ntmps4
  go_wp2_with fail
  refine HNB.out.mono ?_
  rintro e w1 ⟨bx, rfl, ⟨cs, hbx⟩, hbb, hb⟩
  have HB1 := Lib.hid hb
  have HBX := Lib.hid hbx
  have HBB := Lib.hid hbb
  clear hb hbx hbb HNB
  have hcv := Lib.run_convert_bytes_const (P := Tryd.prog) w1 22 5 #[.int .u8 109] 1 1 Tryd.underlying22 Tryd.underlying5
  go_wp2_with fail
  clear hcv
  obtain ⟨W2, hW2⟩ : ∃ W2, W2 = w1.alloc (.cells #[.int .u8 109] 5 (1, 2)) := ⟨_, rfl⟩
  have hb2 : Below w1.heap.size w1 W2 := by rw [hW2]; exact (Below.refl _ _).alloc (Nat.le_refl _) _
  have HB2 := Lib.hid (HB1.out.trans (hb2.mono HB1.out.size))
  have HNR := Lib.hid (newRing_any W2 w.heap.size bx 2 (w1.heap.size + 1) 1 1 ⟨w1.heap.size, 0, none⟩ cs [109] (HBX.out.below hb2 HBX.out.lt) HBB.out (by rw [hW2]; exact sl_lit 109 w1) (by rw [hW2]; simp) rfl (by simp) (by simp) (by omega) (by omega) (HT.out.below HB2.out (tab_lt HT.out)) (HP.out.below HB2.out) (tab_lt HT.out) HP.out.low)
  have hcast : ((2 : Nat) : Int) = 2 := rfl
  rw [hcast] at HNR
  rw [← hW2]
  clear hW2 hb2 hcast
  refine HNR.out.mono ?_
  rintro e w3 ⟨r, V, MV, L, rfl, h3, hm3, -, hb3⟩
  have H3 := Lib.hid h3
  have HM3 := Lib.hid hm3
  have HB3 := Lib.hid (HB2.out.trans (hb3.mono HB2.out.size))
  have hl3 : L.length = 1 := by have := congrArg List.length hm3; simpa using this
  clear h3 hm3 hb3 HNR HBX HBB
  go_wp2_with fail
  refine (rotate_any H3.out (by omega) (by omega)).mono ?_
  rintro e w4 ⟨rfl, V4, L4, h4, hm4, ht4, -⟩
  have H4 := Lib.hid h4
  have HM4 := Lib.hid (show L4.map KyL.n = [1, 2] from by rw [hm4, HM3.out]; rfl)
  have HB4 := Lib.hid (HB3.out.trans (H3.out.low ht4))
  have hl4 : L4.length = 2 := by have := congrArg List.length HM4.out; simpa using this
  clear h4 hm4 ht4 H3 HM3 hl3
  go_wp2_with fail
  refine (rotate_any H4.out (by omega) (by omega)).mono ?_
  rintro e w5 ⟨rfl, V5, L5, h5, hm5, ht5, -⟩
  have H5 := Lib.hid h5
  have HM5 := Lib.hid (show L5.map KyL.n = [2, 3] from by rw [hm5, HM4.out]; rfl)
  have HB5 := Lib.hid (HB4.out.trans (H4.out.low ht5))
  clear h5 hm5 ht5 H4 HM4 hl4
  obtain ⟨x, y, hL5, hx, hy⟩ := map_two HM5.out
  subst hL5
  go_wp2_with fail
  refine (show Calls Tryd.prog 12 #[.pointer (some ⟨r, 0, none⟩), .int .u64 1] w5 _ from key_none H5.out 1 (fun k hk => by rcases List.mem_cons.1 hk with rfl | hk; omega; rw [List.mem_singleton] at hk; rw [hk]; omega)).mono ?_
  rintro e w6 ⟨rfl, hb6⟩
  have H6 := Lib.hid (H5.out.below hb6)
  have HB6 := Lib.hid (HB5.out.trans (hb6.mono HB5.out.size))
  clear hb6 H5 HM5
  go_wp2_with fail
  refine (show Calls Tryd.prog 11 #[.pointer (some ⟨r, 0, none⟩), .int .u64 3] w6 _ from retire_at H6.out 3 ⟨y, by simp, hy⟩).mono ?_
  rintro e w7 ⟨rfl, V7, L7, k, h7, ⟨hk, hkn⟩, hL7, ht7, -⟩
  have hk1 : k = 1 := by
    match k, hk, hkn with
    | 0, _, q => have q2 : x.n = 3 := q; omega
    | 1, _, _ => rfl
    | k + 2, q, _ => simp at q; omega
  subst hk1
  have hL72 : L7 = [x] := hL7
  subst hL72
  have H7 := Lib.hid h7
  have HB7 := Lib.hid (HB6.out.trans (H6.out.low ht7))
  clear h7 hk hkn hL7 ht7 H6
  go_wp2_with fail
  refine (sign_none H7.out (.slice none 0 0) (fun k hk => by rw [List.mem_singleton] at hk; rw [hk]; omega)).mono ?_
  rintro e w8 ⟨rfl, hb8⟩
  have H8 := Lib.hid (H7.out.below hb8)
  have HB8 := Lib.hid (HB7.out.trans (hb8.mono HB7.out.size))
  clear hb8 H7
  go_wp2_with fail
  refine (len_any H8.out).mono ?_
  rintro e w9 ⟨rfl, rfl⟩
  go_wp2_with fail
  go_ret
  exact ⟨rfl, HB8.out⟩
end Go.Proofs.YtcjjhaonogfcjaaDoor
