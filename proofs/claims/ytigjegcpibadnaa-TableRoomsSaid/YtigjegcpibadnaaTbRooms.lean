/- table: awake; the statement TableRooms' own text, walked. -/
import Derived.Test.YtigjegcpibadnaaTbApi
import Derived.Deep.DeepCutAuto
set_option maxRecDepth 100000
namespace Go.Proofs.Ytigjegcpibadnaa
open Go.RowKit
theorem awakeT (w : World) : Calls Try.prog 6 #[] w fun e w' => e = .returned (.bool true) ∧ Below w.heap.size w w' := by
  go_enter Try.func6, Try.ntmps6
  go_wp2_with fail
  refine (new_tb 2 w (by omega) (by omega)).mono ?_
  rintro e w1 ⟨T, rfl, ⟨m, h1⟩, hb1⟩
  have H1 := Lib.hid h1; have HB := Lib.hid hb1; clear h1 hb1
  go_wp2_with fail
  refine (put_tb H1.out [97] (1 : Int) (by simp)).mono ?_
  rintro e w2 ⟨rfl, h2, f2⟩
  have H2 := Lib.hid h2; have HB2 := Lib.hid (HB.out.trans f2.low); clear h2 f2
  go_wp2_with fail
  refine (put_tb H2.out [98] (2 : Int) (by simp)).mono ?_
  rintro e w3 ⟨rfl, h3, f3⟩
  have H3 := Lib.hid h3; have HB3 := Lib.hid (HB2.out.trans f3.low); clear h3 f3
  go_wp2_with fail
  refine (renew_tb H3.out [97] (by simp)).mono ?_
  rintro e w4 ⟨rfl, h4, f4⟩
  have H4 : Hid (TB w4 w.heap.size T m 2 [([98], (2 : Int)), ([97], (1 : Int))]) := Lib.hid h4
  have HB4 := Lib.hid (HB3.out.trans f4.low); clear h4 f4
  go_wp2_with fail
  refine (oldest_tb H4.out).mono ?_
  rintro e w5 ⟨rfl, h5, b5⟩
  have H5 := Lib.hid h5
  have HB5 := Lib.hid (HB4.out.trans (b5.mono HB4.out.size)); clear h5 b5
  simp only [vv]
  go_wp2_with fail
  refine (put_tb H5.out [99] (3 : Int) (by simp)).mono ?_
  rintro e w6 ⟨rfl, h6, f6⟩
  have e6 : (putL 2 [([98], (2 : Int)), ([97], (1 : Int))] [99] (3 : Int)).1 = 8 := rfl
  rw [e6]
  have HB6 := Lib.hid (HB5.out.trans f6.low); clear h6 f6
  go_wp2_with fail
  go_ret
  exact ⟨rfl, HB6.out⟩
/-- The names that the law puts. -/
def nmR (q : Nat) : List UInt8 := [UInt8.ofNat (97 + q)]
def nmsA : Array Value := #[strT [97], strT [98], strT [99], strT [100], strT [101], strT [102], strT [103], strT [104], strT [105]]
theorem nms_at {w : World} {nb : Nat} (h : w.heap[nb]? = some (Obj.cells nmsA 9 (0, 0))) (q : Nat) (hq : q < 9) : w.cell? ⟨nb, q, none⟩ = some (strT (nmR q)) := by
  have e : w.cell? ⟨nb, q, none⟩ = nmsA[q]? := by simp [World.cell?, h]
  rw [e]
  rcases (show q = 0 ∨ q = 1 ∨ q = 2 ∨ q = 3 ∨ q = 4 ∨ q = 5 ∨ q = 6 ∨ q = 7 ∨ q = 8 by omega) with rfl | rfl | rfl | rfl | rfl | rfl | rfl | rfl | rfl <;> rfl
theorem drop_head {K : Nat} {p : List UInt8 × VT} {t : List (List UInt8 × VT)} {k : List UInt8} (v : VT) (hK : (p :: t).length = K) (hn : hasL (p :: t) k = false) :
    (dropL (p :: t) p.1).1 = 0 ∧ (putL K (dropL (p :: t) p.1).2 k v).1 = 0 := by
  have h1 : hasL (p :: t) p.1 = true := by unfold hasL; rw [List.any_cons]; simp
  unfold dropL
  rw [h1]
  refine ⟨rfl, ?_⟩
  have e : (if true = true then ((0 : Int), (p :: t).filter fun q => !(q.1 == p.1)) else (6, p :: t)).2 = t.filter fun q => !(q.1 == p.1) := by
    rw [if_pos rfl]
    exact List.filter_cons_of_neg (p := fun q : List UInt8 × VT => !(q.1 == p.1)) (by simp)
  rw [e]
  have hl := List.length_filter_le (fun q : List UInt8 × VT => !(q.1 == p.1)) t
  rw [List.length_cons] at hK
  have hno : hasL (t.filter fun q => !(q.1 == p.1)) k = false := by
    unfold hasL at hn ⊢
    rw [List.any_eq_false] at hn ⊢
    exact fun q hq => hn q (List.mem_cons_of_mem _ (List.mem_filter.1 hq).1)
  unfold putL
  rw [hno]
  rw [if_neg (by simp), if_neg (by omega)]
theorem putL_case (K : Nat) (l : List (List UInt8 × VT)) (k : List UInt8) (v : VT) : (hasL l k = true ∧ putL K l k v = (7, l)) ∨ (hasL l k = false ∧ l.length = K ∧ putL K l k v = (8, l)) ∨ (hasL l k = false ∧ l.length ≠ K ∧ putL K l k v = (0, l ++ [(k, v)])) := by
  unfold putL
  cases h : hasL l k with
  | true => exact .inl ⟨rfl, rfl⟩
  | false =>
    by_cases hc : l.length = K
    · exact .inr (.inl ⟨rfl, hc, by rw [if_neg (by simp), if_pos hc]⟩)
    · exact .inr (.inr ⟨rfl, hc, by rw [if_neg (by simp), if_neg hc]⟩)
set_option maxHeartbeats 2000000 in
theorem tableRooms_law (u1 u2 : Int) (w : World) (h1 : 0 ≤ u1 ∧ u1 ≤ 255) (h2 : 0 ≤ u2 ∧ u2 ≤ 255) :
    Calls Try.prog 5 #[.int .u8 u1, .int .u8 u2] w fun e w' => e = .returned (.bool true) ∧ Below w.heap.size w w' := by
  obtain ⟨K, hK⟩ : ∃ K : Nat, (K : Int) = 1 + u1 % 8 := ⟨(1 + u1 % 8).toNat, by omega⟩
  obtain ⟨R, hR⟩ : ∃ R : Nat, (R : Int) = 5 + u2 % 60 := ⟨(5 + u2 % 60).toNat, by omega⟩
  have hK1 : 1 ≤ K := by omega
  have hK2 : K ≤ 8 := by omega
  have hR1 : R ≤ 64 := by omega
  have hm1 : 0 ≤ u1 % 8 ∧ u1 % 8 < 8 := by omega
  have hm2 : 0 ≤ u2 % 60 ∧ u2 % 60 < 60 := by omega
  have HK := Lib.hid hK; clear hK
  have HR := Lib.hid hR; clear hR
  go_enter Try.func5, Try.ntmps5
  go_wp2_with fail
  refine (awakeT w).mono ?_
  rintro e w1 ⟨rfl, hB1⟩
  have HB1 := Lib.hid hB1; clear hB1
  go_wp2_with fail
  rw [← HK.out]
  refine (new_tb K w1 hK1 (by omega)).mono ?_
  rintro e w2 ⟨T, rfl, ⟨m, h2⟩, b2⟩
  have H2 := Lib.hid h2
  have HB2 := Lib.hid (HB1.out.trans (b2.mono HB1.out.size)); clear h2 b2
  go_wp2_with fail
  rw [← HR.out]
  obtain ⟨w3, hw3⟩ : ∃ w3, w3 = w2.alloc (.cells nmsA 9) := ⟨_, rfl⟩
  have hN : w3.heap[w2.heap.size]? = some (Obj.cells nmsA 9 (0, 0)) := by rw [hw3]; exact heap_alloc_new w2 _
  have hT3 : TB w3 w1.heap.size T m K [] := by rw [hw3]; exact H2.out.keep ((Below.refl _ _).alloc (Nat.le_refl _) _)
  have hB3 : Below w.heap.size w w3 := by rw [hw3]; exact HB2.out.alloc HB2.out.size _
  have hfold : w2.alloc (.cells #[strT [97], strT [98], strT [99], strT [100], strT [101], strT [102], strT [103], strT [104], strT [105]] 9) = w3 := hw3.symm
  rw [hfold]
  clear hw3 hfold
  obtain ⟨nb, hnb⟩ : ∃ nb, nb = w2.heap.size := ⟨_, rfl⟩
  rw [← hnb] at hN ⊢
  clear hnb
  have HN := Lib.hid hN
  have HT3 := Lib.hid hT3
  have HB3 := Lib.hid hB3
  have hwb := HB1.out.size
  clear hN hT3 hB3
  go_loopw [32] (fun i wr => ∃ (j : Nat) (l : List (List UInt8 × VT)), j ≤ R ∧ i = .int .i64 (j : Int) ∧ TB wr w1.heap.size T m K l ∧ wr.heap[nb]? = some (Obj.cells nmsA 9 (0, 0)) ∧ Below w.heap.size w wr) (fun i _ => R - (intOf i).toNat)
  case atStart => exact ⟨0, [], by omega, rfl, HT3.out, HN.out, HB3.out⟩
  case round =>
    obtain ⟨j, l, hj, rfl, hT, hN, hB⟩ := hrel
    have HT := Lib.hid hT
    have HN := Lib.hid hN
    have HB := Lib.hid hB
    have hcnt := hT.cnt
    by_cases hlt : j < R
    · obtain ⟨Q, hQ⟩ : ∃ Q : Nat, (j : Int) % ((K : Int) + 1) = (Q : Int) := ⟨((j : Int) % ((K : Int) + 1)).toNat, by have := Int.emod_nonneg (j : Int) (b := (K : Int) + 1) (by omega); omega⟩
      have hQ9 : Q < 9 := by have := Int.emod_lt_of_pos (j : Int) (b := (K : Int) + 1) (by omega); omega
      have hc := nms_at hN Q hQ9
      have hkl : (nmR Q).length ≤ 100000 := by unfold nmR; simp
      have HP := Lib.hid (put_tb hT (nmR Q) ((j : Int) : VT) hkl)
      obtain ⟨key, hkey⟩ : ∃ key, key = nmR Q := ⟨_, rfl⟩
      rw [← hkey] at hc HP hkl
      have HKEY := Lib.hid hkey
      clear hT hN hB hkey
      have hcase := putL_case K l key ((j : Int) : VT)
      rcases hcase with ⟨hh, hput⟩ | ⟨hh, hlk, hput⟩ | ⟨hh, hlk, hput⟩
      · rw [hput] at HP
        clear hput
        go_wp2_with fail
        refine HP.out.mono ?_
        rintro e w4 ⟨rfl, h4, f4⟩
        clear HP
        have HN4 := Lib.hid (f4.kt _ _ _ _ HN.out (by decide) (by decide))
        have H4 : Hid (TB w4 w1.heap.size T m K (l)) := Lib.hid h4
        have HB4 := Lib.hid (HB.out.trans (f4.low.mono hwb))
        have hc4 := h4.cnt
        clear h4 f4
        obtain ⟨l2, hl2⟩ : ∃ l2, l2 = l := ⟨_, rfl⟩
        rw [← hl2] at H4 hc4
        clear hl2
        by_cases hlen : l2.length = K
        · have hF : (l2.length == K) = true := by rw [beq_iff_eq]; exact hlen
          have hE : (((K : Int) - (l2.length : Int)) == 0) = true := by rw [beq_iff_eq]; omega
          have hS : ((l2.length : Int) + ((K : Int) - (l2.length : Int)) == (K : Int)) = true := by rw [beq_iff_eq]; omega
          have hS2 : (l2.length : Int) + ((K : Int) - (l2.length : Int)) = (K : Int) := by omega
          go_wp2_with fail
          refine (full_tb H4.out).mono ?_
          rw [hF]
          rintro e w5 ⟨rfl, h5, b5⟩
          have H5 := Lib.hid h5
          have HN5 := Lib.hid ((b5.block nb (Array.getElem?_eq_some_iff.1 HN4.out).1).trans HN4.out)
          have HB5 := Lib.hid (HB4.out.trans (b5.mono HB4.out.size)); clear h5 b5
          go_wp2_with fail
          refine (room_tb H5.out).mono ?_
          rintro e w6 ⟨rfl, h6, b6⟩
          have H6 := Lib.hid h6
          have HN6 := Lib.hid ((b6.block nb (Array.getElem?_eq_some_iff.1 HN5.out).1).trans HN5.out)
          have HB6 := Lib.hid (HB5.out.trans (b6.mono HB5.out.size)); clear h6 b6
          go_wp2_with fail
          refine (len_tb H6.out).mono ?_
          rintro e w7 ⟨rfl, rfl⟩
          go_wp2_with fail
          refine (room_tb H6.out).mono ?_
          rintro e w7 ⟨rfl, h7, b7⟩
          have H7 := Lib.hid h7
          have HN7 := Lib.hid ((b7.block nb (Array.getElem?_eq_some_iff.1 HN6.out).1).trans HN6.out)
          have HB7 := Lib.hid (HB6.out.trans (b7.mono HB6.out.size)); clear h7 b7
          go_wp2_with fail
          go_roundw
          case rel => exact ⟨j + 1, l2, by omega, by go_num, H7.out, HN7.out, HB7.out⟩
          case measure => simp [intOf]; omega
        · have hF : (l2.length == K) = false := by rw [beq_eq_false_iff_ne]; exact hlen
          have hE : (((K : Int) - (l2.length : Int)) == 0) = false := by rw [beq_eq_false_iff_ne]; omega
          have hS : ((l2.length : Int) + ((K : Int) - (l2.length : Int)) == (K : Int)) = true := by rw [beq_iff_eq]; omega
          have hS2 : (l2.length : Int) + ((K : Int) - (l2.length : Int)) = (K : Int) := by omega
          go_wp2_with fail
          refine (full_tb H4.out).mono ?_
          rw [hF]
          rintro e w5 ⟨rfl, h5, b5⟩
          have H5 := Lib.hid h5
          have HN5 := Lib.hid ((b5.block nb (Array.getElem?_eq_some_iff.1 HN4.out).1).trans HN4.out)
          have HB5 := Lib.hid (HB4.out.trans (b5.mono HB4.out.size)); clear h5 b5
          go_wp2_with fail
          refine (room_tb H5.out).mono ?_
          rintro e w6 ⟨rfl, h6, b6⟩
          have H6 := Lib.hid h6
          have HN6 := Lib.hid ((b6.block nb (Array.getElem?_eq_some_iff.1 HN5.out).1).trans HN5.out)
          have HB6 := Lib.hid (HB5.out.trans (b6.mono HB5.out.size)); clear h6 b6
          go_wp2_with fail
          refine (len_tb H6.out).mono ?_
          rintro e w7 ⟨rfl, rfl⟩
          go_wp2_with fail
          refine (room_tb H6.out).mono ?_
          rintro e w7 ⟨rfl, h7, b7⟩
          have H7 := Lib.hid h7
          have HN7 := Lib.hid ((b7.block nb (Array.getElem?_eq_some_iff.1 HN6.out).1).trans HN6.out)
          have HB7 := Lib.hid (HB6.out.trans (b7.mono HB6.out.size)); clear h7 b7
          go_wp2_with fail
          go_roundw
          case rel => exact ⟨j + 1, l2, by omega, by go_num, H7.out, HN7.out, HB7.out⟩
          case measure => simp [intOf]; omega
      · rw [hput] at HP
        clear hput
        go_wp2_with fail
        refine HP.out.mono ?_
        rintro e w4 ⟨rfl, h4, f4⟩
        clear HP
        have HN4 := Lib.hid (f4.kt _ _ _ _ HN.out (by decide) (by decide))
        have H4 : Hid (TB w4 w1.heap.size T m K (l)) := Lib.hid h4
        have HB4 := Lib.hid (HB.out.trans (f4.low.mono hwb))
        have hc4 := h4.cnt
        clear h4 f4
        obtain ⟨l2, hl2⟩ : ∃ l2, l2 = l := ⟨_, rfl⟩
        rw [← hl2] at H4 hc4
        have hlen : l2.length = K := by rw [hl2]; exact hlk
        have HL2 := Lib.hid hl2; clear hl2
        have hF : (l2.length == K) = true := by rw [beq_iff_eq]; exact hlen
        have hE : (((K : Int) - (l2.length : Int)) == 0) = true := by rw [beq_iff_eq]; omega
        have hS : ((l2.length : Int) + ((K : Int) - (l2.length : Int)) == (K : Int)) = true := by rw [beq_iff_eq]; omega
        have hS2 : (l2.length : Int) + ((K : Int) - (l2.length : Int)) = (K : Int) := by omega
        go_wp2_with fail
        refine (full_tb H4.out).mono ?_
        rw [hF]
        rintro e w5 ⟨rfl, h5, b5⟩
        have H5 := Lib.hid h5
        have HN5 := Lib.hid ((b5.block nb (Array.getElem?_eq_some_iff.1 HN4.out).1).trans HN4.out)
        have HB5 := Lib.hid (HB4.out.trans (b5.mono HB4.out.size)); clear h5 b5
        go_wp2_with fail
        refine (room_tb H5.out).mono ?_
        rintro e w6 ⟨rfl, h6, b6⟩
        have H6 := Lib.hid h6
        have HN6 := Lib.hid ((b6.block nb (Array.getElem?_eq_some_iff.1 HN5.out).1).trans HN5.out)
        have HB6 := Lib.hid (HB5.out.trans (b6.mono HB5.out.size)); clear h6 b6
        go_wp2_with fail
        refine (len_tb H6.out).mono ?_
        rintro e w7 ⟨rfl, rfl⟩
        go_wp2_with fail
        refine (room_tb H6.out).mono ?_
        rintro e w7 ⟨rfl, h7, b7⟩
        have H7 := Lib.hid h7
        have HN7 := Lib.hid ((b7.block nb (Array.getElem?_eq_some_iff.1 HN6.out).1).trans HN6.out)
        have HB7 := Lib.hid (HB6.out.trans (b7.mono HB6.out.size)); clear h7 b7
        go_wp2_with fail
        have hc7 := nms_at HN7.out Q hQ9
        rw [← HKEY.out] at hc7
        obtain ⟨p, t, hpt⟩ : ∃ p t, l2 = p :: t := by
          cases l2 with
          | nil => exfalso; have : ([] : List (List UInt8 × VT)).length = 0 := rfl; omega
          | cons p t => exact ⟨p, t, rfl⟩
        have hno : hasL (p :: t) key = false := by rw [← hpt, HL2.out]; exact hh
        have hdh := drop_head (K := K) ((j : Int) : VT) (by rw [← hpt]; exact hlen) hno
        have hlen' : ((p :: t).length : Int) = (K : Int) := by rw [← hpt]; omega
        have hpl : p.1.length ≤ 100000 := by
          obtain ⟨xs, hx, hxe, _⟩ := H7.out
          have hm : p ∈ tbs xs := by rw [hxe, hpt]; exact List.mem_cons_self ..
          obtain ⟨y, hy, rfl⟩ := List.mem_map.1 hm
          exact hx.len y hy
        rw [hpt] at H7
        obtain ⟨hd1, hd2⟩ := hdh
        clear hpt hlen hF hE hS hS2 hc4 hh hno
        have HD1 := Lib.hid hd1; have HD2 := Lib.hid hd2; have HLE := Lib.hid hlen'; clear hd1 hd2 hlen'
        refine (oldest_tb H7.out).mono ?_
        rintro e w8 ⟨rfl, h8, b8⟩
        have H8 := Lib.hid h8
        have HN8 := Lib.hid ((b8.block nb (Array.getElem?_eq_some_iff.1 HN7.out).1).trans HN7.out)
        have HB8 := Lib.hid (HB7.out.trans (b8.mono HB7.out.size)); clear h8 b8
        simp only [vv]
        go_wp2_with fail
        refine (len_tb H8.out).mono ?_
        rintro e w9 ⟨rfl, rfl⟩
        rw [HLE.out]
        go_wp2_with fail
        refine (drop_tb H8.out p.1 hpl).mono ?_
        rintro e w9 ⟨rfl, h9, f9⟩
        rw [HD1.out]
        have H9 := Lib.hid h9
        have HN9 := Lib.hid (f9.kt _ _ _ _ HN8.out (by decide) (by decide))
        have HB9 := Lib.hid (HB8.out.trans (f9.low.mono hwb)); clear h9 f9
        have hc9 := nms_at HN9.out Q hQ9
        rw [← HKEY.out] at hc9
        go_wp2_with fail
        refine (put_tb H9.out key ((j : Int) : VT) hkl).mono ?_
        rintro e w10 ⟨rfl, h10, f10⟩
        rw [HD2.out]
        have H10 := Lib.hid h10
        have HN10 := Lib.hid (f10.kt _ _ _ _ HN9.out (by decide) (by decide))
        have HB10 := Lib.hid (HB9.out.trans (f10.low.mono hwb)); clear h10 f10
        go_wp2_with fail
        go_roundw
        case rel => exact ⟨j + 1, _, by omega, by go_num, H10.out, HN10.out, HB10.out⟩
        case measure => simp [intOf]; omega
      · rw [hput] at HP
        clear hput
        go_wp2_with fail
        refine HP.out.mono ?_
        rintro e w4 ⟨rfl, h4, f4⟩
        clear HP
        have HN4 := Lib.hid (f4.kt _ _ _ _ HN.out (by decide) (by decide))
        have H4 : Hid (TB w4 w1.heap.size T m K (l ++ [(key, ((j : Int) : VT))])) := Lib.hid h4
        have HB4 := Lib.hid (HB.out.trans (f4.low.mono hwb))
        have hc4 := h4.cnt
        clear h4 f4
        obtain ⟨l2, hl2⟩ : ∃ l2, l2 = l ++ [(key, ((j : Int) : VT))] := ⟨_, rfl⟩
        rw [← hl2] at H4 hc4
        clear hl2
        by_cases hlen : l2.length = K
        · have hF : (l2.length == K) = true := by rw [beq_iff_eq]; exact hlen
          have hE : (((K : Int) - (l2.length : Int)) == 0) = true := by rw [beq_iff_eq]; omega
          have hS : ((l2.length : Int) + ((K : Int) - (l2.length : Int)) == (K : Int)) = true := by rw [beq_iff_eq]; omega
          have hS2 : (l2.length : Int) + ((K : Int) - (l2.length : Int)) = (K : Int) := by omega
          go_wp2_with fail
          refine (full_tb H4.out).mono ?_
          rw [hF]
          rintro e w5 ⟨rfl, h5, b5⟩
          have H5 := Lib.hid h5
          have HN5 := Lib.hid ((b5.block nb (Array.getElem?_eq_some_iff.1 HN4.out).1).trans HN4.out)
          have HB5 := Lib.hid (HB4.out.trans (b5.mono HB4.out.size)); clear h5 b5
          go_wp2_with fail
          refine (room_tb H5.out).mono ?_
          rintro e w6 ⟨rfl, h6, b6⟩
          have H6 := Lib.hid h6
          have HN6 := Lib.hid ((b6.block nb (Array.getElem?_eq_some_iff.1 HN5.out).1).trans HN5.out)
          have HB6 := Lib.hid (HB5.out.trans (b6.mono HB5.out.size)); clear h6 b6
          go_wp2_with fail
          refine (len_tb H6.out).mono ?_
          rintro e w7 ⟨rfl, rfl⟩
          go_wp2_with fail
          refine (room_tb H6.out).mono ?_
          rintro e w7 ⟨rfl, h7, b7⟩
          have H7 := Lib.hid h7
          have HN7 := Lib.hid ((b7.block nb (Array.getElem?_eq_some_iff.1 HN6.out).1).trans HN6.out)
          have HB7 := Lib.hid (HB6.out.trans (b7.mono HB6.out.size)); clear h7 b7
          go_wp2_with fail
          go_roundw
          case rel => exact ⟨j + 1, l2, by omega, by go_num, H7.out, HN7.out, HB7.out⟩
          case measure => simp [intOf]; omega
        · have hF : (l2.length == K) = false := by rw [beq_eq_false_iff_ne]; exact hlen
          have hE : (((K : Int) - (l2.length : Int)) == 0) = false := by rw [beq_eq_false_iff_ne]; omega
          have hS : ((l2.length : Int) + ((K : Int) - (l2.length : Int)) == (K : Int)) = true := by rw [beq_iff_eq]; omega
          have hS2 : (l2.length : Int) + ((K : Int) - (l2.length : Int)) = (K : Int) := by omega
          go_wp2_with fail
          refine (full_tb H4.out).mono ?_
          rw [hF]
          rintro e w5 ⟨rfl, h5, b5⟩
          have H5 := Lib.hid h5
          have HN5 := Lib.hid ((b5.block nb (Array.getElem?_eq_some_iff.1 HN4.out).1).trans HN4.out)
          have HB5 := Lib.hid (HB4.out.trans (b5.mono HB4.out.size)); clear h5 b5
          go_wp2_with fail
          refine (room_tb H5.out).mono ?_
          rintro e w6 ⟨rfl, h6, b6⟩
          have H6 := Lib.hid h6
          have HN6 := Lib.hid ((b6.block nb (Array.getElem?_eq_some_iff.1 HN5.out).1).trans HN5.out)
          have HB6 := Lib.hid (HB5.out.trans (b6.mono HB5.out.size)); clear h6 b6
          go_wp2_with fail
          refine (len_tb H6.out).mono ?_
          rintro e w7 ⟨rfl, rfl⟩
          go_wp2_with fail
          refine (room_tb H6.out).mono ?_
          rintro e w7 ⟨rfl, h7, b7⟩
          have H7 := Lib.hid h7
          have HN7 := Lib.hid ((b7.block nb (Array.getElem?_eq_some_iff.1 HN6.out).1).trans HN6.out)
          have HB7 := Lib.hid (HB6.out.trans (b7.mono HB6.out.size)); clear h7 b7
          go_wp2_with fail
          go_roundw
          case rel => exact ⟨j + 1, l2, by omega, by go_num, H7.out, HN7.out, HB7.out⟩
          case measure => simp [intOf]; omega
    · obtain rfl : j = R := by omega
      clear hT hN hB
      go_wp2_with fail
      refine (len_tb HT.out).mono ?_
      rintro e w5 ⟨rfl, rfl⟩
      have hle : (l.length : Int) ≤ (K : Int) := by omega
      go_wp2_with fail
      go_ret
      exact ⟨rfl, HB.out⟩
end Go.Proofs.Ytigjegcpibadnaa
