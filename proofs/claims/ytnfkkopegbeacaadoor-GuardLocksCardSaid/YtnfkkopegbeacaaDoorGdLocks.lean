/- guard: the statement GuardLocks' own text, walked. -/
import Derived.Test.YtnfkkopegbeacaaDoorGdGops
set_option maxRecDepth 100000
namespace Go.Proofs.YtnfkkopegbeacaaDoor
open Go.RowKit Go.Shelf
/-- Behind j failures: nobody, or me and some others, my lock over. -/
def lk (ns : List (List UInt8)) (j : Nat) (nw : Int) (l : List (List UInt8 × VT)) : Prop := (j = 0 ∧ l = []) ∨ ∃ vm, GI ns l vm ∧ vm.f = (j : Int) ∧ vm.u ≤ nw
theorem lk_enter {ns : List (List UInt8)} {j : Nat} {nw : Int} {l : List (List UInt8 × VT)} (h : lk ns j nw l) : ∃ vm l1, enterL l sM nw = (0, l1) ∧ GI ns l1 vm ∧ vm.f = (j : Int) ∧ vm.u ≤ nw ∧ (getL l sM = none → l.length ≠ 8) := by
  rcases h with ⟨rfl, rfl⟩ | ⟨vm, h, hf, hu⟩
  · refine ⟨⟨sM, 0, nw, nw⟩, [(sM, ⟨sM, 0, nw, nw⟩)], enterL_nil _ _ src_m, ⟨?_, ?_, getL_one _ _⟩, rfl, Int.le_refl _, by simp⟩
    · intro p hp; rw [List.mem_singleton.1 hp]; exact List.mem_cons_self ..
    · intro p hp; rw [List.mem_singleton.1 hp]; simp
  · refine ⟨vm, l, ?_, h, hf, hu, fun h2 => by rw [h.me] at h2; cases h2⟩
    rw [h.enterM, if_neg (by omega)]
theorem enter_r {w : World} {base G T m cap : Nat} {b mo ho : Int} {l : List (List UInt8 × VT)} (h : GD w base G T m cap b mo ho l) (s : List UInt8) (now : Int) (hs : s.length ≤ 600) (hT : tabsOK w) (hroom : getL l s = none → l.length ≠ cap) {r : Int} (he : enterL l s now = (r, l)) :
    Calls Tryd.prog 9 #[tP G, strT s, u64v now] w fun e w' => e = .returned (.int .i64 r) ∧ GD w' base G T m cap b mo ho l ∧ Below base w w' := enter_s h s now hs hT hroom he
set_option maxHeartbeats 4000000 in
theorem guardLocks_law (B : Nat) (u1 u2 u3 : Int) (v : Value) (ls : List (UInt8 × List UInt8)) (w : World) (h1 : 0 ≤ u1 ∧ u1 ≤ 65535) (h2 : 0 ≤ u2 ∧ u2 ≤ 65535) (h3 : 0 ≤ u3 ∧ u3 ≤ 255) (hs : GOps w B v ls) (hB : B ≤ w.heap.size) (hT : tabsOK w) :
    Calls Tryd.prog 3 #[.int .u16 u1, .int .u16 u2, .int .u8 u3, v] w fun e w' => e = .returned (.bool true) ∧ Below w.heap.size w w' := by
  have HT := Lib.hid hT; clear hT
  obtain ⟨A, c, rfl, hl1, hl2, hl3⟩ := hs
  have HL := Lib.hid hl3; clear hl3
  obtain ⟨b, hb⟩ : ∃ b, b = 1 + u1 % 50 := ⟨_, rfl⟩
  obtain ⟨m, hm⟩ : ∃ m, m = 1 + u2 := ⟨_, rfl⟩
  obtain ⟨K, hK⟩ : ∃ K : Nat, (K : Int) = 1 + u3 % 20 := ⟨(1 + u3 % 20).toNat, by omega⟩
  have hb1 : 1 ≤ b := by omega
  have hb2 : b ≤ 50 := by omega
  have hm1 : 1 ≤ m := by omega
  have hm2 : m ≤ 65536 := by omega
  have hK1 : 1 ≤ K := by omega
  have hK2 : K ≤ 20 := by omega
  have hr1 : 0 ≤ u1 % 50 ∧ u1 % 50 < 50 := by omega
  have hr3 : 0 ≤ u3 % 20 ∧ u3 % 20 < 20 := by omega
  have htm : tI m = m := tI_id (by omega)
  obtain ⟨ns, hns⟩ : ∃ ns, ns = (ls.take 5).map (fun x => 111 :: x.2.take 20) := ⟨_, rfl⟩
  have hnl : ns.length ≤ 5 := by rw [hns, List.length_map, List.length_take]; omega
  have HNS : Hid (∀ (j : Nat) (h : j < ls.length), j < 5 → (111 :: ls[j].2.take 20) ∈ ns) := Lib.hid (fun j h h5 => by
    rw [hns]
    refine List.mem_map.2 ⟨ls[j], ?_, rfl⟩
    rw [List.mem_take_iff_getElem]
    exact ⟨j, by omega, rfl⟩)
  clear hns
  have HB := Lib.hid hb; clear hb
  have HM := Lib.hid hm; clear hm
  have HK := Lib.hid hK; clear hK
  have HTM := Lib.hid htm; clear htm
  go_enter Tryd.func3, Tryd.ntmps3
  go_wp2_with fail
  refine (awake13 w HT.out).mono ?_
  rintro e w1 ⟨rfl, hB1⟩
  have HB1 := Lib.hid hB1; clear hB1
  go_wp2_with fail
  rw [← HB.out, ← HM.out]
  refine (new_gd 8 b m 1099511627776 w1 (by omega) (by omega) (by omega) (by omega) (by omega) (by omega) (by omega) (by omega)).mono ?_
  rintro e w2 ⟨G, T, mm, rfl, h2, b2⟩
  have H2 := Lib.hid h2; have HB2 := Lib.hid (HB1.out.trans (b2.mono HB1.out.size)); clear h2 b2
  have HW1 := Lib.hid HB1.out.size
  go_wp2_with fail
  go_loopw [13, 14] (fun nv kv wr => ∃ (j : Nat) (nw : Int) (q : List (List UInt8 × VT)), j ≤ K ∧ kv = .int .i64 ((j : Int) + 1) ∧ nv = u64v nw ∧ 0 ≤ nw ∧ nw ≤ 65536 * (j : Int) ∧ lk ns j nw q ∧ GD wr w1.heap.size G T mm 8 b m 1099511627776 q ∧ Below w.heap.size w wr) (fun _ kv _ => K + 1 - (intOf kv).toNat)
  case atStart => exact ⟨0, 0, [], by omega, rfl, rfl, by omega, by omega, .inl ⟨rfl, rfl⟩, H2.out, HB2.out⟩
  case round =>
    obtain ⟨j, nw, q, hj, rfl, rfl, hn0, hn1, hst, hg, hbw⟩ := hrel
    have HG := Lib.hid hg
    have HBW := Lib.hid hbw
    clear hg hbw
    obtain ⟨vm, q1, hen, hgi, hvf, hvu, hroom⟩ := lk_enter hst
    clear hst
    have HGI := Lib.hid hgi; clear hgi
    have hKe := HK.out
    by_cases hlt : j < K
    · go_wp2_with fail
      refine (enter_s HG.out sM nw (by simp) (Utf8Tabs_below HT.out HBW.out) hroom hen).mono ?_
      rintro e w4 ⟨rfl, h4, b4⟩
      have H4 := Lib.hid h4; have HB4 := Lib.hid (HBW.out.trans (b4.mono HW1.out)); clear h4 b4 hroom hen
      obtain ⟨q2, hfq, hgi2⟩ := HGI.out.failM (b := b) (mo := m) (now := nw)
      have hfm := fail_gd H4.out sM nw (by simp) (Utf8Tabs_below HT.out HB4.out) (by omega) (by omega) (by omega) (by omega) hn0 (by omega) (fun v hv => HGI.out.rng _ (getL_mem _ hv))
      rw [hfq] at hfm
      go_wp2_with fail
      refine hfm.mono ?_
      rintro e w5 ⟨rfl, h5, b5⟩
      have H5 := Lib.hid h5; have HB5 := Lib.hid (HB4.out.trans (b5.mono HW1.out)); clear h5 b5 hfm hfq
      obtain ⟨W, hW⟩ : ∃ W, W = wI b m (j + 1) := ⟨_, rfl⟩
      have hW0 := wI_pos (b := b) (m := m) hb1 hm1 (j + 1)
      have hW1 := wI_le (b := b) (m := m) (j + 1)
      rw [← hW] at hW0 hW1
      obtain ⟨v2, hv2⟩ : ∃ v2, v2 = fe b m vm nw := ⟨_, rfl⟩
      have hv2f : v2.f = ((j + 1 : Nat) : Int) := by rw [hv2, fe_f, hvf]; omega
      have hv2u : v2.u = nw + W := by
        rw [hv2, fe_u, HTM.out, hvf, show exN (min ((j : Int) + 1) 60) = j + 1 by unfold exN; omega, ← hW]
        exact aftL_small hn0 (by omega) (by omega)
      rw [← hv2] at hgi2
      have HG2 := Lib.hid hgi2
      have HWE : Hid (wI b (tI m) (exN ((j : Int) + 1)) = W) := Lib.hid (by rw [HTM.out, hW, show exN ((j : Int) + 1) = j + 1 by unfold exN; omega])
      clear hgi2 hv2 hW HGI hvf hvu
      go_wp2_with fail
      refine (refWait_any b m ((j : Int) + 1) w5 (by omega) (by omega) (by omega) (by omega) (by omega) (by omega)).mono ?_
      rintro e w6 ⟨rfl, rfl⟩
      rw [HWE.out]
      go_wp2_with fail
      go_loopw [61] (fun i wr => ∃ (x : Nat) (q : List (List UInt8 × VT)), x ≤ ls.length ∧ i = .int .i64 (x : Int) ∧ GI ns q v2 ∧ GD wr w1.heap.size G T mm 8 b m 1099511627776 q ∧ Below w.heap.size w wr) (fun i _ => ls.length - (intOf i).toNat)
      case atStart => exact ⟨0, q2, by omega, rfl, HG2.out, H5.out, HB5.out⟩
      case round =>
        obtain ⟨x, q3, hx, rfl, hgi, hg, hbw⟩ := hrel
        have HGI := Lib.hid hgi
        have HGD := Lib.hid hg
        have HBD := Lib.hid hbw
        clear hgi hg hbw
        by_cases hlt2 : x < ls.length
        · obtain ⟨bb, o, rfl, hbb, hall⟩ := HL.out (by omega)
          obtain ⟨c0, c1, ⟨t, c2⟩, hsl⟩ := hall x hlt2
          have hmem := HNS.out x hlt2
          obtain ⟨y, hy⟩ : ∃ y, y = ls[x] := ⟨_, rfl⟩
          rw [← hy] at c0 c1 hsl hmem
          clear hy hall
          obtain ⟨d0, s0⟩ := y
          simp only at c0 c1 hsl hmem
          obtain ⟨d, hd⟩ : ∃ d, d = bn d0 := ⟨_, rfl⟩
          have hdr := bn_range d0
          have hvb : vb d0 = .int .u8 d := by rw [hd]
          rw [hvb] at c0
          rw [← hd] at hdr
          clear hd hvb
          have k0 := (HBD.out.cell (p := ⟨bb, o + x * 3, none⟩) (by show bb < w.heap.size; omega)).trans c0
          have k1 := (HBD.out.cell (p := ⟨bb, o + x * 3 + 1, none⟩) (by show bb < w.heap.size; omega)).trans c1
          have k2 := (HBD.out.cell (p := ⟨bb, o + x * 3 + 2, none⟩) (by show bb < w.heap.size; omega)).trans c2
          clear c0 c1 c2
          obtain ⟨Y, hY⟩ : ∃ Y, Y = wr.alloc (.cells #[.int .u8 d, strT s0, .int .u32 t] 36) := ⟨_, rfl⟩
          have hgY : GD Y w1.heap.size G T mm 8 b m 1099511627776 q3 := by rw [hY]; exact HGD.out.keep ((Below.refl _ _).alloc (Nat.le_refl _) _)
          have hbY : Below w.heap.size w Y := by rw [hY]; exact HBD.out.alloc HBD.out.size _
          have HGY := Lib.hid hgY; clear hgY
          have HBY := Lib.hid hbY; clear hbY
          by_cases hx5 : x < 5
          · have hne : sM ≠ 111 :: s0.take 20 := by intro e; injection e with e1; exact absurd e1 (by decide)
            have hsn := hmem hx5
            have hslen : (111 :: s0.take 20).length ≤ 600 := by rw [List.length_cons, List.length_take]; omega
            clear hmem
            have hcat : (ByteArray.mk #[111] ++ ByteArray.mk (s0.take 20).toArray) = ByteArray.mk (111 :: s0.take 20).toArray := by
              apply ByteArray.ext
              simp [ByteArray.data_append]
            by_cases hd2 : d % 2 = 0
            · go_wp2_with fail
              rw [← hY]
              refine (cutText_any s0 20 Y hsl (by omega) (by omega)).mono ?_
              rintro e w7 ⟨rfl, rfl⟩
              go_wp2_with fail
              rw [← hY]
              refine (enter_gd HGY.out (111 :: s0.take 20) nw hslen (Utf8Tabs_below HT.out HBY.out) (fun _ => by have := HGI.out.room HGY.out hnl; omega)).mono ?_
              rintro e w8 ⟨rfl, h8, b8⟩
              have H8 := Lib.hid h8; have HB8 := Lib.hid (HBY.out.trans (b8.mono HW1.out)); have HG8 := Lib.hid (HGI.out.enterO (now := nw) hsn hne); clear h8 b8
              clear hY HGI HGD HBD HGY HBY
              go_wp2_with fail
              go_roundw
              case rel => exact ⟨x + 1, _, by omega, by go_num, HG8.out, H8.out, HB8.out⟩
              case measure => simp [intOf]; omega
            · go_wp2_with fail
              rw [← hY]
              refine (cutText_any s0 20 Y hsl (by omega) (by omega)).mono ?_
              rintro e w7 ⟨rfl, rfl⟩
              go_wp2_with fail
              rw [← hY]
              refine (fail_gd HGY.out (111 :: s0.take 20) nw hslen (Utf8Tabs_below HT.out HBY.out) (by omega) (by omega) (by omega) (by omega) hn0 (by omega) (fun v hv => HGI.out.rng _ (getL_mem _ hv))).mono ?_
              rintro e w8 ⟨rfl, h8, b8⟩
              have H8 := Lib.hid h8; have HB8 := Lib.hid (HBY.out.trans (b8.mono HW1.out)); have HG8 := Lib.hid (HGI.out.failO (b := b) (mo := m) (now := nw) hne); clear h8 b8
              clear hY HGI HGD HBD HGY HBY
              go_wp2_with fail
              go_roundw
              case rel => exact ⟨x + 1, _, by omega, by go_num, HG8.out, H8.out, HB8.out⟩
              case measure => simp [intOf]; omega
          · go_wp2_with fail
            rw [← hY]
            go_roundw
            case rel => exact ⟨x + 1, _, by omega, by go_num, HGI.out, HGY.out, HBY.out⟩
            case measure => simp [intOf]; omega
        · have ho1 := HGI.out.enterM (now := nw)
          have ho2 := HGI.out.enterM (now := nw + W - 1)
          rw [if_pos (by omega)] at ho1 ho2
          go_wp2_with fail
          refine (enter_r HGD.out sM nw (by simp) (Utf8Tabs_below HT.out HBD.out) (fun h => by rw [HGI.out.me] at h; cases h) ho1).mono ?_
          rintro e w8 ⟨rfl, h8, b8⟩
          have H8 := Lib.hid h8; have HB8 := Lib.hid (HBD.out.trans (b8.mono HW1.out)); clear h8 b8
          go_wp2_with fail
          refine (enter_r H8.out sM (nw + W - 1) (by simp) (Utf8Tabs_below HT.out HB8.out) (fun h => by rw [HGI.out.me] at h; cases h) ho2).mono ?_
          rintro e w9 ⟨rfl, h9, b9⟩
          have H9 := Lib.hid h9; have HB9 := Lib.hid (HB8.out.trans (b9.mono HW1.out)); clear h9 b9 ho1 ho2
          go_wp2_with fail
          go_roundw
          case rel => exact ⟨j + 1, nw + W, q3, by omega, by go_num, by first | rfl | go_num, by omega, by omega, .inr ⟨v2, HGI.out, hv2f, by omega⟩, H9.out, HB9.out⟩
          case measure => simp [intOf]; omega
    · have hlo := HGI.out.lockM (now := nw)
      rw [decide_eq_false (by omega)] at hlo
      go_wp2_with fail
      refine (enter_s HG.out sM nw (by simp) (Utf8Tabs_below HT.out HBW.out) hroom hen).mono ?_
      rintro e w4 ⟨rfl, h4, b4⟩
      have H4 := Lib.hid h4; have HB4 := Lib.hid (HBW.out.trans (b4.mono HW1.out)); clear h4 b4 hroom hen
      go_wp2_with fail
      refine (locked_gd H4.out sM nw (by simp)).mono ?_
      rintro e w5 ⟨rfl, b5⟩
      rw [hlo]
      have HB5 := Lib.hid (HB4.out.trans (b5.mono HB4.out.size)); clear b5
      go_wp2_with fail
      go_ret
      exact ⟨rfl, HB5.out⟩
end Go.Proofs.YtnfkkopegbeacaaDoor
