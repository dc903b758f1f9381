/- The statement HmacStreams' own text, walked. -/
import Derived.Test.YtjaclccjccjljaaDoorHmRefS
import Derived.Test.YtjaclccjccjljaaDoorWh
import Derived.Test.YtjaclccjccjljaaDoorNewer
import Derived.Test.YtjaclccjccjljaaDoorFlip
namespace Go.Proofs.YtjaclccjccjljaaDoor
open Go.RowKit
/-- The first k parts, at most four, cut, together. -/
def cat4 (ls : List (List UInt8)) (n k : Nat) : List UInt8 := (((ls.take k).take 4).map (·.take n)).flatten
theorem cat4_zero (ls : List (List UInt8)) (n : Nat) : cat4 ls n 0 = [] := rfl
theorem cat4_lo (ls : List (List UInt8)) (n k : Nat) (hk : k < ls.length) (h6 : k < 4) : cat4 ls n (k + 1) = cat4 ls n k ++ (ls[k]).take n := by
  unfold cat4
  rw [List.take_take, List.take_take, Nat.min_eq_right (by omega), Nat.min_eq_right (by omega), List.take_succ_eq_append_getElem hk, List.map_append, List.flatten_append]; simp
theorem cat4_len (ls : List (List UInt8)) (n k : Nat) : (cat4 ls n k).length ≤ n * 4 := by
  unfold cat4
  have h := flatten_le n (((ls.take k).take 4).map (·.take n)) (fun x hx => by
    rw [List.mem_map] at hx
    obtain ⟨y, _, rfl⟩ := hx
    exact List.length_take_le _ _)
  have h2 : (((ls.take k).take 4).map (·.take n)).length ≤ 4 := by simp; omega
  exact Nat.le_trans h (Nat.mul_le_mul (Nat.le_refl _) h2)
attribute [irreducible] cat4
/-- The Mac at g holds the message m, and so does the slice u; the rest is as it was. -/
structure Ms (w5 : World) (base g : Nat) (a : List UInt8) (bi bo b2 bt : Nat) (u : Value) (m q : List UInt8) (W : World) : Prop where
  mac : MacK W base g a bi bo (ptr bt)
  txt : HashM W bt (maskL 54 (padK a) ++ m)
  lt : base ≤ bt
  n1 : bt ≠ g
  n2 : bt ≠ bi
  n3 : bt ≠ bo
  all : OwnB W b2 u q
  low : Below base w5 W
  g2 : g < b2
  i2 : bi < b2
  o2 : bo < b2
  t2 : bt < b2
  sz : b2 ≤ W.heap.size
  bs : base ≤ w5.heap.size
theorem MacK.row2 {w w' : World} {base g : Nat} {key : List UInt8} {bi bo : Nat} {t : Value} {row : Option Nat} (h : MacK w base g key bi bo t) (hg : w.grownBy w' row) (n1 : some g ≠ row) (n2 : some bi ≠ row) (n3 : some bo ≠ row) : MacK w' base g key bi bo t :=
  ⟨h.blk.grown hg n1, h.hi.grown hg n2, h.ho.grown hg n3, h.lg, h.li, h.lo, h.ni, h.no, h.tp⟩
/-- A row that was made later, or the text's own, turns. -/
theorem Ms.keep {w5 : World} {base g : Nat} {a : List UInt8} {bi bo b2 bt : Nat} {u : Value} {m q : List UInt8} {W W' : World} {row : Option Nat} (h : Ms w5 base g a bi bo b2 bt u m q W) (hg : W.grownBy W' row) (h1 : u.ownBlock = none ∨ u.ownBlock ≠ row) (h2 : ∀ j, row = some j → b2 ≤ j) : Ms w5 base g a bi bo b2 bt u m q W' :=
  ⟨h.mac.row2 hg (fun e => by have := h2 g e.symm; have := h.g2; omega) (fun e => by have := h2 bi e.symm; have := h.i2; omega) (fun e => by have := h2 bo e.symm; have := h.o2; omega), h.txt.grown hg (fun e => by have := h2 bt e.symm; have := h.t2; omega), h.lt, h.n1, h.n2, h.n3, h.all.kept hg h1, h.low.grown hg (by have := h.low.size; have := h.bs; omega) (fun j e => by have := h2 j e; have := h.t2; have := h.lt; omega), h.g2, h.i2, h.o2, h.t2, Nat.le_trans h.sz hg.size, h.bs⟩
theorem Ms.on {w5 : World} {base g : Nat} {a : List UInt8} {bi bo b2 bt : Nat} {u : Value} {m q : List UInt8} {W W' : World} (h : Ms w5 base g a bi bo b2 bt u m q W) (hb : Below W.heap.size W W') : Ms w5 base g a bi bo b2 bt u m q W' :=
  h.keep (grown_of_below hb none) (by cases u.ownBlock <;> simp) (fun j e => by cases e)
/-- The slice was appended to. -/
theorem Ms.app {w5 : World} {base g : Nat} {a : List UInt8} {bi bo b2 bt : Nat} {u u' : Value} {m q q' : List UInt8} {W W' : World} (h : Ms w5 base g a bi bo b2 bt u m q W) (hg : W.grownBy W' u.ownBlock) (hv : OwnB W' b2 u' q') : Ms w5 base g a bi bo b2 bt u' m q' W' := by
  have h2 : ∀ j, u.ownBlock = some j → b2 ≤ j := fun j e => (h.all.lt j e).1
  exact ⟨h.mac.row2 hg (fun e => by have := h2 g e.symm; have := h.g2; omega) (fun e => by have := h2 bi e.symm; have := h.i2; omega) (fun e => by have := h2 bo e.symm; have := h.o2; omega), h.txt.grown hg (fun e => by have := h2 bt e.symm; have := h.t2; omega), h.lt, h.n1, h.n2, h.n3, hv, h.low.grown hg (by have := h.low.size; have := h.bs; omega) (fun j e => by have := h2 j e; have := h.t2; have := h.lt; omega), h.g2, h.i2, h.o2, h.t2, Nat.le_trans h.sz hg.size, h.bs⟩
/-- The Mac was written to. -/
theorem Ms.wrote {w5 : World} {base g : Nat} {a : List UInt8} {bi bo b2 bt : Nat} {u : Value} {m m' q : List UInt8} {W W' : World} (h : Ms w5 base g a bi bo b2 bt u m q W) (hg : W.grownBy W' (some bt)) (hx : HashM W' bt (maskL 54 (padK a) ++ m')) : Ms w5 base g a bi bo b2 bt u m' q W' :=
  ⟨h.mac.grown hg h.n1 h.n2 h.n3, hx, h.lt, h.n1, h.n2, h.n3, h.all.kept hg (h.all.newer h.t2), h.low.grown hg (by have := h.low.size; have := h.bs; omega) (fun j e => by cases e; exact h.lt), h.g2, h.i2, h.o2, h.t2, Nat.le_trans h.sz hg.size, h.bs⟩
theorem reset_nil (w : World) : Calls Tryd.prog 18 #[.pointer none] w fun e w' => e = .returned (.tuple #[]) ∧ w = w' := by
  go_enter Tryd.func18, Tryd.ntmps18
  go_wp2_with fail
  exact bodyPost_ret (results_none rfl _ _ _) rfl ⟨rfl, rfl⟩
theorem macWrite_nil (v : Value) (w : World) : Calls Tryd.prog 16 #[.pointer none, v] w fun e w' => e = .returned (.int .i64 0) ∧ w = w' := by
  go_enter Tryd.func16, Tryd.ntmps16
  go_wp2_with fail
  go_ret
  exact ⟨rfl, rfl⟩
theorem macSum_nil (w : World) : Calls Tryd.prog 17 #[.pointer none] w fun e w' => e = .returned (.slice none 0 0) ∧ w = w' := by
  go_enter Tryd.func17, Tryd.ntmps17
  go_wp2_with fail
  go_ret
  exact ⟨rfl, rfl⟩
theorem meas_two (i : Nat) (h : i < 2) : 2 - (intOf (.int .i64 ((i : Int) + 1))).toNat < 2 - (intOf (.int .i64 (i : Int))).toNat := by
  show 2 - ((i : Int) + 1).toNat < 2 - (i : Int).toNat
  omega
set_option maxRecDepth 100000 in
set_option maxHeartbeats 4000000 in
theorem hmacStreams_law (B : Nat) (v0 v : Value) (l0 : List UInt8) (ls : List (List UInt8)) (w : World) (h0 : Sl w B v0 l0) (hs0 : Sls w B v ls) (hB0 : B ≤ w.heap.size) (hT : TabA w) (hU : TabB w) :
    Calls Tryd.prog 4 #[v0, v] w fun e w' => e = .returned (.bool true) ∧ Below w.heap.size w w' := by
  have hs := hs0.more hB0
  have H0 := Lib.hid (h0.more hB0)
  clear hs0 h0 hB0
  have hG := tab_lt hT
  have hG2 : 1 < w.heap.size := World.block_lt_of_cell? w _ (hU 0 (by decide))
  have HT := Lib.hid hT; clear hT
  have HU := Lib.hid hU; clear hU
  obtain ⟨A, c, rfl, k1, k2, k3⟩ := hs
  have H3 := Lib.hid k3; clear k3
  go_enter Tryd.func4, Tryd.ntmps4
  go_wp2_with fail
  refine (awake2 w HT.out).mono ?_
  rintro e w1 ⟨rfl, hB1⟩
  have HB1 := Lib.hid hB1; clear hB1
  have hy1 := HB1.out.size
  go_wp2_with fail
  refine (cut_any w.heap.size v0 l0 150 w1 (H0.out.below HB1.out (Nat.le_refl _)) hy1 (by omega) (by omega)).mono ?_
  rintro e w2 ⟨a1, rfl, hO, hB2⟩
  obtain ⟨a, ha⟩ : ∃ a, a = l0.take (150 : Int).toNat := ⟨_, rfl⟩
  rw [← ha] at hO
  have hla : a.length ≤ 150 := by rw [ha, List.length_take]; omega
  clear ha
  have HA := Lib.hid hO.sl; clear hO
  have HB2 := Lib.hid (HB1.out.trans (hB2.mono hy1)); clear hB2
  have hy2 := HB2.out.size
  go_wp2_with fail
  refine (copy_any w2.heap.size a1 a w2 HA.out (Nat.le_refl _) (by omega)).mono ?_
  rintro e w3 ⟨a2, rfl, hO, hB3⟩
  have HM := Lib.hid hO; clear hO
  have HA3 := Lib.hid (HA.out.below hB3 (Nat.le_refl _))
  have hyw : w2.heap.size ≤ w3.heap.size := hB3.size
  have HB3 := Lib.hid (HB2.out.trans (hB3.mono hy2)); clear hB3
  have hy3 := HB3.out.size
  go_wp2_with fail
  refine (macNew_any a2 a w3 HM.out.sl (by omega) (HT.out.below HB3.out hG)).mono ?_
  rintro e w4 ⟨g, bi, bo, bt0, rfl, hK, hX, hb1, hb2, hb3, hb4, hB4⟩
  obtain ⟨base, hbase⟩ : ∃ b, b = w3.heap.size := ⟨_, rfl⟩
  have HM4 := Lib.hid (HM.out.below hB4)
  have HA4 := Lib.hid (HA3.out.below hB4 hyw)
  have hsz4 := hB4.size
  have HB4 := Lib.hid (HB3.out.trans (hB4.mono hy3)); clear hB4
  rw [← hbase] at hK hb1 hsz4
  have hown : ∀ k, a2.ownBlock = some k → w2.heap.size ≤ k ∧ k < base := fun k e => by have := HM.out.lt k e; omega
  have HOWN := Lib.hid hown; clear hown
  have HK := Lib.hid hK; clear hK
  have HX := Lib.hid hX; clear hX
  go_wp2_with fail
  refine (flip_any w2.heap.size a2 a w4 HM4.out (by omega)).mono ?_
  rintro e w5 ⟨rfl, hg5⟩
  have hne : ∀ j, base ≤ j → some j ≠ a2.ownBlock := fun j hj e => by have := HOWN.out j e.symm; omega
  have HK5 := Lib.hid (HK.out.row2 hg5 (hne _ HK.out.lg) (hne _ HK.out.li) (hne _ HK.out.lo))
  have HX5 := Lib.hid (HX.out.grown hg5 (hne _ hb1))
  have hA5 : Sl w5 w2.heap.size a1 a := HA4.out.below ((Below.refl w2.heap.size w4).grown hg5 (by omega) (fun j e => (HOWN.out j e).1)) (Nat.le_refl _)
  have HA5 := Lib.hid hA5; clear hA5
  have HB5 := Lib.hid (HB4.out.grown hg5 HB4.out.size (fun j e => by have := (HOWN.out j e).1; omega))
  have hsz5 : base ≤ w5.heap.size := Nat.le_trans hsz4 hg5.size
  have hgl := HK5.out.blk.lt
  have hil := HK5.out.hi.lt
  have hol := HK5.out.ho.lt
  clear hg5 hne HM4 HA4 HK HX HOWN HM
  have hbw : w2.heap.size ≤ base := by omega
  have hww : w.heap.size ≤ base := by omega
  clear hbase
  go_wp2_with fail
  go_loopw [7, 8, 9, 21, 25] (fun _ _ _ i _ wr => ∃ (j bt : Nat), j ≤ 2 ∧ i = .int .i64 j ∧ MacK wr base g a bi bo (ptr bt) ∧ HashM wr bt (maskL 54 (padK a)) ∧ base ≤ bt ∧ bt ≠ g ∧ bt ≠ bi ∧ bt ≠ bo ∧ Below base w5 wr) (fun _ _ _ i _ _ => 2 - (intOf i).toNat)
  case atStart => exact ⟨0, bt0, by omega, rfl, HK5.out, HX5.out, hb1, hb2, hb3, hb4, Below.refl _ _⟩
  case round =>
    obtain ⟨j, bt, hj, rfl, hK, hX, e1, e2, e3, e4, hBl⟩ := hrel
    obtain ⟨wo, hwo⟩ : ∃ wo, wo = wr := ⟨_, rfl⟩
    subst hwo
    have hMs : Ms w5 base g a bi bo wo.heap.size bt (.slice none 0 0) [] [] wo :=
      ⟨hK, by rw [List.append_nil]; exact hX, e1, e2, e3, e4, OwnB.nil _ _, hBl, hK.blk.lt, hK.hi.lt, hK.ho.lt, hX.lt, Nat.le_refl _, hsz5⟩
    have HMs := Lib.hid hMs; clear hMs
    have HK := Lib.hid hK; clear hK
    have HX := Lib.hid hX; clear hX
    have HBl := Lib.hid hBl; clear hBl
    have HBo := Lib.hid (HB5.out.trans (HBl.out.mono hww))
    have hzo := HBo.out.size
    have hzb : base ≤ wo.heap.size := by have := HBl.out.size; omega
    by_cases hlt : j < 2
    · have hlt2 : (j : Int) < 2 := by omega
      go_wp2_with fail
      go_loopw [7, 8, 9, 25] (fun u _ _ i wr => ∃ k : Nat, k ≤ ls.length ∧ k ≤ 4 ∧ i = .int .i64 k ∧ Ms w5 base g a bi bo wo.heap.size bt u (cat4 ls 100 k) (cat4 ls 100 k) wr) (fun _ _ _ i _ => ls.length - (intOf i).toNat)
      case atStart => exact ⟨0, by omega, by omega, rfl, by rw [cat4_zero]; exact HMs.out⟩
      case round =>
        obtain ⟨k, hk, hk4, rfl, hms⟩ := hrel
        have HMk := Lib.hid hms; clear hms
        have HBk := Lib.hid (HB5.out.trans (HMk.out.low.mono hww))
        have hzk := HBk.out.size
        by_cases hlk : k < ls.length
        · obtain ⟨b, o, rfl, hb, hx⟩ := H3.out (by omega)
          obtain ⟨vj, hc, hsl⟩ := hx k hlk
          have hcell : wr.cell? ⟨b, o + k, none⟩ = some vj := (HBk.out.cell (p := ⟨b, o + k, none⟩) hb).trans hc
          have HSL := Lib.hid (hsl.below HBk.out (Nat.le_refl _))
          clear hx hc hsl
          by_cases h4 : k < 4
          · have h4' : (k : Int) < 4 := by omega
            have hcl := cat4_lo ls 100 k hlk h4
            have hml := cat4_len ls 100 k
            obtain ⟨m, hm⟩ : ∃ m, m = cat4 ls 100 k := ⟨_, rfl⟩
            rw [← hm] at HMk hcl hml
            have HCL := Lib.hid hcl; clear hcl hm
            go_wp2_with fail
            refine (cut_any w.heap.size vj ls[k] 100 wr HSL.out hzk (by omega) (by omega)).mono ?_
            rintro e w6 ⟨v3, rfl, hO, hB6⟩
            obtain ⟨x, hx⟩ : ∃ x, x = (ls[k]).take (100 : Int).toNat := ⟨_, rfl⟩
            have hxl : x.length ≤ 100 := by rw [hx]; exact List.length_take_le _ _
            rw [← hx] at hO
            obtain ⟨q, hq⟩ : ∃ q, q = m ++ x := ⟨_, rfl⟩
            have HF : Hid (cat4 ls 100 (k + 1) = q) := Lib.hid (by rw [HCL.out, hq, hx]; rfl)
            have hql : q.length ≤ 500 := by rw [hq, List.length_append]; omega
            have HQ := Lib.hid hq; clear hq hx
            obtain ⟨A3, c3, rfl, _⟩ := hO.sl
            have HX3 := Lib.hid hO; clear hO
            have HM6 := Lib.hid (HMk.out.on hB6)
            have hz6 := hB6.size
            clear hB6
            have hszk := HMk.out.sz
            go_wp2_with (at_builtin; ((with_reducible refine wpList_app_at ?b1 (.tmp 34) (.tmp 35) ?b2 wo.heap.size u7 m x ?b3 HM6.out.all _ (.slice A3 x.length c3) ?b5 HX3.out.sl ?b6 ?b7 ?_); (case b1 => rfl); (case b2 => rfl); (case b3 => rfl); (case b5 => rfl); (case b6 => omega); (case b7 => omega); intro u4 w7 hv4 hg4 hat4; have HV4 := Lib.hid hv4; have HG4 := Lib.hid hg4; have HAT := Lib.hid hat4; have hz7 := hg4.size; clear hv4 hg4 hat4))
            have HM7 := Lib.hid (HM6.out.app HG4.out (q' := q) (by rw [HQ.out]; exact HV4.out))
            have HX7 := Lib.hid (HX3.out.kept HG4.out (HX3.out.unlike' HMk.out.all (Nat.le_refl _)))
            have HB7 := Lib.hid (HB5.out.trans (HM7.out.low.mono hww))
            have hbt7 := HM7.out.t2
            have hlt7 := HM7.out.lt
            refine (macWrite_any base g a m bi bo bt A3 c3 x w7 HM7.out.mac HM7.out.txt (HX7.out.srcAt (by omega) (by omega)) (HT.out.below HB7.out hG) (by omega)).mono ?_
            rintro e w8 ⟨rfl, hX8, hg8⟩
            rw [← HQ.out] at hX8
            have HM8 := Lib.hid (HM7.out.wrote hg8 hX8)
            have HX8 := Lib.hid (HX7.out.kept hg8 (HX7.out.newer (by omega)))
            have hz8 := hg8.size
            clear hX8 hg8
            go_wp2_with fail
            refine (flip_any wr.heap.size (.slice A3 x.length c3) x w8 HX8.out (by omega)).mono ?_
            rintro e w9 ⟨rfl, hg9⟩
            have hne9 : u4.ownBlock = none ∨ u4.ownBlock ≠ (Value.slice A3 x.length c3).ownBlock := by
              rcases HAT.out with e | e
              · rw [e]; exact HMk.out.all.unlike HX3.out (Nat.le_refl _)
              · rw [e]; exact .inr fun e2 => by have := (HX3.out.lt _ e2.symm).2; omega
            have HM9 := Lib.hid (HM8.out.keep hg9 hne9 (fun j e => by have := (HX8.out.lt j e).1; omega))
            clear hg9 hne9
            have HB9 := Lib.hid (HB5.out.trans (HM9.out.low.mono hww))
            obtain ⟨y, hy⟩ : ∃ y, y = hm a q := ⟨_, rfl⟩
            have HYe := Lib.hid hy; clear hy
            go_wp2_with fail
            refine (macSum_any base g a q bi bo bt w9 HM9.out.mac HM9.out.txt (HT.out.below HB9.out hG)).mono ?_
            rintro e w10 ⟨v10, rfl, hO, hB10⟩
            rw [← HYe.out] at hO
            have HY := Lib.hid hO.sl; clear hO
            have HM10 := Lib.hid (HM9.out.on hB10); clear hB10
            have HB10 := Lib.hid (HB5.out.trans (HM10.out.low.mono hww))
            have hA10 : Sl w10 w2.heap.size a1 a := HA5.out.below HM10.out.low hbw
            have hz10 := HB10.out.size
            have hz10b := HM10.out.low.size
            have HA10 := Lib.hid (hA10.more (show w2.heap.size ≤ w10.heap.size by omega)); clear hA10
            go_wp2_with fail
            refine (refHm_any w10.heap.size a1 u4 a q w10 (HU.out.below HB10.out hG2) (by show _ < w10.heap.size; omega) HA10.out HM10.out.all.sl (Nat.le_refl _) (by omega) (by omega)).mono ?_
            rintro e w11 ⟨v11, rfl, hO, hB11⟩
            rw [← HYe.out] at hO
            have HY11 := Lib.hid hO.sl; clear hO
            have HY10 := Lib.hid (HY.out.fwd hB11)
            have HM11 := Lib.hid (HM10.out.on hB11); clear hB11
            go_wp2_with fail
            refine (same_true _ _ _ _ y w11 HY10.out HY11.out).mono ?_
            rintro e w12 ⟨rfl, rfl⟩
            go_wp2_with fail
            go_roundw
            case rel => exact ⟨k + 1, by omega, by omega, by go_num, by rw [HF.out]; exact HM11.out⟩
            case measure => exact meas_lt ls.length k hlk
          · have h4' : ¬ (k : Int) < 4 := by omega
            go_wp2_with fail
            refine (reset_any base g a bi bo (ptr bt) wr HMk.out.mac).mono ?_
            rintro e w6 ⟨rfl, hK6, hX6, hg6⟩
            have hz6 := HMk.out.low.size
            have n1 := HMk.out.mac.blk.lt
            have n2 := HMk.out.mac.hi.lt
            have n3 := HMk.out.mac.ho.lt
            have hbx := HMk.out.lt
            have hsx := HMk.out.sz
            have HK6 := Lib.hid hK6; clear hK6
            have HX6 := Lib.hid hX6; clear hX6
            have HL6 := Lib.hid (HMk.out.low.grown hg6 (by omega) (fun j e => by cases e; exact HMk.out.mac.lg)); clear hg6
            go_wp2_with fail
            go_roundw
            case rel => exact ⟨j + 1, wr.heap.size, by omega, by go_num, HK6.out, HX6.out, by omega, by omega, by omega, by omega, HL6.out⟩
            case measure => exact meas_two j hlt
        · obtain rfl : k = ls.length := by omega
          go_wp2_with fail
          refine (reset_any base g a bi bo (ptr bt) wr HMk.out.mac).mono ?_
          rintro e w6 ⟨rfl, hK6, hX6, hg6⟩
          have hz6 := HMk.out.low.size
          have n1 := HMk.out.mac.blk.lt
          have n2 := HMk.out.mac.hi.lt
          have n3 := HMk.out.mac.ho.lt
          have hbx := HMk.out.lt
          have hsx := HMk.out.sz
          have HK6 := Lib.hid hK6; clear hK6
          have HX6 := Lib.hid hX6; clear hX6
          have HL6 := Lib.hid (HMk.out.low.grown hg6 (by omega) (fun j e => by cases e; exact HMk.out.mac.lg)); clear hg6
          go_wp2_with fail
          go_roundw
          case rel => exact ⟨j + 1, wr.heap.size, by omega, by go_num, HK6.out, HX6.out, by omega, by omega, by omega, by omega, HL6.out⟩
          case measure => exact meas_two j hlt
    · obtain rfl : j = 2 := by omega
      have hA6 : Sl wo w2.heap.size a1 a := HA5.out.below HBl.out hbw
      have HA6 := Lib.hid (hA6.more (show w2.heap.size ≤ wo.heap.size by omega)); clear hA6
      obtain ⟨y, hy⟩ : ∃ y, y = hm a [] := ⟨_, rfl⟩
      have HYe := Lib.hid hy; clear hy
      go_wp2_with fail
      refine (reset_nil wo).mono ?_
      rintro e w6 ⟨rfl, rfl⟩
      go_wp2_with fail
      refine (macSum_any base g a [] bi bo bt wo HK.out (by rw [List.append_nil]; exact HX.out) (HT.out.below HBo.out hG)).mono ?_
      rintro e w7 ⟨v7, rfl, hO, hB7⟩
      rw [← HYe.out] at hO
      have HY := Lib.hid hO.sl; clear hO
      have HA7 := Lib.hid (HA6.out.fwd hB7)
      have HB7 := Lib.hid (HBo.out.trans (hB7.mono hzo)); clear hB7
      have hz7 := HB7.out.size
      go_wp2_with fail
      refine (refHm_any w7.heap.size a1 (.slice none 0 0) a [] w7 (HU.out.below HB7.out hG2) (by show _ < w7.heap.size; omega) HA7.out ⟨none, 0, rfl, fun _ => rfl, by simp, by omega, fun h => by simp at h⟩ (Nat.le_refl _) (by omega) (by simp)).mono ?_
      rintro e w8 ⟨v8, rfl, hO, hB8⟩
      rw [← HYe.out] at hO
      have HY8 := Lib.hid hO.sl; clear hO
      have HY7 := Lib.hid (HY.out.fwd hB8)
      have HB8 := Lib.hid (HB7.out.trans (hB8.mono hz7)); clear hB8
      go_wp2_with fail
      refine (same_true _ _ _ _ y w8 HY7.out HY8.out).mono ?_
      rintro e w9 ⟨rfl, rfl⟩
      go_wp2_with fail
      refine (macWrite_nil _ w8).mono ?_
      rintro e w9 ⟨rfl, rfl⟩
      go_wp2_with fail
      refine (macSum_nil w8).mono ?_
      rintro e w10 ⟨rfl, rfl⟩
      go_wp2_with fail
      go_ret
      exact ⟨rfl, HB8.out⟩
theorem hmacStreams_wf (B : Nat) (v0 : Value) (l0 : List UInt8) (v : Value) (ls : List (List UInt8)) (w : World) (h0 : Sl w B v0 l0) (hs0 : Sls w B v ls) (hB0 : B ≤ w.heap.size) (hT : TabA w) (hU : TabB w) :
    Calls Tryd.prog 4 #[v0, v] w fun e w' => e = .returned (.bool true) ∧ Below w.heap.size w w' := hmacStreams_law B v0 v l0 ls w h0 hs0 hB0 hT hU
end Go.Proofs.YtjaclccjccjljaaDoor
