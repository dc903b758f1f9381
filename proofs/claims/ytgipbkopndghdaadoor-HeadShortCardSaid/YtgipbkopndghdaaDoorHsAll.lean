/- Same of two empty heads. HeadShort's walk, given the reference's Bytes. The reference's Bytes: an error, or the bytes of whole lines. HeadShort's argument: a head. -/
import Derived.Test.YtgipbkopndghdaaDoorHsShort
import Derived.Test.YtgipbkopndghdaaDoorHsFew
import Derived.Test.YtgipbkopndghdaaDoorHsParse
import Derived.Test.YtgipbkopndghdaaDoorHsList
import Derived.Test.YtgipbkopndghdaaDoorHdAwk
import Derived.Test.YtgipbkopndghdaaDoorHsTok2
import Derived.Test.YtgipbkopndghdaaDoorHsTrim
import Derived.Deep.QuietTactic
import Derived.BigQuiet
import Derived.Deep.Cut
import Derived.Deep.DeepCutAuto
import Derived.Test.YtgipbkopndghdaaDoorHdLnR
import Derived.Test.YtgipbkopndghdaaDoorHdPrs
set_option maxRecDepth 100000
namespace Go.Proofs.YtgipbkopndghdaaDoor
open Go.RowKit Go.Shelf
set_option maxHeartbeats 1000000 in
theorem same_empty (w : World) :
    Calls Tryd.prog 12 #[.agg #[str [], str [], .int .i64 0, .slice none 0 0], .agg #[str [], str [], .int .i64 0, .slice none 0 0]] w fun e w' => e = .returned (.bool true) ∧ Below w.heap.size w w' := by
  have hb : Below w.heap.size w ((w.alloc (.cells #[str [], str [], .int .i64 0, .slice none 0 0] 24)).alloc (.cells #[str [], str [], .int .i64 0, .slice none 0 0] 24)) :=
    ((Below.refl _ w).alloc (Nat.le_refl _) _).alloc (by simp) _
  have HB := Lib.hid hb; clear hb
  go_enter Tryd.func12, Tryd.ntmps12
  go_wp2_with fail
  go_loop [37] (fun i => i = .int .i64 0) (fun _ => 0)
  case atStart => rfl
  case round =>
    obtain rfl := hrel
    go_wp2_with fail
    go_ret
    exact ⟨rfl, HB.out⟩
end Go.Proofs.YtgipbkopndghdaaDoor
set_option maxRecDepth 100000
namespace Go.Proofs.YtgipbkopndghdaaDoor
open Go.RowKit Go.Shelf
/-- What the reference's Bytes gives: an error, or the bytes of whole lines. -/
def BytesR (w : World) (e : Ending) (w' : World) : Prop :=
  Below w.heap.size w w' ∧ ((∃ x : Int, x ≠ 0 ∧ e = .returned (.tuple #[.slice none 0 0, .int .i64 x])) ∨
    ∃ g c ls, (∀ l ∈ ls, lineOk l) ∧ (flatL ls).length ≤ 4096 ∧ e = .returned (.tuple #[.slice (some ⟨g, 0, none⟩) (flatL ls).length c, .int .i64 0]) ∧ Bs w' g 0 (flatL ls) ∧ g < w'.heap.size ∧ (flatL ls).length ≤ c ∧ c ≤ 9223372036854775807)
/-- The contract of the reference's Bytes that is wanted. -/
def BytesOk : Prop := ∀ (a b : List UInt8) (st : Int) (v : Value) (xs : Prs) (asks : Bool) (W : World), PrIn W v xs → xs.length ≤ 27 → (∀ x ∈ xs, x.1.length ≤ 12 ∧ x.2.length ≤ 2000) → a.length ≤ 100 → b.length ≤ 2500 →
  Calls Tryd.prog 9 #[.agg #[str a, str b, .int .i64 st, v], .bool asks] W (BytesR W)
theorem flatL_pos (ls : List (List UInt8)) : 0 < (flatL ls).length := by cases ls <;> simp [flatL]; omega
set_option maxHeartbeats 2000000 in
theorem short_law (hBy : BytesOk) (a b : List UInt8) (st : Int) (v0 : Value) (l : Prs) (asks : Bool) (n : Int) (w : World) (hv : PrIn w v0 l) (hbig : ∀ x ∈ l, x.1.length ≤ 9223372036854775807 ∧ x.2.length ≤ 9223372036854775807) (ha : a.length ≤ 9223372036854775807) (hb0 : b.length ≤ 9223372036854775807) (hn0 : 0 ≤ n) (hn1 : n ≤ 65535) (hE : Env w) :
    Calls Tryd.prog 3 #[.agg #[str a, str b, .int .i64 st, v0], .bool asks, .int .u16 n] w fun e w' => e = .returned (.bool true) ∧ Below w.heap.size w w' := by
  have hk := Blk.new w [str a, str b, .int .i64 st, v0] 24
  rw [show [str a, str b, Value.int .i64 st, v0].toArray = #[str a, str b, .int .i64 st, v0] from rfl] at hk
  have hb1 : Below w.heap.size w (w.alloc (.cells #[str a, str b, .int .i64 st, v0] 24)) := (Below.refl _ w).alloc (Nat.le_refl _) _
  have HA := Lib.hid (awake9 _ (hE.below hb1))
  have HK := Lib.hid hk
  have HB1 := Lib.hid hb1
  have HV := Lib.hid (hv.below hb1)
  have HE := Lib.hid (hE.below hb1)
  have HBY := Lib.hid hBy
  have HBIG := Lib.hid hbig
  clear hk hb1 hv hE hBy hbig
  go_enter Tryd.func3, Tryd.ntmps3
  go_wp2_with fail
  refine HA.out.mono ?_
  rintro e w1 ⟨rfl, hB⟩
  have hkr := HK.out.below hB (by simp)
  have hB2 := HB1.out.trans (hB.mono (by simp))
  have HB2 := Lib.hid hB2
  have HE2 := Lib.hid (HE.out.below hB)
  have q0 := hkr.at (o := 0) rfl
  have q1 := hkr.at (o := 1) rfl
  have q2 := hkr.at (o := 2) rfl
  have q3 := hkr.at (o := 3) rfl
  have HF := Lib.hid (few_any a b st v0 l asks w1 (HV.out.below hB) HBIG.out ha hb0)
  clear hkr hB hB2 HA HK HB1 HV HE HBIG ha hb0
  go_wp2_with fail
  refine HF.out.mono ?_
  rintro e w2 ⟨v, rfl, hO, hB⟩
  have HB3 := Lib.hid (HB2.out.trans (hB.mono HB2.out.size))
  have HE3 := Lib.hid (HE2.out.below hB)
  have hx1 : (a.take 100).length ≤ 100 := by rw [List.length_take]; omega
  have hx2 : (if asks then b.take 2500 else []).length ≤ 2500 := by cases asks <;> simp; omega
  obtain ⟨A1, hA1⟩ : ∃ A1, A1 = a.take 100 := ⟨_, rfl⟩
  obtain ⟨B1, hB1⟩ : ∃ B1, B1 = (if asks then b.take 2500 else []) := ⟨_, rfl⟩
  obtain ⟨S1, hS1⟩ : ∃ S1, S1 = (if asks then (0 : Int) else st) := ⟨_, rfl⟩
  rw [← hA1] at hx1
  rw [← hB1] at hx2
  rw [← hA1, ← hB1, ← hS1]
  have HBR := Lib.hid (HBY.out A1 B1 S1 v (fewL l) asks w2 hO.prIn (fewL_len l) (fewL_mem l) hx1 hx2)
  clear hA1 hB1 hS1 hO hB HF HBY HB2 HE2 hx1 hx2
  go_wp2_with fail
  refine HBR.out.mono ?_
  rintro e w3 ⟨hB, ⟨x, hx, rfl⟩ | ⟨g, c, ls, hok, hlen, rfl, hbs, hg, hc, hc2⟩⟩
  · have HB4 := Lib.hid (HB3.out.trans (hB.mono HB3.out.size))
    have hx2 : (x != 0) = true := by rw [bne_iff_ne]; exact hx
    have hx3 : (x == 0) = false := by rw [beq_eq_false_iff_ne]; exact hx
    clear hB hx
    go_wp2_with fail
    go_ret
    exact ⟨rfl, HB4.out⟩
  · have HB4 := Lib.hid (HB3.out.trans (hB.mono HB3.out.size))
    have HE4 := Lib.hid (HE3.out.below hB)
    have hpos := flatL_pos ls
    have hfs := flat_short ls hok
    obtain ⟨F, hF⟩ : ∃ F, F = flatL ls := ⟨_, rfl⟩
    rw [← hF] at hpos hfs hlen hbs hc ⊢
    obtain ⟨m, hm⟩ : ∃ m : Nat, n % (F.length : Int) = (m : Int) := ⟨(n % (F.length : Int)).toNat, by have := Int.emod_nonneg n (show (F.length : Int) ≠ 0 by omega); omega⟩
    have hmF : m < F.length := by have := Int.emod_lt_of_pos n (show (0 : Int) < (F.length : Int) by omega); omega
    have hmt : (F.take m).length = m := by rw [List.length_take]; omega
    have hP := lawParse_short asks g 0 c (F.take m) w3 HE4.out (hbs.take m) hg (by omega) hc2 (by omega) (hfs m hmF)
    rw [hmt] at hP
    have HP := Lib.hid hP
    have HM := Lib.hid hm
    have htm : Int.tmod n (F.length : Int) = (m : Int) := by rw [Int.tmod_eq_emod_of_nonneg hn0]; exact hm
    have hFne : ((F.length : Int) == 0) = false := by rw [beq_eq_false_iff_ne]; omega
    have hmc : (m : Int) ≤ (c : Int) := by omega
    have hn2 : n ≤ 9223372036854775807 := by omega
    clear hP hfs hbs hF hok hB HE3 HE4 HBR
    go_wp2_with fail
    refine HP.out.mono ?_
    rintro e w4 ⟨rfl, hB⟩
    have hB5 := HB4.out.trans (hB.mono HB4.out.size)
    have HB5 := Lib.hid (hB5.alloc hB5.size (.cells #[str [], str [], .int .i64 0, .slice none 0 0] 24))
    clear hB hB5 HP htm hFne
    go_wp2_with fail
    refine (same_empty _).mono ?_
    rintro e w5 ⟨rfl, hB⟩
    have HB6 := Lib.hid (HB5.out.trans (hB.mono HB5.out.size))
    clear hB
    go_wp2_with fail
    go_ret
    exact ⟨rfl, HB6.out⟩
end Go.Proofs.YtgipbkopndghdaaDoor
set_option maxRecDepth 100000
namespace Go.Proofs.YtgipbkopndghdaaDoor
open Go.RowKit Go.Shelf
def lnsL : List (List UInt8) → List UInt8
  | [] => []
  | l :: ls => l ++ 13 :: 10 :: lnsL ls
theorem flat_lns : ∀ ls, flatL ls = lnsL ls ++ [13, 10]
  | [] => rfl
  | l :: ls => by show l ++ 13 :: 10 :: flatL ls = l ++ 13 :: 10 :: lnsL ls ++ [13, 10]; rw [flat_lns ls]; simp
theorem lns_snoc : ∀ ls l, lnsL (ls ++ [l]) = lnsL ls ++ (l ++ [13, 10])
  | [], l => by simp [lnsL]
  | m :: ls, l => by show m ++ 13 :: 10 :: lnsL (ls ++ [l]) = (m ++ 13 :: 10 :: lnsL ls) ++ (l ++ [13, 10]); rw [lns_snoc ls l]; simp
theorem tk_no13 (c : UInt8) (h : tkC c = true) : c ≠ 13 := fun e => by subst e; exact absurd h (by decide +kernel)
theorem tx_no13 (c : UInt8) (h : txC c = true) : c ≠ 13 := fun e => by subst e; exact absurd h (by decide +kernel)
theorem se_no13 (c : UInt8) (h : seB c = true) : c ≠ 13 := fun e => by subst e; exact absurd h (by decide +kernel)
theorem ask_line {a b : List UInt8} (h1 : (!a.isEmpty && a.all tkC) = true) (h2 : (!b.isEmpty && b.all seB) = true) : lineOk (a ++ [32] ++ b ++ [32, 72, 84, 84, 80, 47, 49, 46, 49]) := by
  simp only [Bool.and_eq_true, List.all_eq_true] at h1 h2
  refine ⟨by simp, fun c hc => ?_⟩
  simp only [List.mem_append, List.mem_singleton] at hc
  rcases hc with ((hc | rfl) | hc) | hc
  · exact tk_no13 c (h1.2 c hc)
  · decide
  · exact se_no13 c (h2.2 c hc)
  · intro e; subst e; exact absurd hc (by decide)
theorem field_line {n v : List UInt8} (h1 : (!n.isEmpty && n.all tkC) = true) (h2 : txtB v = true) : lineOk (n ++ [58, 32] ++ v) := by
  unfold txtB at h2
  simp only [Bool.and_eq_true, List.all_eq_true] at h1 h2
  refine ⟨by simp, fun c hc => ?_⟩
  simp only [List.mem_append] at hc
  rcases hc with (hc | hc) | hc
  · exact tk_no13 c (h1.2 c hc)
  · intro e; subst e; exact absurd hc (by decide)
  · exact tx_no13 c (h2 c hc)
theorem ask_str (a b : List UInt8) : Value.string (ByteArray.mk a.toArray ++ ByteArray.mk #[32] ++ ByteArray.mk b.toArray ++ ByteArray.mk #[32, 72, 84, 84, 80, 47, 49, 46, 49]) = str (a ++ [32] ++ b ++ [32, 72, 84, 84, 80, 47, 49, 46, 49]) :=
  congrArg Value.string (by rw [← str_app, ← str_app, ← str_app])
theorem ans_str (a : List UInt8) (x y z : UInt8) : Value.string (ByteArray.mk #[72, 84, 84, 80, 47, 49, 46, 49, 32] ++ ByteArray.mk #[x] ++ ByteArray.mk #[y] ++ ByteArray.mk #[z] ++ ByteArray.mk #[32] ++ ByteArray.mk a.toArray) = str ([72, 84, 84, 80, 47, 49, 46, 49, 32] ++ [x] ++ [y] ++ [z] ++ [32] ++ a) :=
  congrArg Value.string (by rw [← str_app, ← str_app, ← str_app, ← str_app, ← str_app])
theorem fld_str (l n v : List UInt8) : Value.string (ByteArray.mk l.toArray ++ (ByteArray.mk n.toArray ++ ByteArray.mk #[58, 32] ++ ByteArray.mk v.toArray ++ ByteArray.mk #[13, 10])) = str (l ++ (n ++ [58, 32] ++ v ++ [13, 10])) :=
  congrArg Value.string (by rw [← str_app, ← str_app, ← str_app, ← str_app])
theorem end_str (l : List UInt8) : Value.string (ByteArray.mk l.toArray ++ ByteArray.mk #[13, 10]) = str (l ++ [13, 10]) := congrArg Value.string (by rw [← str_app])
def digS : List UInt8 := [48, 49, 50, 51, 52, 53, 54, 55, 56, 57]
def digB (i : Int) : UInt8 := digS.getD i.toNat 0
theorem dig_ne (i : Int) (h0 : 0 ≤ i) (h9 : i ≤ 9) : digB i ≠ 13 := by
  obtain ⟨k, rfl⟩ := Int.eq_ofNat_of_zero_le h0
  have : k ≤ 9 := by omega
  match k, this with
  | 0, _ | 1, _ | 2, _ | 3, _ | 4, _ | 5, _ | 6, _ | 7, _ | 8, _ | 9, _ => decide
theorem dig_cut (i : Int) (h0 : 0 ≤ i) (h9 : i ≤ 9) (W : World) : (Instr.slice 9 (str digS) (some (.int .i64 i)) (some (.int .i64 (i + 1))) none).run Tryd.prog W = .ok (str [digB i]) W := by
  obtain ⟨k, rfl⟩ := Int.eq_ofNat_of_zero_le h0
  have hk : k < 10 := by omega
  have := str_mid digS k (k + 1) (by omega) (by show k + 1 ≤ 10; omega) W
  rw [show (((k + 1 : Nat)) : Int) = (k : Int) + 1 by omega] at this
  rw [show (digS.drop k).take (k + 1 - k) = [digB (k : Int)] by
    have : k < digS.length := hk
    rw [show k + 1 - k = 1 by omega, List.drop_eq_getElem_cons this]
    unfold digB
    rw [show ((k : Nat) : Int).toNat = k from rfl, List.getD_eq_getElem?_getD, List.getElem?_eq_getElem this]; rfl] at this
  exact this
theorem ans_line {a : List UInt8} {x y z : UInt8} (h : txtB a = true) (hx : x ≠ 13) (hy : y ≠ 13) (hz : z ≠ 13) : lineOk ([72, 84, 84, 80, 47, 49, 46, 49, 32] ++ [x] ++ [y] ++ [z] ++ [32] ++ a) := by
  unfold txtB at h
  rw [List.all_eq_true] at h
  refine ⟨by simp, fun c hc => ?_⟩
  simp only [List.mem_append, List.mem_singleton] at hc
  rcases hc with ((((hc | rfl) | rfl) | rfl) | rfl) | hc
  · intro e; subst e; exact absurd hc (by decide)
  · exact hx
  · exact hy
  · exact hz
  · decide
  · exact tx_no13 c (h c hc)
set_option maxHeartbeats 2000000 in
theorem bytes_ok : BytesOk := by
  intro a b st v xs asks w hv hl hm ha hb
  have HT := Lib.hid (fun W => refToken_any a W (by omega))
  have HG := Lib.hid (fun W => refTarget_any b W (by omega))
  have HX := Lib.hid (fun W => refText_any a W (by omega))
  have hbw : Below w.heap.size w (w.alloc (.cells #[str a, str b, .int .i64 st, v] 24)) := (Below.refl _ w).alloc (Nat.le_refl _) _
  have hk := Blk.newA w #[str a, str b, .int .i64 st, v] 24
  obtain ⟨w1, hw1⟩ : ∃ w1, w1 = w.alloc (.cells #[str a, str b, .int .i64 st, v] 24) := ⟨_, rfl⟩
  have hz1 : w1.heap.size = w.heap.size + 1 := by rw [hw1]; simp
  have HV := Lib.hid (hv.below hbw)
  rw [← hw1] at hbw hk HV
  have HBW := Lib.hid hbw
  have HK := Lib.hid hk
  have HW1 := Lib.hid hw1
  have HZ1 := Lib.hid hz1
  have HM := Lib.hid hm
  obtain ⟨A0, c0, rfl, hc0, hcm0, hq⟩ := hv
  clear hq hbw hk hw1 hz1 hm
  go_enter Tryd.func9, Tryd.ntmps9
  go_upto_region 2 with fail
  rw [← HW1.out]
  have q0 := HK.out.at (o := 0) rfl
  have q1 := HK.out.at (o := 1) rfl
  have q2 := HK.out.at (o := 2) rfl
  have q3 := HK.out.at (o := 3) rfl
  go_cut [7] (fun s7 wx => wx = w1 ∧ ∃ okb : Bool, s7 = .bool okb ∧ (okb = true → lineOk (a ++ [32] ++ b ++ [32, 72, 84, 84, 80, 47, 49, 46, 49])))
  case first =>
    by_cases hT : (!a.isEmpty && a.all tkC) = true
    · have HT2 := Lib.hid HT.out
      rw [hT] at HT2
      have HO := Lib.hid (fun h => ask_line (b := b) hT h)
      clear hT HT
      go_wp2_with fail
      refine (HT2.out _).mono ?_
      rintro e w2 ⟨rfl, rfl⟩
      go_wp2_with fail
      refine (HG.out _).mono ?_
      rintro e w2 ⟨rfl, rfl⟩
      obtain ⟨G, hG⟩ : ∃ G, G = (!b.isEmpty && b.all seB) := ⟨_, rfl⟩
      rw [← hG] at HO ⊢
      clear hG
      go_wp2_with fail
      go_meet
      case rel => exact ⟨rfl, G, rfl, HO.out⟩
    · have hT2 : (!a.isEmpty && a.all tkC) = false := by simpa using hT
      have HT2 := Lib.hid HT.out
      rw [hT2] at HT2
      clear hT HT hT2
      go_wp2_with fail
      refine (HT2.out _).mono ?_
      rintro e w2 ⟨rfl, rfl⟩
      go_wp2_with fail
      go_meet
      case rel => exact ⟨rfl, false, rfl, fun h => by cases h⟩
  case rest =>
    obtain ⟨rfl, okb, rfl, hok⟩ := hcut
    have HOK := Lib.hid hok
    clear hok
    go_upto_if 27 with fail
    go_cut [6, 7, 8] (fun s6 s7 s8 wx => ∃ (okb : Bool) (sl : List UInt8), s6 = str sl ∧ s7 = .bool okb ∧ (okb = true → lineOk sl) ∧ sl.length ≤ 2700 ∧ (∃ n, wx = wc.drewN n))
    case first =>
      cases asks
      · by_cases h1 : 100 ≤ st
        · by_cases h2 : st ≤ 999
          · by_cases hx : txtB a = true
            · have HX2 := Lib.hid HX.out
              rw [hx] at HX2
              have t1 : 0 ≤ st / 100 ∧ st / 100 ≤ 9 := by omega
              have t2 : 0 ≤ st / 10 % 10 ∧ st / 10 % 10 ≤ 9 := by omega
              have t3 : 0 ≤ st % 10 ∧ st % 10 ≤ 9 := by omega
              have HL := Lib.hid (ans_line hx (dig_ne _ t1.1 t1.2) (dig_ne _ t2.1 t2.2) (dig_ne _ t3.1 t3.2))
              have d1 := fun W => dig_cut _ t1.1 t1.2 W
              have d2 := fun W => dig_cut _ t2.1 t2.2 W
              have d3 := fun W => dig_cut _ t3.1 t3.2 W
              obtain ⟨X, hX⟩ : ∃ X, X = digB (st / 100) := ⟨_, rfl⟩
              obtain ⟨Y, hY⟩ : ∃ Y, Y = digB (st / 10 % 10) := ⟨_, rfl⟩
              obtain ⟨Z, hZ⟩ : ∃ Z, Z = digB (st % 10) := ⟨_, rfl⟩
              rw [← hX] at d1
              rw [← hY] at d2
              rw [← hZ] at d3
              rw [← hX, ← hY, ← hZ] at HL
              clear hX hY hZ
              unfold digS at d1 d2 d3
              clear hx HX HT HG
              go_wp2_with fail
              refine (HX2.out _).mono ?_
              rintro e w2 ⟨rfl, rfl⟩
              go_wp2_with fail
              go_quiet (fail)
              go_wp2_with fail
              go_meet
              case rel =>
                refine ⟨true, [72, 84, 84, 80, 47, 49, 46, 49, 32] ++ [X] ++ [Y] ++ [Z] ++ [32] ++ a, ?_, rfl, fun _ => HL.out, (by simp; omega), ?_⟩
                · exact ans_str a X Y Z
                · exact ⟨_, rfl⟩
            · have hx2 : txtB a = false := by simpa using hx
              have HX2 := Lib.hid HX.out
              rw [hx2] at HX2
              clear hx hx2 HX HT HG
              go_wp2_with fail
              refine (HX2.out _).mono ?_
              rintro e w2 ⟨rfl, rfl⟩
              go_wp2_with fail
              go_meet
              case rel => exact ⟨false, a ++ [32] ++ b ++ [32, 72, 84, 84, 80, 47, 49, 46, 49], ask_str a b, rfl, fun h => absurd h (by decide), (by simp; omega), 0, rfl⟩
          · go_wp2_with fail
            go_meet
            case rel => exact ⟨false, a ++ [32] ++ b ++ [32, 72, 84, 84, 80, 47, 49, 46, 49], ask_str a b, rfl, fun h => absurd h (by decide), (by simp; omega), 0, rfl⟩
        · go_wp2_with fail
          go_meet
          case rel => exact ⟨false, a ++ [32] ++ b ++ [32, 72, 84, 84, 80, 47, 49, 46, 49], ask_str a b, rfl, fun h => absurd h (by decide), (by simp; omega), 0, rfl⟩
      · go_wp2_with fail
        go_meet
        case rel => exact ⟨okb, a ++ [32] ++ b ++ [32, 72, 84, 84, 80, 47, 49, 46, 49], ask_str a b, rfl, HOK.out, (by simp; omega), 0, rfl⟩
    case rest =>
      obtain ⟨okb2, sl, rfl, rfl, hok2, hsl, n, rfl⟩ := hcut
      have HOK2 := Lib.hid hok2
      clear hok2
      go_wp2_with fail
      go_loopw [6, 7, 83] (fun sv okv i wr => ∃ (k : Nat) (ok3 : Bool) (s3 : List UInt8), k ≤ xs.length ∧ i = .int .i64 (k : Int) ∧ sv = str s3 ∧ okv = .bool ok3 ∧ s3.length ≤ 2702 + k * 2020 ∧ (ok3 = true → ∃ ls, (∀ l ∈ ls, lineOk l) ∧ s3 = lnsL ls) ∧ Below wc.heap.size wc wr) (fun _ _ i _ => xs.length - (intOf i).toNat)
      case atStart =>
        refine ⟨0, okb2, sl ++ [13, 10], by omega, rfl, end_str sl, rfl, (by simp; omega), fun h => ⟨[sl], fun l hl => ?_, by simp [lnsL]⟩, belowN n⟩
        rw [List.mem_singleton] at hl
        subst hl
        exact HOK2.out h
      case round =>
        obtain ⟨k, ok3, s3, hk, rfl, rfl, rfl, hs3, hl3, hb⟩ := hrel
        have HL3 := Lib.hid hl3
        have HB3 := Lib.hid hb
        by_cases hlt : k < xs.length
        · obtain ⟨A', c', he, _, _, hin⟩ := HV.out.below (hb.mono (Nat.le_refl _))
          injection he with he1 he2 he3
          subst he1 he3
          obtain ⟨g, o, rfl, d0, d1⟩ := hin k hlt
          clear hin he2
          have hbx := HM.out xs[k] (List.getElem_mem hlt)
          obtain ⟨x, hx⟩ : ∃ x, x = xs[k] := ⟨_, rfl⟩
          rw [← hx] at d0 d1 hbx
          clear hx
          obtain ⟨q, r⟩ := x
          simp only at d0 d1 hbx
          obtain ⟨hq1, hr1⟩ := hbx
          have HBN := Lib.hid (hb.alloc hb.size (.cells #[str q, str r] 37))
          have HN := Lib.hid (show (s3 ++ (q ++ [58, 32] ++ r ++ [13, 10])).length ≤ 2702 + (k + 1) * 2020 by simp; omega)
          have HQT := Lib.hid (fun W => refToken_any q W (by omega))
          have HRX := Lib.hid (fun W => refText_any r W (by omega))
          have HRT := Lib.hid (fun W => refTrim_any r W (by omega))
          have hnx : ok3 = true → (!q.isEmpty && q.all tkC) = true → txtB r = true → ∃ ls, (∀ l ∈ ls, lineOk l) ∧ s3 ++ (q ++ [58, 32] ++ r ++ [13, 10]) = lnsL ls := by
            intro h1 h2 h3
            obtain ⟨ls, ho, he⟩ := hl3 h1
            refine ⟨ls ++ [q ++ [58, 32] ++ r], fun l hl => ?_, by rw [lns_snoc, ← he]⟩
            rw [List.mem_append, List.mem_singleton] at hl
            rcases hl with hl | rfl
            · exact ho l hl
            · exact field_line h2 h3
          obtain ⟨T, hT⟩ : ∃ T, T = (!q.isEmpty && q.all tkC) := ⟨_, rfl⟩
          obtain ⟨X, hX⟩ : ∃ X, X = txtB r := ⟨_, rfl⟩
          obtain ⟨M, hM⟩ : ∃ M, M = trimR r := ⟨_, rfl⟩
          rw [← hT] at HQT hnx
          rw [← hX] at HRX hnx
          rw [← hM] at HRT
          have HNX := Lib.hid hnx
          clear hT hX hM hnx hl3 hb HL3 HB3
          cases ok3
          · skip
            go_wp2_with fail
            go_quiet (fail)
            go_wp2_with fail
            go_roundw
            case rel => exact ⟨k + 1, false, s3 ++ (q ++ [58, 32] ++ r ++ [13, 10]), by omega, by go_num, fld_str s3 q r, rfl, HN.out, fun h => absurd h (by decide), HBN.out.trans ((belowN _).mono HBN.out.size)⟩
            case measure => simp [intOf]; omega
          · cases T
            · skip
              go_wp2_with fail
              go_quiet ((go_at_call 29; exact Calls.quiet_of_same ((HQT.out _).mono fun _ _ h => ⟨h.1, h.2.symm⟩)))
              go_wp2_with fail
              go_roundw
              case rel => exact ⟨k + 1, false, s3 ++ (q ++ [58, 32] ++ r ++ [13, 10]), by omega, by go_num, fld_str s3 q r, rfl, HN.out, fun h => absurd h (by decide), HBN.out.trans ((belowN _).mono HBN.out.size)⟩
              case measure => simp [intOf]; omega
            · cases X
              · skip
                go_wp2_with fail
                go_quiet (first | (go_at_call 29; exact Calls.quiet_of_same ((HQT.out _).mono fun _ _ h => ⟨h.1, h.2.symm⟩)) | (go_at_call 31; exact Calls.quiet_of_same ((HRX.out _).mono fun _ _ h => ⟨h.1, h.2.symm⟩)))
                go_wp2_with fail
                go_roundw
                case rel => exact ⟨k + 1, false, s3 ++ (q ++ [58, 32] ++ r ++ [13, 10]), by omega, by go_num, fld_str s3 q r, rfl, HN.out, fun h => absurd h (by decide), HBN.out.trans ((belowN _).mono HBN.out.size)⟩
                case measure => simp [intOf]; omega
              · skip
                go_wp2_with fail
                go_quiet (first | (go_at_call 29; exact Calls.quiet_of_same ((HQT.out _).mono fun _ _ h => ⟨h.1, h.2.symm⟩)) | (go_at_call 31; exact Calls.quiet_of_same ((HRX.out _).mono fun _ _ h => ⟨h.1, h.2.symm⟩)) | (go_at_call 32; exact Calls.quiet_of_same ((HRT.out _).mono fun _ _ h => ⟨h.1, h.2.symm⟩)))
                go_wp2_with fail
                go_roundw
                case rel => exact ⟨k + 1, _, s3 ++ (q ++ [58, 32] ++ r ++ [13, 10]), by omega, by go_num, fld_str s3 q r, rfl, HN.out, fun _ => HNX.out (by trivial) (by trivial) (by trivial), HBN.out.trans ((belowN _).mono HBN.out.size)⟩
                case measure => simp [intOf]; omega
        · have hkr := HK.out.below hb (by have := HZ1.out; omega)
          have p3 := hkr.at (o := 3) rfl
          have HBF := Lib.hid (HBW.out.trans (hb.mono HBW.out.size))
          have hs4 : (s3 ++ [13, 10]).length ≤ 60000 := by simp; omega
          have hkk : k = xs.length := by omega
          subst hkk
          clear hl3 hb hkr HV HM hlt hk
          have hstr : ByteArray.mk s3.toArray ++ ByteArray.mk #[13, 10] = ByteArray.mk (s3 ++ [13, 10]).toArray := str_app s3 [13, 10]
          cases ok3
          · clear hstr
            go_wp2_with fail
            exact bodyPost_ret (v := .tuple #[.slice none 0 0, .int .i64 4]) (by simp [results, Tryd.results9, go_sem]) rfl ⟨HBF.out, .inl ⟨4, by decide, rfl⟩⟩
          · obtain ⟨ls, hok3, hls⟩ := HL3.out rfl
            have hfl : s3 ++ [13, 10] = flatL ls := by rw [flat_lns, hls]
            obtain ⟨S, hS⟩ : ∃ S, S = s3 ++ [13, 10] := ⟨_, rfl⟩
            rw [← hS] at hstr hs4 hfl
            have HOK3 := Lib.hid hok3
            have HFL := Lib.hid hfl
            obtain ⟨c, W, hr, hBW, hbs, hlt4, hc1, hc2⟩ := conv_newc S wr (by omega)
            have HBWF := Lib.hid (HBF.out.trans (hBW.mono HBF.out.size))
            have HBS := Lib.hid hbs
            have HLT4 := Lib.hid hlt4
            have HC := Lib.hid (And.intro hc1 hc2)
            clear hS hls hfl hok3 hBW hbs hlt4 hc1 hc2
            by_cases h5 : (4096 : Int) < (S.length : Int)
            · go_wp2_with fail
              exact bodyPost_ret (v := .tuple #[.slice none 0 0, .int .i64 3]) (by simp [results, Tryd.results9, go_sem]) rfl ⟨HBF.out, .inl ⟨3, by decide, rfl⟩⟩
            · by_cases h6 : (24 : Int) < (xs.length : Int)
              · go_wp2_with fail
                exact bodyPost_ret (v := .tuple #[.slice none 0 0, .int .i64 3]) (by simp [results, Tryd.results9, go_sem]) rfl ⟨HBF.out, .inl ⟨3, by decide, rfl⟩⟩
              · go_wp2_with fail
                refine bodyPost_ret (v := .tuple #[.slice (some ⟨wr.heap.size, 0, none⟩) S.length c, .int .i64 0]) (by simp [results, Tryd.results9, go_sem]) rfl ⟨HBWF.out, .inr ⟨wr.heap.size, c, ls, HOK3.out, ?_, ?_, ?_, HLT4.out, ?_, HC.out.2⟩⟩
                · rw [← HFL.out]; omega
                · rw [← HFL.out]
                · rw [← HFL.out]; exact HBS.out
                · rw [← HFL.out]; exact HC.out.1
end Go.Proofs.YtgipbkopndghdaaDoor
set_option maxRecDepth 100000
namespace Go.Proofs.YtgipbkopndghdaaDoor
open Go.ChangeShapes Go.WideShapes Go.ChangeAt Go.RowKit Go.Shelf
/-- A head that lies in memory. -/
def HdArg (W : World) (v : Value) (a b : List UInt8) (st : Int) (u : Value) (ls : Prs) : Prop := v = .agg #[str a, str b, .int .i64 st, u] ∧ a.length ≤ 9223372036854775807 ∧ b.length ≤ 9223372036854775807 ∧ PrArg W u ls
section
variable {H : Type} {enc : TypeId × Value → H}
theorem cells_hd : Tryd.prog.cellsOf 24 = 4 := by kernel_rfl
theorem four_of {α : Type} {l : List α} (h : l.length = 4) : ∃ a b c d, l = [a, b, c, d] := by
  match l, h with
  | [a, b, c, d], _ => exact ⟨a, b, c, d, rfl⟩
theorem open_prsC {W : World} {fuel : Nat} {v : Value} {x : DataW H × List MemPlace} (hf : DataW.trod enc Tryd.prog W 0 (fun _ => true) true fuel 22 [v] = some x) :
    ∃ ls, PrArg W v ls := by
  rcases Go.Deep.open_slice Tryd.underlying22 hf with ⟨hcs, _⟩ | ⟨a, len, cap, m, n, D, Pl, hcs, _, hl, hm, hmm, _, hx⟩
  · simp only [List.cons.injEq, and_true] at hcs
    subst hcs
    exact ⟨[], ⟨none, 0, rfl, by simp, by omega, fun k hk => by simp at hk⟩, fun x hx => by cases hx⟩
  · simp only [List.cons.injEq, and_true] at hcs
    subst hcs
    simp only [if_true] at hmm
    subst hmm
    rw [cells_pr] at hx
    obtain ⟨ab, ao, spot⟩ := a
    have hs0 : 0 < len → spot = none := by
      intro h0
      obtain ⟨cs, hc, _⟩ := hx 0 (by omega)
      have k0 := (World.cells?_some hc).2.2 0 (by omega)
      have hl0 : cs.length = 2 := (World.cells?_some hc).2.1
      rw [List.getElem?_eq_getElem (by omega)] at k0
      simpa [Addr.add] using World.cell?_spot k0
    have key : ∀ i, i < len → ∃ x : List UInt8 × List UInt8, (W.cell? ⟨ab, ao + i * 2, none⟩ = some (str x.1) ∧ W.cell? ⟨ab, ao + i * 2 + 1, none⟩ = some (str x.2)) ∧ x.1.length ≤ 9223372036854775807 ∧ x.2.length ≤ 9223372036854775807 := by
      intro i hi
      obtain ⟨cs, hc, ht⟩ := hx i (by omega)
      obtain ⟨_, hcl, hat⟩ := World.cells?_some hc
      obtain ⟨c0, c1, rfl⟩ : ∃ c0 c1, cs = [c0, c1] := by
        match cs, hcl with
        | [c0, c1], _ => exact ⟨c0, c1, rfl⟩
      obtain ⟨y0, y1, n', _, _, h0, h1⟩ := trod_struct2 Tryd.underlying37 ht
      have k0 := hat 0 (by omega)
      have k1 := hat 1 (by omega)
      rw [Go.Deep.add_add] at k0 k1
      have hspot : spot = none := hs0 (by omega)
      subst hspot
      rw [Addr.add_lit] at k0 k1
      obtain ⟨s0, e0, hl0⟩ := str_of_trodP (v := c0) h0
      obtain ⟨s1, e1, hl1⟩ := str_of_trodP (v := c1) h1
      subst e0; subst e1
      exact ⟨(s0, s1), ⟨k0, k1⟩, hl0, hl1⟩
    obtain ⟨ls, hls, hp⟩ := choose_p len _ key
    refine ⟨ls, ⟨some ⟨ab, ao, spot⟩, m, by rw [hls], by rw [hls]; exact hl, by unfold maxLen at hm; omega, fun k hk => ?_⟩, fun x hx => ?_⟩
    · have hs := hs0 (by omega)
      subst hs
      exact ⟨ab, ao, rfl, (hp k hk).1⟩
    · obtain ⟨k, hk, rfl⟩ := List.getElem_of_mem hx
      exact (hp k hk).2
theorem open_hd {W : World} {base : Nat} {v : Value} {d : DataW H} {ps : List MemPlace} (hval : Value.okWide Tryd.prog W .any base 24 v) (h : DataW.Trod enc Tryd.prog W 0 (fun _ => true) true 24 v d ps) :
    ∃ a b st u ls, HdArg W v a b st u ls := by
  obtain ⟨cs, rfl, hsz⟩ := okWide_struct Tryd.underlying24 hval
  obtain ⟨fuel, hf⟩ := h
  rw [show Value.cells (.agg cs) = cs by simp [Value.cells]] at hf
  obtain ⟨xs, n, _, _, _, hlen, hat⟩ := DataW.trod_struct Tryd.underlying24 hf
  rw [cells_hd] at hsz
  obtain ⟨c0, c1, c2, c3, hc⟩ := four_of (l := cs.toList) (by simpa using hsz)
  obtain ⟨y0, y1, y2, y3, rfl⟩ := four_of (l := xs) hlen
  have hcs : cs = #[c0, c1, c2, c3] := by rw [← Array.toArray_toList (xs := cs), hc]
  rw [hc] at hat
  have h0 := hat 0 _ rfl
  have h1 := hat 1 _ rfl
  have h2 := hat 2 _ rfl
  have h3 := hat 3 _ rfl
  obtain ⟨a, ea, ha⟩ := str_of_trodP (v := c0) h0
  obtain ⟨b, eb, hb⟩ := str_of_trodP (v := c1) h1
  obtain ⟨st, es, _, _⟩ := DataW.trod_int Tryd.underlying3 h2
  obtain ⟨ls, hls⟩ := open_prsC (v := c3) h3
  have es2 : c2 = .int .i64 st := by
    have : [c2] = [Value.int .i64 st] := es
    simpa using this
  subst ea; subst eb; subst es2; subst hcs
  exact ⟨a, b, st, c3, ls, rfl, ha, hb, hls⟩
end
theorem short_w (v0 : Value) (a b : List UInt8) (st : Int) (u : Value) (ls : Prs) (asks : Bool) (n : Int) (w : World) (h0 : HdArg w v0 a b st u ls) (hn : (Lit.int .u16 n).wf = true) (hE : Env w) :
    Calls Tryd.prog 3 #[v0, .bool asks, .int .u16 n] w fun e w' => e = .returned (.bool true) ∧ Below w.heap.size w w' := by
  obtain ⟨rfl, ha, hb, hp⟩ := h0
  have hr : 0 ≤ n ∧ n ≤ 65535 := by
    simp [Lit.wf, IntKind.min, IntKind.max, IntKind.bits, IntKind.signed] at hn
    omega
  exact short_law bytes_ok a b st u ls asks n w hp.1 hp.2 ha hb hr.1 hr.2 hE
end Go.Proofs.YtgipbkopndghdaaDoor
