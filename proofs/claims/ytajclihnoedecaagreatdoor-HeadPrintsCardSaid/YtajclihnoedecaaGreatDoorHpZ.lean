/- The law's print; the reference's Bytes. The statement HeadPrints' own text, walked. -/
import Derived.Test.YtajclihnoedecaaGreatDoorHpA
import Derived.Test.YtajclihnoedecaaGreatDoorHrB
import Derived.Deep.QuietTactic
import Derived.BigQuiet
import Derived.Deep.Cut
import Derived.Deep.DeepCutAuto
import Derived.Test.YtajclihnoedecaaGreatDoorHrC
import Derived.Test.YtajclihnoedecaaGreatDoorHsFew
import Derived.Test.YtajclihnoedecaaGreatDoorHdPh
import Derived.Test.YtajclihnoedecaaGreatDoorCut2
set_option maxRecDepth 100000
namespace Go.Proofs.YtajclihnoedecaaGreatDoor
open Go.RowKit Go.Shelf
/-- What is printed of a head. -/
abbrev outL (asks : Bool) (a b : List UInt8) (st : Int) (xs : PrL) : List UInt8 := flatL (firstS asks a b st :: xs.map fldS)
abbrev outC (asks : Bool) (a b : List UInt8) (st : Int) (xs : PrL) : Int := codeL (firstOk asks a b st) (firstS asks a b st) xs
set_option maxHeartbeats 1000000 in
theorem print_any (asks : Bool) (a b : List UInt8) (st : Int) (v0 : Value) (xs : Prs) (w : World) (hE : Env w) (hv : PrIn w v0 xs) (hl : xs.length ≤ 27) (hm : ∀ x ∈ xs, x.1.length ≤ 12 ∧ x.2.length ≤ 2000) (ha : a.length ≤ 100) (hb : b.length ≤ 2500) (h0 : -9223372036854775808 ≤ st) (h1 : st ≤ 9223372036854775807) :
    Calls Tryz.prog 13 #[hd4 a b st v0, .bool asks] w (PrintR w (outC asks a b st xs) (outL asks a b st xs)) := by
  have hbw : Below w.heap.size w (w.alloc (.cells #[str a, str b, .int .i64 st, v0] 29)) := (Below.refl _ w).alloc (Nat.le_refl _) _
  have HBW := Lib.hid hbw
  obtain ⟨A0, c0, rfl, hA1, hA2, hA3⟩ := id hv
  clear hA3
  cases asks
  · have HC := Lib.hid (ansBytes_any a st _ xs _ (hE.below hbw) (hv.below hbw) hl hm ha h0 h1)
    clear hE hv hbw
    go_enter Tryz.func13, Tryz.ntmps13
    go_wp2_with fail
    refine HC.out.mono ?_
    rintro e w3 h3
    have HP := Lib.hid (h3.lift HBW.out)
    obtain ⟨v3, rfl, _, _, _⟩ := h3
    go_wp2_with fail
    exact bodyPost_ret (v := .tuple #[v3, .int .i64 (outC false a b st xs)]) (by simp [results, Tryz.results13, go_sem]; rfl) rfl HP.out
  · have HC := Lib.hid (reqBytes_any a b _ xs _ (hE.below hbw) (hv.below hbw) hl hm ha hb)
    clear hE hv hbw
    go_enter Tryz.func13, Tryz.ntmps13
    go_wp2_with fail
    refine HC.out.mono ?_
    rintro e w3 h3
    have HP := Lib.hid (h3.lift HBW.out)
    obtain ⟨v3, rfl, _, _, _⟩ := h3
    go_wp2_with fail
    exact bodyPost_ret (v := .tuple #[v3, .int .i64 (outC true a b st xs)]) (by simp [results, Tryz.results13, go_sem]; rfl) rfl HP.out
theorem ask_str (a b : List UInt8) : Value.string (ByteArray.mk a.toArray ++ ByteArray.mk #[32] ++ ByteArray.mk b.toArray ++ ByteArray.mk #[32, 72, 84, 84, 80, 47, 49, 46, 49]) = str (a ++ [32] ++ b ++ [32, 72, 84, 84, 80, 47, 49, 46, 49]) :=
  congrArg Value.string (by rw [← str_app, ← str_app, ← str_app])
theorem ans_str (a : List UInt8) (x y z : UInt8) : Value.string (ByteArray.mk #[72, 84, 84, 80, 47, 49, 46, 49, 32] ++ ByteArray.mk #[x] ++ ByteArray.mk #[y] ++ ByteArray.mk #[z] ++ ByteArray.mk #[32] ++ ByteArray.mk a.toArray) = str ([72, 84, 84, 80, 47, 49, 46, 49, 32] ++ [x] ++ [y] ++ [z] ++ [32] ++ a) :=
  congrArg Value.string (by rw [← str_app, ← str_app, ← str_app, ← str_app, ← str_app])
theorem fld_str (l n v : List UInt8) : Value.string (ByteArray.mk l.toArray ++ (ByteArray.mk n.toArray ++ ByteArray.mk #[58, 32] ++ ByteArray.mk v.toArray ++ ByteArray.mk #[13, 10])) = str (l ++ (n ++ [58, 32] ++ v ++ [13, 10])) :=
  congrArg Value.string (by rw [← str_app, ← str_app, ← str_app, ← str_app])
theorem end_str (l : List UInt8) : Value.string (ByteArray.mk l.toArray ++ ByteArray.mk #[13, 10]) = str (l ++ [13, 10]) := congrArg Value.string (by rw [← str_app])
theorem dig_cut (i : Int) (h0 : 0 ≤ i) (h9 : i ≤ 9) (W : World) : (Instr.slice 9 (str digS) (some (.int .i64 i)) (some (.int .i64 (i + 1))) none).run Tryz.prog W = .ok (str [digB i]) W := by
  obtain ⟨k, rfl⟩ := Int.eq_ofNat_of_zero_le h0
  have hk : k < 10 := by omega
  have := str_mid digS k (k + 1) (by omega) (by show k + 1 ≤ 10; omega) W
  rw [show (((k + 1 : Nat)) : Int) = (k : Int) + 1 by omega] at this
  rw [show (digS.drop k).take (k + 1 - k) = [digB (k : Int)] by
    have : k < digS.length := hk
    rw [show k + 1 - k = 1 by omega, List.drop_eq_getElem_cons this]
    unfold digB
    rw [show ((k : Nat) : Int).toNat = k from rfl, List.getD_eq_getElem?_getD, List.getElem?_eq_getElem this]; rfl] at this
  exact this
theorem ask_askS (a b : List UInt8) : a ++ [32] ++ b ++ [32, 72, 84, 84, 80, 47, 49, 46, 49] = askS a b := by simp [askS, verS]
theorem ans_ansS (st : Int) (a : List UInt8) (h0 : 100 ≤ st) (h1 : st ≤ 999) : [72, 84, 84, 80, 47, 49, 46, 49, 32] ++ [digB (st / 100)] ++ [digB (st / 10 % 10)] ++ [digB (st % 10)] ++ [32] ++ a = ansS st a := by
  unfold ansS
  rw [(itoa3 st h0 h1).2.1]
  simp [verS]
set_option maxHeartbeats 2000000 in
theorem refBytes_any (asks : Bool) (a b : List UInt8) (st : Int) (v : Value) (xs : Prs) (w : World) (hv : PrIn w v xs) (hl : xs.length ≤ 27) (hm : ∀ x ∈ xs, x.1.length ≤ 12 ∧ x.2.length ≤ 2000) (ha : a.length ≤ 100) (hb : b.length ≤ 2500) :
    Calls Tryz.prog 14 #[hd4 a b st v, .bool asks] w (PrintR w (outC asks a b st xs) (outL asks a b st xs)) := by
  have HT := Lib.hid (fun W => refTok a W (by omega))
  have HG := Lib.hid (fun W => refTgt b W (by omega))
  have HX := Lib.hid (fun W => refText_any a W (by omega))
  have hbw : Below w.heap.size w (w.alloc (.cells #[str a, str b, .int .i64 st, v] 29)) := (Below.refl _ w).alloc (Nat.le_refl _) _
  have hk := Blk.newA w #[str a, str b, .int .i64 st, v] 29
  obtain ⟨w1, hw1⟩ : ∃ w1, w1 = w.alloc (.cells #[str a, str b, .int .i64 st, v] 29) := ⟨_, rfl⟩
  have hz1 : w1.heap.size = w.heap.size + 1 := by rw [hw1]; simp
  have HV := Lib.hid (hv.below hbw)
  rw [← hw1] at hbw hk HV
  have HBW := Lib.hid hbw
  have HK := Lib.hid hk
  have HW1 := Lib.hid hw1
  have HZ1 := Lib.hid hz1
  have HM := Lib.hid hm
  obtain ⟨A0, c0, rfl, hc0, hcm0, hq⟩ := hv
  clear hq hbw hk hw1 hz1 hm
  go_enter Tryz.func14, Tryz.ntmps14
  go_upto_region 2 with fail
  rw [← HW1.out]
  have q0 := HK.out.at (o := 0) rfl
  have q1 := HK.out.at (o := 1) rfl
  have q2 := HK.out.at (o := 2) rfl
  have q3 := HK.out.at (o := 3) rfl
  go_cut [7] (fun s7 wx => wx = w1 ∧ ∃ okb : Bool, s7 = .bool okb ∧ okb = (tokB a && tgtB b))
  case first =>
    by_cases hT : tokB a = true
    · have HT2 := Lib.hid HT.out
      rw [hT] at HT2
      have HO := Lib.hid (show tgtB b = (tokB a && tgtB b) from by rw [hT]; rfl)
      clear hT HT
      go_wp2_with fail
      refine (HT2.out _).mono ?_
      rintro e w2 ⟨rfl, rfl⟩
      go_wp2_with fail
      refine (HG.out _).mono ?_
      rintro e w2 ⟨rfl, rfl⟩
      obtain ⟨G, hG⟩ : ∃ G, G = tgtB b := ⟨_, rfl⟩
      have HO2 : Hid (G = (tokB a && tgtB b)) := Lib.hid (by rw [hG]; exact HO.out)
      rw [← hG]
      clear hG
      go_wp2_with fail
      go_meet
      case rel => exact ⟨rfl, G, rfl, HO2.out⟩
    · have hT2 : tokB a = false := by simpa using hT
      have HO2 : Hid (false = (tokB a && tgtB b)) := Lib.hid (by rw [hT2]; rfl)
      have HT2 := Lib.hid HT.out
      rw [hT2] at HT2
      clear hT HT hT2
      go_wp2_with fail
      refine (HT2.out _).mono ?_
      rintro e w2 ⟨rfl, rfl⟩
      go_wp2_with fail
      go_meet
      case rel => exact ⟨rfl, false, rfl, HO2.out⟩
  case rest =>
    obtain ⟨rfl, okb, rfl, hok⟩ := hcut
    have HOK := Lib.hid hok
    clear hok
    go_upto_if 27 with fail
    go_cut [6, 7, 8] (fun s6 s7 s8 wx => ∃ (okb : Bool) (sl : List UInt8), s6 = str sl ∧ s7 = .bool okb ∧ okb = firstOk asks a b st ∧ (okb = true → sl = firstS asks a b st) ∧ sl.length ≤ 2700 ∧ (∃ n, wx = wc.drewN n))
    case first =>
      cases asks
      · by_cases h1 : 100 ≤ st
        · by_cases h2 : st ≤ 999
          · by_cases hx : txtB a = true
            · have HX2 := Lib.hid HX.out
              rw [hx] at HX2
              have t1 : 0 ≤ st / 100 ∧ st / 100 ≤ 9 := by omega
              have t2 : 0 ≤ st / 10 % 10 ∧ st / 10 % 10 ≤ 9 := by omega
              have t3 : 0 ≤ st % 10 ∧ st % 10 ≤ 9 := by omega
              have HL := Lib.hid (ans_ansS st a h1 h2)
              have HF : Hid (true = firstOk false a b st) := Lib.hid (by unfold firstOk; simp [h1, h2, hx])
              have d1 := fun W => dig_cut _ t1.1 t1.2 W
              have d2 := fun W => dig_cut _ t2.1 t2.2 W
              have d3 := fun W => dig_cut _ t3.1 t3.2 W
              obtain ⟨X, hX⟩ : ∃ X, X = digB (st / 100) := ⟨_, rfl⟩
              obtain ⟨Y, hY⟩ : ∃ Y, Y = digB (st / 10 % 10) := ⟨_, rfl⟩
              obtain ⟨Z, hZ⟩ : ∃ Z, Z = digB (st % 10) := ⟨_, rfl⟩
              rw [← hX] at d1
              rw [← hY] at d2
              rw [← hZ] at d3
              rw [← hX, ← hY, ← hZ] at HL
              clear hX hY hZ
              unfold digS at d1 d2 d3
              clear hx HX HT HG
              go_wp2_with fail
              refine (HX2.out _).mono ?_
              rintro e w2 ⟨rfl, rfl⟩
              go_wp2_with fail
              go_quiet (fail)
              go_wp2_with fail
              go_meet
              case rel =>
                refine ⟨true, [72, 84, 84, 80, 47, 49, 46, 49, 32] ++ [X] ++ [Y] ++ [Z] ++ [32] ++ a, ?_, rfl, HF.out, fun _ => HL.out, (by simp; omega), ?_⟩
                · exact ans_str a X Y Z
                · exact ⟨_, rfl⟩
            · have hx2 : txtB a = false := by simpa using hx
              have HX2 := Lib.hid HX.out
              rw [hx2] at HX2
              have HF : Hid (false = firstOk false a b st) := Lib.hid (by unfold firstOk; simp [hx2])
              clear hx hx2 HX HT HG
              go_wp2_with fail
              refine (HX2.out _).mono ?_
              rintro e w2 ⟨rfl, rfl⟩
              go_wp2_with fail
              go_meet
              case rel => exact ⟨false, a ++ [32] ++ b ++ [32, 72, 84, 84, 80, 47, 49, 46, 49], ask_str a b, rfl, HF.out, fun h => absurd h (by decide), (by simp; omega), 0, rfl⟩
          · have HF : Hid (false = firstOk false a b st) := Lib.hid (by unfold firstOk; simp [h2])
            go_wp2_with fail
            go_meet
            case rel => exact ⟨false, a ++ [32] ++ b ++ [32, 72, 84, 84, 80, 47, 49, 46, 49], ask_str a b, rfl, HF.out, fun h => absurd h (by decide), (by simp; omega), 0, rfl⟩
        · have HF : Hid (false = firstOk false a b st) := Lib.hid (by unfold firstOk; simp [h1])
          go_wp2_with fail
          go_meet
          case rel => exact ⟨false, a ++ [32] ++ b ++ [32, 72, 84, 84, 80, 47, 49, 46, 49], ask_str a b, rfl, HF.out, fun h => absurd h (by decide), (by simp; omega), 0, rfl⟩
      · go_wp2_with fail
        go_meet
        case rel => exact ⟨okb, a ++ [32] ++ b ++ [32, 72, 84, 84, 80, 47, 49, 46, 49], ask_str a b, rfl, HOK.out, fun _ => ask_askS a b, (by simp; omega), 0, rfl⟩
    case rest =>
      obtain ⟨okb2, sl, rfl, rfl, hok2, hsl1, hsl, n, rfl⟩ := hcut
      have HOK2 := Lib.hid hok2
      have HSL := Lib.hid hsl1
      clear hok2 hsl1
      obtain ⟨FO, hFO⟩ : ∃ FO, FO = firstOk asks a b st := ⟨_, rfl⟩
      obtain ⟨S, hSF⟩ : ∃ S, S = firstS asks a b st := ⟨_, rfl⟩
      have HCO : Hid (outC asks a b st xs = codeL FO S xs) := Lib.hid (by rw [hFO, hSF])
      have HOU : Hid (outL asks a b st xs = flatL (S :: xs.map fldS)) := Lib.hid (by rw [hSF])
      rw [← hFO] at HOK2
      rw [← hSF] at HSL
      clear hFO hSF
      go_wp2_with fail
      go_loopw [6, 7, 83] (fun sv okv i wr => ∃ (k : Nat) (ok3 : Bool) (s3 : List UInt8), k ≤ xs.length ∧ i = .int .i64 (k : Int) ∧ sv = str s3 ∧ okv = .bool ok3 ∧ s3.length ≤ 2702 + k * 2020 ∧ ok3 = (FO && (xs.take k).all fldOk) ∧ (ok3 = true → s3 = lnsL (S :: (xs.take k).map fldS)) ∧ Below wc.heap.size wc wr) (fun _ _ i _ => xs.length - (intOf i).toNat)
      case atStart =>
        exact ⟨0, okb2, sl ++ [13, 10], by omega, rfl, end_str sl, rfl, (by simp; omega), by rw [HOK2.out]; simp, fun h => by rw [HSL.out h]; simp [lnsL], belowN n⟩
      case round =>
        obtain ⟨k, ok3, s3, hk, rfl, rfl, rfl, hs3, hk3, hl3, hb⟩ := hrel
        have HK3 := Lib.hid hk3
        have HL3 := Lib.hid hl3
        have HB3 := Lib.hid hb
        by_cases hlt : k < xs.length
        · obtain ⟨A', c', he, _, _, hin⟩ := HV.out.below (hb.mono (Nat.le_refl _))
          injection he with he1 he2 he3
          subst he1 he3
          obtain ⟨g, o, rfl, d0, d1⟩ := hin k hlt
          clear hin he2
          have hbx := HM.out xs[k] (List.getElem_mem hlt)
          have hts : xs.take (k + 1) = xs.take k ++ [xs[k]] := take_snocG xs k hlt
          obtain ⟨x, hx⟩ : ∃ x, x = xs[k] := ⟨_, rfl⟩
          rw [← hx] at d0 d1 hbx hts
          clear hx
          obtain ⟨q, r⟩ := x
          simp only at d0 d1 hbx
          obtain ⟨hq1, hr1⟩ := hbx
          have HBN := Lib.hid (hb.alloc hb.size (.cells #[str q, str r] 51))
          have HN := Lib.hid (show (s3 ++ (q ++ [58, 32] ++ r ++ [13, 10])).length ≤ 2702 + (k + 1) * 2020 by simp; omega)
          have HQT := Lib.hid (fun W => refTok q W (by omega))
          have HRX := Lib.hid (fun W => refText_any r W (by omega))
          have HRT := Lib.hid (fun W => refTrim_any r W (by omega))
          have hns : ok3 = true → s3 ++ (q ++ [58, 32] ++ r ++ [13, 10]) = lnsL (S :: (xs.take (k + 1)).map fldS) := by
            intro h1
            rw [hts, List.map_append, hl3 h1, ← List.cons_append]
            show _ = lnsL (S :: (xs.take k).map fldS ++ [fldS (q, r)])
            rw [lns_snoc]
            simp [fldS]
          have hnx : (ok3 && (tokB q && (txtB r && (trimR r == r)))) = (FO && (xs.take (k + 1)).all fldOk) := by
            rw [hts, List.all_append, hk3, Bool.and_assoc]
            simp [fldOk]
          have HNS := Lib.hid hns
          clear hns hk3 HK3
          obtain ⟨T, hT⟩ : ∃ T, T = tokB q := ⟨_, rfl⟩
          obtain ⟨X, hX⟩ : ∃ X, X = txtB r := ⟨_, rfl⟩
          obtain ⟨M, hM⟩ : ∃ M, M = trimR r := ⟨_, rfl⟩
          rw [← hT] at HQT hnx
          rw [← hX] at HRX hnx
          rw [← hM] at HRT hnx
          have HNX := Lib.hid hnx
          clear hT hX hM hnx hl3 hb HL3 HB3
          cases ok3
          · skip
            go_wp2_with fail
            go_quiet (fail)
            go_wp2_with fail
            go_roundw
            case rel => exact ⟨k + 1, false, s3 ++ (q ++ [58, 32] ++ r ++ [13, 10]), by omega, by go_num, fld_str s3 q r, rfl, HN.out, HNX.out, fun h => absurd h (by decide), HBN.out.trans ((belowN _).mono HBN.out.size)⟩
            case measure => simp [intOf]; omega
          · cases T
            · skip
              go_wp2_with fail
              go_quiet ((go_at_call 22; exact Calls.quiet_of_same (HQT.out _)))
              go_wp2_with fail
              go_roundw
              case rel => exact ⟨k + 1, false, s3 ++ (q ++ [58, 32] ++ r ++ [13, 10]), by omega, by go_num, fld_str s3 q r, rfl, HN.out, HNX.out, fun h => absurd h (by decide), HBN.out.trans ((belowN _).mono HBN.out.size)⟩
              case measure => simp [intOf]; omega
            · cases X
              · skip
                go_wp2_with fail
                go_quiet (first | (go_at_call 22; exact Calls.quiet_of_same (HQT.out _)) | (go_at_call 23; exact Calls.quiet_of_same ((HRX.out _).mono fun _ _ h => ⟨h.1, h.2.symm⟩)))
                go_wp2_with fail
                go_roundw
                case rel => exact ⟨k + 1, false, s3 ++ (q ++ [58, 32] ++ r ++ [13, 10]), by omega, by go_num, fld_str s3 q r, rfl, HN.out, HNX.out, fun h => absurd h (by decide), HBN.out.trans ((belowN _).mono HBN.out.size)⟩
                case measure => simp [intOf]; omega
              · skip
                have HNT : Hid ((M == r) = (FO && (xs.take (k + 1)).all fldOk)) := Lib.hid (by rw [← HNX.out]; simp)
                clear HNX
                go_wp2_with fail
                go_quiet (first | (go_at_call 22; exact Calls.quiet_of_same (HQT.out _)) | (go_at_call 23; exact Calls.quiet_of_same ((HRX.out _).mono fun _ _ h => ⟨h.1, h.2.symm⟩)) | (go_at_call 24; exact Calls.quiet_of_same ((HRT.out _).mono fun _ _ h => ⟨h.1, h.2.symm⟩)))
                go_wp2_with fail
                go_roundw
                case rel => exact ⟨k + 1, (M == r), s3 ++ (q ++ [58, 32] ++ r ++ [13, 10]), by omega, by go_num, fld_str s3 q r, rfl, HN.out, HNT.out, fun _ => HNS.out (by trivial), HBN.out.trans ((belowN _).mono HBN.out.size)⟩
                case measure => simp [intOf]; omega
        · have hkr := HK.out.below hb (by have := HZ1.out; omega)
          have p3 := hkr.at (o := 3) rfl
          have HBF := Lib.hid (HBW.out.trans (hb.mono HBW.out.size))
          have hs4 : (s3 ++ [13, 10]).length ≤ 60000 := by simp; omega
          have hkk : k = xs.length := by omega
          subst hkk
          clear hl3 hb hkr HV HM hlt hk
          have hstr : ByteArray.mk s3.toArray ++ ByteArray.mk #[13, 10] = ByteArray.mk (s3 ++ [13, 10]).toArray := str_app s3 [13, 10]
          rw [List.take_length] at hk3
          have HK4 := Lib.hid hk3
          clear hk3 HK3
          cases ok3
          · have HC : Hid (outC asks a b st xs = 4) := Lib.hid (by rw [HCO.out]; unfold codeL; rw [← HK4.out, if_pos rfl])
            clear hstr HK4
            go_wp2_with fail
            exact bodyPost_ret (v := .tuple #[.slice none 0 0, .int .i64 4]) (by simp [results, Tryz.results14, go_sem]) rfl (by rw [HC.out]; exact ⟨_, rfl, fun h => absurd h (by decide), fun _ => rfl, HBF.out⟩)
          · have hls := HL3.out rfl
            rw [List.take_length] at hls
            have hfl : s3 ++ [13, 10] = flatL (S :: xs.map fldS) := by rw [flat_lns, hls]
            obtain ⟨F, hF⟩ : ∃ F, F = s3 ++ [13, 10] := ⟨_, rfl⟩
            rw [← hF] at hstr hs4 hfl
            have hcode : outC asks a b st xs = if 4096 < F.length ∨ 24 < xs.length then 3 else 0 := by
              rw [HCO.out, hfl]; unfold codeL; rw [← HK4.out, if_neg (by decide)]
            have HFL : Hid (outL asks a b st xs = F) := Lib.hid (by rw [HOU.out, hfl])
            obtain ⟨c, W, hr, hBW, hbs, hlt4, hc1, hc2⟩ := conv_newc F wr (by omega)
            have HBWF := Lib.hid (HBF.out.trans (hBW.mono HBF.out.size))
            have HBS := Lib.hid hbs
            have HLT4 := Lib.hid hlt4
            have HC2 := Lib.hid (And.intro hc1 hc2)
            clear hF hls hfl hBW hbs hlt4 hc1 hc2 HK4
            by_cases h5 : (4096 : Int) < (F.length : Int)
            · rw [if_pos (by omega)] at hcode
              have HC := Lib.hid hcode; clear hcode
              go_wp2_with fail
              exact bodyPost_ret (v := .tuple #[.slice none 0 0, .int .i64 3]) (by simp [results, Tryz.results14, go_sem]) rfl (by rw [HC.out]; exact ⟨_, rfl, fun h => absurd h (by decide), fun _ => rfl, HBF.out⟩)
            · by_cases h6 : (24 : Int) < (xs.length : Int)
              · rw [if_pos (by omega)] at hcode
                have HC := Lib.hid hcode; clear hcode
                go_wp2_with fail
                exact bodyPost_ret (v := .tuple #[.slice none 0 0, .int .i64 3]) (by simp [results, Tryz.results14, go_sem]) rfl (by rw [HC.out]; exact ⟨_, rfl, fun h => absurd h (by decide), fun _ => rfl, HBF.out⟩)
              · rw [if_neg (by omega)] at hcode
                have HC := Lib.hid hcode; clear hcode
                go_wp2_with fail
                exact bodyPost_ret (v := .tuple #[.slice (some ⟨wr.heap.size, 0, none⟩) F.length c, .int .i64 0]) (by simp [results, Tryz.results14, go_sem]) rfl (by rw [HC.out, HFL.out]; exact ⟨_, rfl, fun _ => ⟨wr.heap.size, c, rfl, HBF.out.size, HLT4.out, HBS.out, HC2.out.1, HC2.out.2⟩, fun h => absurd rfl h, HBWF.out⟩)
end Go.Proofs.YtajclihnoedecaaGreatDoor
set_option maxRecDepth 100000
namespace Go.Proofs.YtajclihnoedecaaGreatDoor
open Go.RowKit Go.Shelf
attribute [local go_sem] Oper.semAt_some
/-- A head's four cells, written. -/
abbrev put4 (W : World) (b : Nat) (x0 x1 x2 x3 : Value) : World := (((W.setCell ⟨b, 0, none⟩ x0).setCell ⟨b, 1, none⟩ x1).setCell ⟨b, 2, none⟩ x2).setCell ⟨b, 3, none⟩ x3
theorem put4_blk {W : World} {b : Nat} {y0 y1 y2 y3 : Value} (h : Blk W b [y0, y1, y2, y3]) (x0 x1 x2 x3 : Value) : Blk (put4 W b x0 x1 x2 x3) b [x0, x1, x2, x3] :=
  (((h.set 0 x0).set 1 x1).set 2 x2).set 3 x3
theorem put4_grown (W : World) (b : Nat) (x0 x1 x2 x3 : Value) : W.grownBy (put4 W b x0 x1 x2 x3) (some b) := by
  have g := fun (W : World) (i : Nat) (x : Value) => grown_set W ⟨b, i, none⟩ x
  exact (((g W 0 x0).trans (g _ 1 x1)).trans (g _ 2 x2)).trans (g _ 3 x3)
theorem put4_below {w W : World} {B b : Nat} (h : Below B w W) (hb : B ≤ b) (x0 x1 x2 x3 : Value) : Below B w (put4 W b x0 x1 x2 x3) :=
  (((h.setCell (p := ⟨b, 0, none⟩) hb x0).setCell (p := ⟨b, 1, none⟩) hb x1).setCell (p := ⟨b, 2, none⟩) hb x2).setCell (p := ⟨b, 3, none⟩) hb x3
theorem put4_ownP {W : World} {base b : Nat} {v : Value} {fs : PrL} (h : OwnP W base v fs) (hb : b < base) (x0 x1 x2 x3 : Value) : OwnP (put4 W b x0 x1 x2 x3) base v fs :=
  World.ownsRow.kept h (put4_grown W b x0 x1 x2 x3) (.inr (fun e => by have : base ≤ b := (World.ownsRow.lt h b e).1; omega))
theorem put4_ownB {W : World} {base b : Nat} {v : Value} {l : List UInt8} (h : OwnB W base v l) (hb : b < base) (x0 x1 x2 x3 : Value) : OwnB (put4 W b x0 x1 x2 x3) base v l :=
  World.ownsRow.kept h (put4_grown W b x0 x1 x2 x3) (.inr (fun e => by have : base ≤ b := (World.ownsRow.lt h b e).1; omega))
theorem code_zero {ok : Bool} {l : List UInt8} {fs : PrL} (h : codeL ok l fs = 0) : ok = true ∧ fs.all fldOk = true ∧ (flatL (l :: fs.map fldS)).length ≤ 4096 ∧ fs.length ≤ 24 := by
  unfold codeL at h
  split at h
  · exact absurd h (by decide)
  · rename_i h1
    split at h
    · exact absurd h (by decide)
    · rename_i h2
      have h3 : (ok && fs.all fldOk) = true := by simpa using h1
      rw [Bool.and_eq_true] at h3
      exact ⟨h3.1, h3.2, by omega, by omega⟩
theorem first_read (asks : Bool) (a b : List UInt8) (st : Int) (h : firstOk asks a b st = true) (h1 : asks = false → b = []) (h2 : asks = true → st = 0) : hdA asks (firstS asks a b st) = (a, b, st, true) ∧ lineOk (firstS asks a b st) := by
  cases asks
  · have hb := h1 rfl
    subst hb
    have h3 : ((decide (100 ≤ st) && decide (st ≤ 999)) && txtB a) = true := h
    rw [Bool.and_eq_true, Bool.and_eq_true, decide_eq_true_eq, decide_eq_true_eq] at h3
    have h4 := (ans_iff st a).2 h3
    refine ⟨?_, ans_ok h3.1.1 h3.1.2 h3.2⟩
    show ((ansT (ansS st a)).2.1, [], (ansT (ansS st a)).1, (ansT (ansS st a)).2.2) = _
    rw [h4]
  · have hs := h2 rfl
    subst hs
    have h3 : (tokB a && tgtB b) = true := h
    rw [Bool.and_eq_true] at h3
    have h4 := (ask_iff a b).2 h3
    refine ⟨?_, ask_ok h3.1 h3.2⟩
    show ((reqT (askS a b)).1, (reqT (askS a b)).2.1, 0, (reqT (askS a b)).2.2) = _
    rw [h4]
theorem round_all (asks : Bool) (a b : List UInt8) (st : Int) (fs : PrL) (t : List UInt8) (hz : outC asks a b st fs = 0) (h1 : asks = false → b = []) (h2 : asks = true → st = 0) :
    parseL (fun l => (hdA asks l).2.2.2) (outL asks a b st fs ++ t) = (fs, ((outL asks a b st fs).length : Int), 0) ∧ hdA asks (line0 (outL asks a b st fs ++ t)) = (a, b, st, true) ∧ (outL asks a b st fs).length ≤ 4096 ∧ fs.length ≤ 24 ∧ 4 ≤ (outL asks a b st fs).length := by
  obtain ⟨c1, c2, c3, c4⟩ := code_zero hz
  obtain ⟨r1, r2⟩ := first_read asks a b st c1 h1 h2
  have hf : ∀ f ∈ fs, lineOk (fldS f) := fun f hf => fld_ok (List.all_eq_true.1 c2 f hf)
  refine ⟨parse_round _ _ fs t (by rw [r1]) r2 c2 hf c3 c4, ?_, c3, c4, lns_pos _ _⟩
  have hl : headLines (outL asks a b st fs ++ t) = firstS asks a b st :: fs.map fldS := flat_lines _ _ (by
    intro x hx
    rcases List.mem_cons.1 hx with rfl | hx
    · exact r2
    · obtain ⟨f, hf2, rfl⟩ := List.mem_map.1 hx
      exact hf f hf2) c3 t
  have e : line0 (outL asks a b st fs ++ t) = firstS asks a b st := by
    unfold line0
    rw [hl]; rfl
  rw [e, r1]
theorem sl_bs {W : World} {g c : Nat} {l : List UInt8} (hb : Bs W g 0 l) (hc : l.length ≤ c) (hm : c ≤ 9223372036854775807) : Sl W (g + 1) (.slice (some ⟨g, 0, none⟩) l.length c) l :=
  ⟨_, c, rfl, (fun h => by cases h), hc, hm, fun _ => ⟨g, 0, rfl, by omega, hb⟩⟩
set_option maxHeartbeats 4000000 in
theorem headPrints_law (asks : Bool) (a b : List UInt8) (st : Int) (v0 : Value) (l : Prs) (B0 : Nat) (vb0 : Value) (lb : List UInt8) (w : World) (hv : PrIn w v0 l) (hbig : ∀ x ∈ l, x.1.length ≤ 9223372036854775807 ∧ x.2.length ≤ 9223372036854775807) (ha : a.length ≤ 9223372036854775807) (hb0 : b.length ≤ 9223372036854775807)
    (hs0 : -9223372036854775808 ≤ st) (hs1 : st ≤ 9223372036854775807) (hvb : Sl w B0 vb0 lb) (hB : B0 ≤ w.heap.size) (hE : Env w) :
    Calls Tryz.prog 4 #[.agg #[str a, str b, .int .i64 st, v0], .bool asks, vb0] w fun e w' => e = .returned (.bool true) ∧ Below w.heap.size w w' := by
  have hk := Blk.newA w #[str a, str b, .int .i64 st, v0] 29
  have hb1 : Below w.heap.size w (w.alloc (.cells #[str a, str b, .int .i64 st, v0] 29)) := (Below.refl _ w).alloc (Nat.le_refl _) _
  have HE0 := Lib.hid hE
  have HA := Lib.hid (awake9 _ (hE.below hb1))
  have HK := Lib.hid hk
  have HB1 := Lib.hid hb1
  have HV := Lib.hid (hv.below hb1)
  have HE := Lib.hid (hE.below hb1)
  have HVB := Lib.hid (hvb.below hb1 hB)
  have HBIG := Lib.hid hbig
  clear hk hb1 hE hbig hvb
  obtain ⟨A0, c0, rfl, hA1, hA2, hA3⟩ := id hv
  clear hA3 hv
  obtain ⟨V0, hV0⟩ : ∃ V0, V0 = Value.slice A0 (List.length l) c0 := ⟨_, rfl⟩
  go_enter Tryz.func4, Tryz.ntmps4
  go_wp2_with fail
  refine HA.out.mono ?_
  rintro e w1 ⟨rfl, hB⟩
  have hkr := HK.out.below hB (by simp)
  have HK1 := Lib.hid hkr
  have hB2 := HB1.out.trans (hB.mono (by simp))
  have HB2 := Lib.hid hB2
  have HE2 := Lib.hid (HE.out.below hB)
  have q0 := hkr.at (o := 0) rfl
  have q1 := hkr.at (o := 1) rfl
  have q2 := hkr.at (o := 2) rfl
  have q3 := hkr.at (o := 3) rfl
  have HVB2 := Lib.hid (HVB.out.below hB (by simp; omega))
  have HF := Lib.hid (few_any a b st _ l asks w1 (HV.out.below hB) HBIG.out ha hb0)
  have hlt1 : w.heap.size < w1.heap.size := hkr.lt
  clear hkr hB hB2 HA HK HB1 HV HE HBIG ha hb0 HVB
  go_wp2_with fail
  refine HF.out.mono ?_
  rintro e w2 ⟨v, rfl, hO, hB⟩
  have hx1 : (a.take 100).length ≤ 100 := by rw [List.length_take]; omega
  have hx2 : (if asks then b.take 2500 else []).length ≤ 2500 := by cases asks <;> simp; omega
  obtain ⟨A1, hA1⟩ : ∃ A1, A1 = a.take 100 := ⟨_, rfl⟩
  obtain ⟨B1, hB1⟩ : ∃ B1, B1 = (if asks then b.take 2500 else []) := ⟨_, rfl⟩
  obtain ⟨S1, hS1⟩ : ∃ S1, S1 = (if asks then (0 : Int) else st) := ⟨_, rfl⟩
  have HF1 : Hid ((asks = false → B1 = []) ∧ (asks = true → S1 = 0)) := Lib.hid ⟨fun e => by rw [hB1, e]; rfl, fun e => by rw [hS1, e]; rfl⟩
  have HF2 : Hid (-9223372036854775808 ≤ S1 ∧ S1 ≤ 9223372036854775807) := Lib.hid (by rw [hS1]; cases asks <;> simp <;> omega)
  rw [← hA1] at hx1
  rw [← hB1] at hx2
  rw [← hA1, ← hB1, ← hS1]
  have HX := Lib.hid (And.intro hx1 hx2)
  clear hx1 hx2 hA1 hB1 hS1
  have HB3 := Lib.hid (HB2.out.trans (hB.mono HB2.out.size))
  have hz2 := hB.size
  have HK2 := Lib.hid (HK1.out.below hB hlt1)
  have HO := Lib.hid hO
  have HE3 := Lib.hid (HE2.out.below hB)
  have HC := Lib.hid (cut_any B0 vb0 lb 50 w2 (HVB2.out.below hB (by omega)) (by omega) (by omega) (by omega))
  clear hO hB HF HB2 HE2 HK1 HVB2
  go_wp2_with fail
  refine HC.out.mono ?_
  rintro e w3 ⟨vb, rfl, hOB, hB⟩
  have hk3 := HK2.out.below hB (by omega)
  have r0 := hk3.at (o := 0) rfl
  have r1 := hk3.at (o := 1) rfl
  have r2 := hk3.at (o := 2) rfl
  have r3 := hk3.at (o := 3) rfl
  have f0 := hk3.free 0
  have f1 := hk3.free 1
  have f2 := hk3.free 2
  have f3 := hk3.free 3
  obtain ⟨Av, cv, rfl⟩ := HO.out.form
  go_upto_region 4 with fail
  have hfl := fewL_len l
  have hfm := fewL_mem l
  obtain ⟨fs, hfs⟩ : ∃ fs, fs = fewL l := ⟨_, rfl⟩
  rw [← hfs] at hfl hfm HO ⊢
  obtain ⟨W4, hW4⟩ : ∃ W4, W4 = put4 w3 w.heap.size (str A1) (str B1) (.int .i64 S1) (.slice Av fs.length cv) := ⟨_, rfl⟩
  have hz3 := hB.size
  have HK4 := Lib.hid (show Blk W4 w.heap.size _ from by rw [hW4]; exact put4_blk hk3 _ _ _ _)
  have HO4 := Lib.hid (show OwnP W4 w1.heap.size _ fs from by rw [hW4]; exact put4_ownP (HO.out.below hB) hlt1 _ _ _ _)
  have HOB4 := Lib.hid (show OwnB W4 w2.heap.size vb (lb.take (50 : Int).toNat) from by rw [hW4]; exact put4_ownB hOB (by omega) _ _ _ _)
  have HB4 := Lib.hid (show Below w.heap.size w W4 from by rw [hW4]; exact put4_below (HB3.out.trans (hB.mono HB3.out.size)) (Nat.le_refl _) _ _ _ _)
  have hW5 := hW4
  unfold put4 at hW5
  rw [← hW5]
  clear hW5
  have hz4 : W4.heap.size = w3.heap.size := by rw [hW4]; simp
  obtain ⟨tl, htl⟩ : ∃ tl, tl = lb.take (50 : Int).toNat := ⟨_, rfl⟩
  have htll : tl.length ≤ 50 := by rw [htl, List.length_take]; omega
  rw [← htl] at HOB4
  obtain ⟨C, hC⟩ : ∃ C, C = outC asks A1 B1 S1 fs := ⟨_, rfl⟩
  obtain ⟨F, hF⟩ : ∃ F, F = outL asks A1 B1 S1 fs := ⟨_, rfl⟩
  have HRD : Hid (C = 0 → parseL (fun l => (hdA asks l).2.2.2) (F ++ tl) = (fs, (F.length : Int), 0) ∧ hdA asks (line0 (F ++ tl)) = (A1, B1, S1, true) ∧ F.length ≤ 4096 ∧ fs.length ≤ 24 ∧ 4 ≤ F.length) :=
    Lib.hid (fun e => by rw [hF]; exact round_all asks A1 B1 S1 fs tl (by rw [← hC]; exact e) HF1.out.1 HF1.out.2)
  have HP := Lib.hid (print_any asks A1 B1 S1 _ fs W4 (HE0.out.below HB4.out) HO4.out.prIn hfl hfm HX.out.1 HX.out.2 HF2.out.1 HF2.out.2)
  have HR := Lib.hid (fun W (h : PrIn W (.slice Av fs.length cv) fs) => refBytes_any asks A1 B1 S1 (.slice Av fs.length cv) fs W h hfl hfm HX.out.1 HX.out.2)
  rw [← hC, ← hF] at HP HR
  have p0 := HK4.out.at (o := 0) rfl
  have p1 := HK4.out.at (o := 1) rfl
  have p2 := HK4.out.at (o := 2) rfl
  have p3 := HK4.out.at (o := 3) rfl
  have hlt4 : w.heap.size < W4.heap.size := HK4.out.lt
  clear hW4 hfs htl hC hF hk3 hOB hB r0 r1 r2 r3 f0 f1 f2 f3 q0 q1 q2 q3 HK2 HO HE3 HC HB3 HF1 HF2 HX hfl hfm
  go_wp2_with fail
  refine HP.out.mono ?_
  rintro e w5 ⟨v5, rfl, h5a, h5b, hB5⟩
  have hk5 := HK4.out.below hB5 hlt4
  have t0 := hk5.at (o := 0) rfl
  have t1 := hk5.at (o := 1) rfl
  have t2 := hk5.at (o := 2) rfl
  have t3 := hk5.at (o := 3) rfl
  have HB5 := Lib.hid (HB4.out.trans (hB5.mono HB4.out.size))
  have HK5 := Lib.hid hk5
  have HB45 := Lib.hid hB5
  have HR5 := Lib.hid (HR.out w5 (HO4.out.prIn.below hB5))
  have hz5 := hB5.size
  have H5 := Lib.hid (And.intro h5a h5b)
  clear hk5 hB5 HP HR h5a h5b p0 p1 p2 p3
  go_wp2_with fail
  refine HR5.out.mono ?_
  rintro e w6 ⟨v6, rfl, h6a, h6b, hB6⟩
  have HB6 := Lib.hid (HB5.out.trans (hB6.mono HB5.out.size))
  have HB46 := Lib.hid (HB45.out.trans (hB6.mono hz5))
  have HK6 := Lib.hid (HK5.out.below hB6 (by omega))
  have hz6 := hB6.size
  by_cases hx : C = 0
  · subst hx
    obtain ⟨g5, c5, rfl, hg5, hgl5, hbs5, hc5, hm5⟩ := H5.out.1 rfl
    obtain ⟨g6, c6, rfl, hg6, hgl6, hbs6, hc6, hm6⟩ := h6a rfl
    have hbs56 := hbs5.below hB6 hgl5
    have HS5 := Lib.hid (sl_bs hbs56 hc5 hm5)
    have HSM := Lib.hid (same_true _ _ _ _ F w6 (sl_bs hbs56 hc5 hm5) (sl_bs hbs6 hc6 hm6))
    obtain ⟨hrd1, hrd2, hrd3, hrd4, hrd5⟩ := HRD.out rfl
    obtain ⟨G, hG⟩ : ∃ G, G = F ++ tl := ⟨_, rfl⟩
    rw [← hG] at hrd1 hrd2
    have HG := Lib.hid hG
    have HGL : Hid (0 < G.length ∧ G.length ≤ 5000) := Lib.hid (by rw [hG, List.length_append]; omega)
    clear hG
    have HRD1 := Lib.hid hrd1; have HRD2 := Lib.hid hrd2; have HRD4 := Lib.hid hrd4
    clear h6a h6b hbs5 hbs6 hbs56 hB6 hrd1 hrd2 hrd4 HR5 HK5 HB5 H5 t0 t1 t2 t3
    go_wp2_with fail
    refine HSM.out.mono ?_
    rintro e w7 ⟨rfl, rfl⟩
    have HCP := Lib.hid (copy_any (g5 + 1) _ F w6 HS5.out (by omega) (by omega))
    have HFP := Lib.hid (And.intro hrd3 (And.intro htll hrd5))
    go_wp2_with fail
    refine HCP.out.mono ?_
    rintro e w8 ⟨v8, rfl, hO8, hB8⟩
    have hz8 := hB8.size
    have HO8 := Lib.hid hO8
    have HB8 := Lib.hid hB8
    have HOT := Lib.hid (((HOB4.out.below HB46.out).below hB8).sl)
    clear hO8 hB8 HCP HSM HS5
    go_wp2_with (at_builtin; ((with_reducible refine wpList_app_sl ?g1 (.tmp 46) (.tmp 47) ?g2 w6.heap.size v8 F tl ?g3 ?g4 w8.heap.size vb ?g5 ?g6 ?g7 ?g8 ?_); (case g1 => rfl); (case g2 => rfl); (case g3 => rfl); (case g4 => exact HO8.out); (case g5 => rfl); (case g6 => exact HOT.out); (case g7 => have := HFP.out; omega); (case g8 => exact hz8); intro v9 w9 hv9 hg9; rw [← HG.out] at hv9; have HB9 := Lib.hid (HB8.out.trans (HO8.out.belowBase hg9 hz8)); obtain ⟨g9, c9, e9, hl9, hs9, hc9, hm9, hbs9, _⟩ := hv9.form HGL.out.1; subst e9; have HG9 := Lib.hid (And.intro hl9 (And.intro hs9 (And.intro hc9 hm9))); have HBS9 := Lib.hid hbs9; clear hv9 hg9 hl9 hs9 hc9 hm9 hbs9))
    have HW9 := Lib.hid (HB6.out.trans (HB9.out.mono HB6.out.size))
    have HPA := Lib.hid (lawParse_any asks g9 0 c9 G w9 (HE0.out.below HW9.out) HBS9.out HG9.out.2.1 HG9.out.2.2.1 (by have := HG9.out.2.2.2; unfold maxLen at this; omega) HGL.out.2)
    have hz9 := HB9.out.size
    go_wp2_with fail
    refine HPA.out.mono ?_
    rintro e w10 ⟨v10, fs', n, x, rfl, hp, hO10, hB10⟩
    rw [HRD1.out] at hp
    injection hp with e1 hp
    injection hp with e2 e3
    subst e1 e2 e3
    obtain ⟨a1, ha1⟩ : ∃ a1, a1 = if (0 : Int) = 0 then (hdA asks (line0 G)).1 else [] := ⟨_, rfl⟩
    obtain ⟨b1, hb1⟩ : ∃ b1, b1 = if (0 : Int) = 0 then (hdA asks (line0 G)).2.1 else [] := ⟨_, rfl⟩
    obtain ⟨s1, hs1⟩ : ∃ s1, s1 = if (0 : Int) = 0 then (hdA asks (line0 G)).2.2.1 else 0 := ⟨_, rfl⟩
    rw [← ha1, ← hb1, ← hs1]
    rw [if_pos rfl, HRD2.out] at ha1 hb1 hs1
    simp only at ha1 hb1 hs1
    obtain ⟨Ab, cb, rfl⟩ := hO10.form
    rw [ha1, hb1, hs1]
    have hz10 := hB10.size
    have hbw11 : Below w10.heap.size w10 (w10.alloc (.cells #[str A1, str B1, .int .i64 S1, .slice Ab fs.length cb] 29)) := (Below.refl _ _).alloc (Nat.le_refl _) _
    have HW10 := Lib.hid ((HW9.out.trans (hB10.mono HW9.out.size)))
    have hB610 : Below w6.heap.size w6 w10 := HB9.out.trans (hB10.mono hz9)
    have hk11 := (HK6.out.below hB610 (by omega)).alloc (.cells #[str A1, str B1, .int .i64 S1, .slice Ab fs.length cb] 29)
    have k0 := hk11.at (o := 0) rfl
    have k1 := hk11.at (o := 1) rfl
    have k2 := hk11.at (o := 2) rfl
    have k3 := hk11.at (o := 3) rfl
    have HO11 := Lib.hid (hO10.below hbw11)
    have HO4b := Lib.hid (((HO4.out.below HB46.out).below hB610).below hbw11)
    have HW11 := Lib.hid (HW10.out.trans (hbw11.mono HW10.out.size))
    have HSM2 := Lib.hid (sameHd_any A1 B1 S1 _ _ _ _ fs _ HO11.out HO4b.out HRD4.out)
    have hlw : w.heap.size < w10.heap.size := by omega
    clear ha1 hb1 hs1 hO10 hB10 hbw11 hB610 hk11 HPA HG9 HBS9
    go_wp2_with fail
    refine HSM2.out.mono ?_
    rintro e w12 ⟨rfl, hB12⟩
    have HFIN := Lib.hid (HW11.out.trans (hB12.mono HW11.out.size))
    clear hB12 k0 k1 k2 k3
    go_wp2_with fail
    go_ret
    exact ⟨rfl, HFIN.out⟩
  · have e5 := H5.out.2 hx
    have e6 := h6b hx
    subst e5 e6
    have HSM := Lib.hid (same_true _ _ _ _ [] w6 (OwnB.nil w6 w6.heap.size).sl (OwnB.nil w6 w6.heap.size).sl)
    have hx1 : (C != 0) = true := by rw [bne_iff_ne]; exact hx
    have hx2 : (C == 0) = false := by rw [beq_eq_false_iff_ne]; exact hx
    clear h6a h6b hB6 hx HRD HR5 H5
    go_wp2_with fail
    refine HSM.out.mono ?_
    rintro e w7 ⟨rfl, rfl⟩
    go_wp2_with fail
    go_ret
    exact ⟨rfl, HB6.out⟩
theorem prints_w (B0 : Nat) (v0 : Value) (a b : List UInt8) (st : Int) (u : Value) (ls : Prs) (asks : Bool) (vb0 : Value) (lb : List UInt8) (w : World) (h0 : HdArg w v0 a b st u ls) (hvb : Sl w B0 vb0 lb) (hB : B0 ≤ w.heap.size) (hE : Env w) :
    Calls Tryz.prog 4 #[v0, .bool asks, vb0] w fun e w' => e = .returned (.bool true) ∧ Below w.heap.size w w' := by
  obtain ⟨rfl, ha, hb, hp, hs⟩ := h0
  have hr : -9223372036854775808 ≤ st ∧ st ≤ 9223372036854775807 := by
    simp [Lit.wf, IntKind.min, IntKind.max, IntKind.bits, IntKind.signed] at hs
    omega
  exact headPrints_law asks a b st u ls B0 vb0 lb w hp.1 hp.2 ha hb hr.1 hr.2 hvb hB hE
end Go.Proofs.YtajclihnoedecaaGreatDoor
