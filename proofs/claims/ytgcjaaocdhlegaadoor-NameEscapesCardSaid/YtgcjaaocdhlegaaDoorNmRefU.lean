/- The reference's Unescape. -/
import Derived.Test.YtgcjaaocdhlegaaDoorNmRefE
namespace Go.Proofs.YtgcjaaocdhlegaaDoor
open Go.RowKit
/-- The three bytes from a place on, as a text. -/
theorem cut_three (s : List UInt8) (k : Nat) (h : k + 3 ≤ s.length) (W : World) : (Instr.slice 9 (str s) (some (.int .i64 (k : Int))) (some (.int .i64 ((k : Int) + 3))) none).run Tryd.prog W = .ok (str ((s.drop k).take 3)) W := by
  have e : (ByteArray.mk s.toArray).extract k (k + 3) = ByteArray.mk ((s.drop k).take 3).toArray := by
    apply ByteArray.ext
    simp [ByteArray.data_extract]
  go_simp
  rw [if_pos ⟨by omega, by omega⟩, if_pos (by omega)]
  rw [show ((k : Int) + 3).toNat = k + 3 by omega, e]
/-- The walk's rest: what is told already, whether a comma was met, and what is still to read. -/
def unG (s : List UInt8) (o : List UInt8) (c : Bool) : List UInt8 × Int := match unL s with
  | none => ([], 4)
  | some r => if c || s.contains 44 then ([], 5) else (o ++ r, 0)
theorem unG_all (s : List UInt8) : unG s [] false = unR s := by
  unfold unG unR
  cases unL s with
  | none => rfl
  | some r => simp
theorem unG_2c (t o : List UInt8) (c : Bool) : unG (61 :: 50 :: 67 :: t) o c = unG t (o ++ [44]) c := by
  unfold unG
  rw [unL_2c]
  cases unL t with
  | none => rfl
  | some r => simp
theorem unG_3d (t o : List UInt8) (c : Bool) : unG (61 :: 51 :: 68 :: t) o c = unG t (o ++ [61]) c := by
  unfold unG
  rw [unL_3d]
  cases unL t with
  | none => rfl
  | some r => simp
theorem unG_other (b : UInt8) (t o : List UInt8) (c : Bool) (h : b ≠ 61) : unG (b :: t) o c = unG t (o ++ [b]) (c || b == 44) := by
  unfold unG
  rw [unL_other b t h]
  cases unL t with
  | none => rfl
  | some r =>
    have e : ((44 : UInt8) == b) = (b == 44) := by rw [Bool.eq_iff_iff, beq_iff_eq, beq_iff_eq]; exact eq_comm
    simp only [Option.map_some]
    rw [List.contains_cons, e, ← Bool.or_assoc, List.append_assoc, List.singleton_append]
set_option maxRecDepth 100000 in
set_option maxHeartbeats 1000000 in
theorem refUnescape_any (s : List UInt8) (w : World) (hs : s.length ≤ 600) :
    Calls Tryd.prog 30 #[str s] w fun e w' => e = .returned (.tuple #[str (unR s).1, .int .i64 (unR s).2]) ∧ w = w' := by
  obtain ⟨R, hR⟩ : ∃ R, R = unR s := ⟨_, rfl⟩
  have h0 : unG (s.drop 0) [] false = R := by rw [hR]; exact unG_all s
  rw [← hR]
  clear hR
  have H0 := Lib.hid h0; clear h0
  go_enter Tryd.func30, Tryd.ntmps30
  go_wp2_with fail
  go_loop [4, 5, 6] (fun o c i => ∃ (k : Nat) (ol : List UInt8) (cb : Bool), k ≤ s.length ∧ i = .int .i64 k ∧ o = str ol ∧ c = .bool cb ∧ ol.length ≤ k ∧ unG (s.drop k) ol cb = R) (fun _ _ i => s.length - (intOf i).toNat)
  case atStart => exact ⟨0, [], false, by omega, rfl, rfl, rfl, by simp, H0.out⟩
  case round =>
    obtain ⟨k, ol, cb, hk, rfl, rfl, rfl, hol, hG⟩ := hrel
    clear H0
    by_cases hlt : k < s.length
    · have hi := str_index s k hlt w
      have hdl : (s.drop k).length = s.length - k := List.length_drop ..
      have hgd : s.getD k 0 = (s.drop k).getD 0 0 := by simp [List.getD_eq_getElem?_getD]
      rw [hgd] at hi
      rcases unL_cases (s.drop k) with e | ⟨t, e⟩ | ⟨t, e⟩ | ⟨t, e, hu, p1, p2⟩ | ⟨b, t, e, hb⟩
      · rw [e] at hdl; simp at hdl; omega
      · have h3 : k + 3 ≤ s.length := by rw [e] at hdl; simp at hdl; omega
        have hc3 := cut_three s k h3 w
        have hi1 := str_index s (k + 1) (by omega) w
        have hg1 : s.getD (k + 1) 0 = (s.drop k).getD 1 0 := by simp [List.getD_eq_getElem?_getD, List.getElem?_drop]
        rw [hg1] at hi1
        have hd3 : s.drop (k + 3) = t := by rw [← List.drop_drop, e]; rfl
        rw [e] at hc3 hi hi1 hG
        rw [unG_2c, ← hd3] at hG
        have HG := Lib.hid hG; clear hG
        rw [show vb ((61 :: 50 :: 67 :: t).getD 0 0) = .int .u8 61 from rfl] at hi
        rw [show vb ((61 :: 50 :: 67 :: t).getD 1 0) = .int .u8 50 from rfl, Int.natCast_succ] at hi1
        rw [show (61 :: 50 :: 67 :: t).take 3 = [61, 50, 67] from rfl] at hc3
        clear e hd3 hdl hgd hg1
        go_wp2_with fail
        go_round
        case rel => exact ⟨k + 3, ol ++ [44], cb, h3, by go_num, congrArg Value.string (str_app ol [44]), rfl, by simp; omega, HG.out⟩
        case measure => simp [intOf]; omega
      · have h3 : k + 3 ≤ s.length := by rw [e] at hdl; simp at hdl; omega
        have hc3 := cut_three s k h3 w
        have hi1 := str_index s (k + 1) (by omega) w
        have hg1 : s.getD (k + 1) 0 = (s.drop k).getD 1 0 := by simp [List.getD_eq_getElem?_getD, List.getElem?_drop]
        rw [hg1] at hi1
        have hd3 : s.drop (k + 3) = t := by rw [← List.drop_drop, e]; rfl
        rw [e] at hc3 hi hi1 hG
        rw [unG_3d, ← hd3] at hG
        have HG := Lib.hid hG; clear hG
        rw [show vb ((61 :: 51 :: 68 :: t).getD 0 0) = .int .u8 61 from rfl] at hi
        rw [show vb ((61 :: 51 :: 68 :: t).getD 1 0) = .int .u8 51 from rfl, Int.natCast_succ] at hi1
        rw [show (61 :: 51 :: 68 :: t).take 3 = [61, 51, 68] from rfl] at hc3
        clear e hd3 hdl hgd hg1
        go_wp2_with fail
        go_round
        case rel => exact ⟨k + 3, ol ++ [61], cb, h3, by go_num, congrArg Value.string (str_app ol [61]), rfl, by simp; omega, HG.out⟩
        case measure => simp [intOf]; omega
      · have hR : R = ([], 4) := by rw [← hG, e]; unfold unG; rw [← e, hu]
        subst hR
        rw [e] at hi
        rw [show vb ((61 :: t).getD 0 0) = .int .u8 61 from rfl] at hi
        clear hG hgd
        by_cases h3 : k + 3 ≤ s.length
        · have hc3 := cut_three s k h3 w
          obtain ⟨u, hu3⟩ : ∃ u, u = (s.drop k).take 3 := ⟨_, rfl⟩
          have n1 : u ≠ [61, 50, 67] := fun e1 => by
            have : ([61, 50, 67] : List UInt8).isPrefixOf (s.drop k) = true := List.isPrefixOf_iff_prefix.2 (by rw [← e1, hu3]; exact List.take_prefix ..)
            rw [p1] at this; cases this
          have n2 : u ≠ [61, 51, 68] := fun e1 => by
            have : ([61, 51, 68] : List UInt8).isPrefixOf (s.drop k) = true := List.isPrefixOf_iff_prefix.2 (by rw [← e1, hu3]; exact List.take_prefix ..)
            rw [p2] at this; cases this
          rw [← hu3] at hc3
          have m1 : (u == [61, 50, 67]) = false := by rw [beq_eq_false_iff_ne]; exact n1
          have m2 : (u == [61, 51, 68]) = false := by rw [beq_eq_false_iff_ne]; exact n2
          clear hu3 e hdl hu p1 p2 n1 n2
          go_wp2_with fail
          go_ret2
          exact ⟨rfl, rfl⟩
        · clear e hdl hu p1 p2
          go_wp2_with fail
          go_ret2
          exact ⟨rfl, rfl⟩
      · have hc := cut_one s k hlt w
        rw [hgd] at hc
        have hd1 : s.drop (k + 1) = t := by rw [← List.drop_drop, e]; rfl
        rw [e] at hi hc hG
        rw [unG_other b t _ _ hb, ← hd1] at hG
        rw [show (b :: t).getD 0 0 = b from rfl] at hi hc
        have HG := Lib.hid hG; clear hG
        clear e hd1 hdl hgd
        have y1 : ((bn b == 61) = false) := by
          rw [beq_eq_false_iff_ne]; intro e; exact hb (UInt8.toNat_inj.1 (by unfold bn at e; have : (61 : UInt8).toNat = 61 := rfl; omega))
        have y2 : (bn b == 44) = (b == 44) := by
          rw [Bool.eq_iff_iff, beq_iff_eq, beq_iff_eq]
          exact ⟨fun e => UInt8.toNat_inj.1 (by unfold bn at e; have : (44 : UInt8).toNat = 44 := rfl; omega), fun e => by rw [e]; rfl⟩
        obtain ⟨β, hβ⟩ : ∃ β, β = (b == 44) := ⟨_, rfl⟩
        rw [← hβ] at y2 HG
        clear hβ
        cases cb with
        | true =>
          go_wp2_with fail
          go_round
          case rel => exact ⟨k + 1, ol ++ [b], true, hlt, by go_num, congrArg Value.string (str_app ol [b]), rfl, by simp; omega, HG.out⟩
          case measure => simp [intOf]; omega
        | false =>
          go_wp2_with fail
          go_round
          case rel => exact ⟨k + 1, ol ++ [b], β, hlt, by go_num, congrArg Value.string (str_app ol [b]), by first | rfl | rw [y2], by simp; omega, HG.out⟩
          case measure => simp [intOf]; omega
    · obtain rfl : k = s.length := by omega
      rw [List.drop_length] at hG
      cases cb with
      | true =>
        have hR : R = ([], 5) := hG.symm
        subst hR
        clear hG
        go_wp2_with fail
        go_ret2
        exact ⟨rfl, rfl⟩
      | false =>
        have hR : R = (ol, 0) := by rw [← hG]; show (ol ++ [], (0 : Int)) = _; rw [List.append_nil]
        subst hR
        clear hG
        go_wp2_with fail
        go_ret2
        exact ⟨rfl, rfl⟩
end Go.Proofs.YtgcjaaocdhlegaaDoor
