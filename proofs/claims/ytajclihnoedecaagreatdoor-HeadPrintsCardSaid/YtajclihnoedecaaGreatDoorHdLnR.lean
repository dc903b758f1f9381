/- The reference's Lines. -/
import Derived.Test.YtajclihnoedecaaGreatDoorHdLnS
import Derived.Test.YtajclihnoedecaaGreatDoorStrI
namespace Go.Proofs.YtajclihnoedecaaGreatDoor
open Go.RowKit Go.Shelf
theorem str_mid (s : List UInt8) (a b : Nat) (h1 : a ≤ b) (h2 : b ≤ s.length) (W : World) : (Instr.slice 9 (str s) (some (.int .i64 (a : Int))) (some (.int .i64 (b : Int))) none).run Tryz.prog W = .ok (str ((s.drop a).take (b - a))) W := by
  have e : (ByteArray.mk s.toArray).extract a b = ByteArray.mk ((s.drop a).take (b - a)).toArray := by
    apply ByteArray.ext
    simp [ByteArray.data_extract]
  go_simp
theorem rl_hit {cur t : List UInt8} : rl cur (13 :: 10 :: t) = (cur, true) :: rl [] t := by rw [rl, if_pos ⟨rfl, rfl⟩]; rfl
theorem rl_miss {cur t : List UInt8} {c : UInt8} (h : ¬ (c = 13 ∧ t.head? = some 10)) : rl cur (c :: t) = rl (cur ++ [c]) t := by rw [rl, if_neg h]
theorem cur_snoc {s : List UInt8} {a p : Nat} (h1 : a ≤ p) (h2 : p < s.length) : (s.drop a).take (p + 1 - a) = (s.drop a).take (p - a) ++ [s[p]] := by
  rw [show p + 1 - a = (p - a) + 1 by omega, List.take_succ_eq_append_getElem (by rw [List.length_drop]; omega)]
  congr 2
  rw [List.getElem_drop]
  congr 1
  omega
def LnInv (w : World) (s : List UInt8) (R : List (List UInt8 × Bool)) (v f i : Value) (A : World) : Prop :=
  ∃ (p a : Nat) (pre : List (List UInt8 × Bool)), a ≤ p ∧ p ≤ s.length ∧ pre.length ≤ p ∧ f = .int .i64 (a : Int) ∧ i = .int .i64 (p : Int) ∧ R = pre ++ rl ((s.drop a).take (p - a)) (s.drop p) ∧ OwnLn A w.heap.size v pre ∧ Below w.heap.size w A
set_option maxRecDepth 100000 in
set_option maxHeartbeats 2000000 in
theorem refLines_any (s : List UInt8) (w : World) (hs : s.length ≤ 5000) :
    Calls Tryz.prog 18 #[str s] w fun e w' => ∃ v', e = .returned v' ∧ OwnLn w' w.heap.size v' (linesL s) ∧ Below w.heap.size w w' := by
  rw [linesL_rl]
  obtain ⟨R, hR⟩ : ∃ R, R = rl [] s := ⟨_, rfl⟩
  rw [← hR]
  have HR := Lib.hid hR; clear hR
  go_enter Tryz.func18, Tryz.ntmps18
  go_wp2_with fail
  go_loopw [3, 4, 5] (fun v f i wr => LnInv w s R v f i wr) (fun _ _ i _ => s.length - (intOf i).toNat)
  case atStart => exact ⟨0, 0, [], by omega, by omega, by simp, rfl, rfl, by rw [HR.out]; rfl, World.ownsRow_nil w _ _ 2, Below.refl _ _⟩
  case round =>
    obtain ⟨p, a, pre, hap, hp, hpl, rfl, rfl, hr, hO, hB⟩ := hrel
    clear HR
    have HO := Lib.hid hO; clear hO
    have HB := Lib.hid hB
    have hz := hB.size
    clear hB
    by_cases hlt : p < s.length
    · have hik := str_index s p hlt wr
      have hgx : s.getD p 0 = s[p] := by rw [List.getD_eq_getElem?_getD, List.getElem?_eq_getElem hlt]; rfl
      have hdc : s.drop p = s[p] :: s.drop (p + 1) := List.drop_eq_getElem_cons hlt
      have hcs := cur_snoc hap hlt
      rw [hgx] at hik
      obtain ⟨x, hx⟩ : ∃ x, x = s[p] := ⟨_, rfl⟩
      rw [← hx] at hik hdc hcs
      clear hx hgx
      have hdc2 : (s.drop (p + 1)).head? = if h : p + 1 < s.length then some s[p + 1] else none := by
        rw [List.head?_drop]
        split
        · rw [List.getElem?_eq_getElem (by omega)]
        · rw [List.getElem?_eq_none (by omega)]
      by_cases h13 : x = 13
      · by_cases hp1 : p + 1 < s.length
        · have hik2 := str_index s (p + 1) hp1 wr
          have hgy : s.getD (p + 1) 0 = s[p + 1] := by rw [List.getD_eq_getElem?_getD, List.getElem?_eq_getElem hp1]; rfl
          rw [dif_pos hp1] at hdc2
          have hdd : s.drop (p + 1) = s[p + 1] :: s.drop (p + 2) := List.drop_eq_getElem_cons hp1
          rw [hgy, show ((p + 1 : Nat) : Int) = (p : Int) + 1 by omega] at hik2
          obtain ⟨y, hy⟩ : ∃ y, y = s[p + 1] := ⟨_, rfl⟩
          rw [← hy] at hik2 hdc2 hdd
          clear hy hgy
          have hp1' : (p : Int) + 1 < (s.length : Int) := by omega
          by_cases h10 : y = 10
          · subst h13 h10
            have hr2 : R = (pre ++ [((s.drop a).take (p - a), true)]) ++ rl ((s.drop (p + 2)).take (p + 2 - (p + 2))) (s.drop (p + 2)) := by
              rw [hr, hdc, hdd, rl_hit]; simp
            have HR2 := Lib.hid hr2
            have hmid := str_mid s a p hap (by omega) wr
            obtain ⟨q, hq⟩ : ∃ q, q = (s.drop a).take (p - a) := ⟨_, rfl⟩
            rw [← hq] at HR2 hmid
            have v13 : vb (13 : UInt8) = .int .u8 13 := rfl
            have v10 : vb (10 : UInt8) = .int .u8 10 := rfl
            rw [v13] at hik
            rw [v10] at hik2
            have HOW := Lib.hid (HO.out.below ((Below.refl wr.heap.size wr).alloc (Nat.le_refl _) (.cells #[str q, .bool true] 61)))
            have HNW := Lib.hid (heap_alloc_new wr (.cells #[str q, .bool true] 61))
            have hzA : w.heap.size ≤ (wr.alloc (.cells #[str q, .bool true] 61)).heap.size := by simp; omega
            have hpl2 : pre.length ≤ 100000 := by omega
            clear hr hr2 hdc hdc2 hdd hcs hq v13 v10
            go_wp2_with (at_builtin; (refine wpList_appLn rfl (.tmp 30) (.tmp 36) rfl w.heap.size u3 pre rfl HOW.out wr.heap.size q true rfl HNW.out hpl2 hzA ?_); intro v5 A1 hO5 hg5; have HO5 := Lib.hid hO5; have HB5 := Lib.hid ((HB.out.alloc hz (.cells #[str q, .bool true] 61)).grown hg5 hzA (fun k hk => (World.ownsRow.lt HOW.out k hk).1)); clear hO5 hg5)
            go_roundw
            case rel => exact ⟨p + 2, p + 2, pre ++ [(q, true)], by omega, by omega, by rw [List.length_append]; simp; omega, by congr 1, by congr 1, HR2.out, HO5.out, HB5.out⟩
            case measure => simp [intOf]; omega
          · have hr2 : R = pre ++ rl ((s.drop a).take (p + 1 - a)) (s.drop (p + 1)) := by
              rw [hr, hdc, rl_miss (by rw [hdc2]; rintro ⟨_, h⟩; exact h10 (by simpa using h)), hcs]
            have HR2 := Lib.hid hr2
            have hy10 : (bn y == 10) = false := by rw [beq_eq_false_iff_ne]; exact fun e => h10 (bn_inj (y := 10) e)
            subst h13
            have v13 : vb (13 : UInt8) = .int .u8 13 := rfl
            rw [v13] at hik
            clear hr hr2 hdc hdc2 hdd hcs h10 v13
            go_wp2_with fail
            go_roundw
            case rel => exact ⟨p + 1, a, pre, by omega, by omega, by omega, rfl, by go_num, HR2.out, HO.out, HB.out⟩
            case measure => simp [intOf]; omega
        · have hr2 : R = pre ++ rl ((s.drop a).take (p + 1 - a)) (s.drop (p + 1)) := by
            rw [dif_neg hp1] at hdc2
            rw [hr, hdc, rl_miss (by rw [hdc2]; rintro ⟨_, h⟩; cases h), hcs]
          have HR2 := Lib.hid hr2
          have hp1' : ¬ (p : Int) + 1 < (s.length : Int) := by omega
          subst h13
          have v13 : vb (13 : UInt8) = .int .u8 13 := rfl
          rw [v13] at hik
          clear hr hr2 hdc hdc2 hcs v13
          go_wp2_with fail
          go_roundw
          case rel => exact ⟨p + 1, a, pre, by omega, by omega, by omega, rfl, by go_num, HR2.out, HO.out, HB.out⟩
          case measure => simp [intOf]; omega
      · have hr2 : R = pre ++ rl ((s.drop a).take (p + 1 - a)) (s.drop (p + 1)) := by
          rw [hr, hdc, rl_miss (fun h => h13 h.1), hcs]
        have HR2 := Lib.hid hr2
        have hx13 : (bn x == 13) = false := by rw [beq_eq_false_iff_ne]; exact fun e => h13 (bn_inj (y := 13) e)
        clear hr hr2 hdc hdc2 hcs h13
        go_wp2_with fail
        go_roundw
        case rel => exact ⟨p + 1, a, pre, by omega, by omega, by omega, rfl, by go_num, HR2.out, HO.out, HB.out⟩
        case measure => simp [intOf]; omega
    · obtain rfl : p = s.length := by omega
      have hd0 : s.drop s.length = [] := List.drop_length
      have htk : (s.drop a).take (s.length - a) = s.drop a := List.take_of_length_le (by rw [List.length_drop]; omega)
      rw [hd0, htk, rl] at hr
      have hsd := str_drop s a hap wr
      have hla : (s.drop a).length = s.length - a := List.length_drop
      obtain ⟨q, hq⟩ : ∃ q, q = s.drop a := ⟨_, rfl⟩
      rw [← hq] at hr hsd hla
      by_cases ha : a < s.length
      · have ha' : (a : Int) < (s.length : Int) := by omega
        have hqn : q ≠ [] := by intro e; rw [e] at hla; simp at hla; omega
        rw [if_neg hqn] at hr
        have HR2 := Lib.hid hr
        have HOW := Lib.hid (HO.out.below ((Below.refl wr.heap.size wr).alloc (Nat.le_refl _) (.cells #[str q, .bool false] 61)))
        have HNW := Lib.hid (heap_alloc_new wr (.cells #[str q, .bool false] 61))
        have hzA : w.heap.size ≤ (wr.alloc (.cells #[str q, .bool false] 61)).heap.size := by simp; omega
        have hpl2 : pre.length ≤ 100000 := by omega
        clear hr hd0 htk hla hq hqn
        go_wp2_with (at_builtin; (refine wpList_appLn rfl (.tmp 46) (.tmp 51) rfl w.heap.size u3 pre rfl HOW.out wr.heap.size q false rfl HNW.out hpl2 hzA ?_); intro v5 A1 hO5 hg5; have HO5 := Lib.hid hO5; have HB5 := Lib.hid ((HB.out.alloc hz (.cells #[str q, .bool false] 61)).grown hg5 hzA (fun k hk => (World.ownsRow.lt HOW.out k hk).1)); clear hO5 hg5)
        go_ret
        exact ⟨_, rfl, by rw [HR2.out]; exact HO5.out, HB5.out⟩
      · have ha' : ¬ (a : Int) < (s.length : Int) := by omega
        have hqn : q = [] := List.eq_nil_of_length_eq_zero (by omega)
        rw [if_pos hqn, List.append_nil] at hr
        have HR2 := Lib.hid hr
        clear hr hd0 htk hla hq hqn hsd
        go_wp2_with fail
        go_ret
        exact ⟨_, rfl, by rw [HR2.out]; exact HO.out, HB.out⟩
end Go.Proofs.YtajclihnoedecaaGreatDoor
