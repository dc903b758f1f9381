/- The reference's number and CutText. -/
import Derived.Test.YtbjhaihfkncdoaaDoorRefEnc
import Derived.Test.YtbjhaihfkncdoaaDoorDec
import Derived.WalkSpells
namespace Go.Proofs.YtbjhaihfkncdoaaDoor
open Go.RowKit

theorem indexByte_is (l : List UInt8) (c : UInt8) (n : Nat) (h : l[n]? = some c) (hb : ∀ k, k < n → l[k]? ≠ some c) : Lib.indexByte l c = n := by
  have h0 := Lib.indexByte_ge l c
  by_cases h1 : Lib.indexByte l c = -1
  · exact absurd h (Lib.indexByte_none h1 n)
  · obtain ⟨o, ho⟩ := Int.eq_ofNat_of_zero_le (show 0 ≤ Lib.indexByte l c by omega)
    obtain ⟨h2, h3⟩ := Lib.indexByte_some ho
    rw [ho]
    have : ¬ o < n := fun h => hb o h h2
    have : ¬ n < o := fun hh => h3 n hh h
    omega
theorem indexByte_not (l : List UInt8) (c : UInt8) (h : ∀ k, k < l.length → l[k]? ≠ some c) : Lib.indexByte l c = -1 := by
  have h0 := Lib.indexByte_ge l c
  by_cases h1 : Lib.indexByte l c = -1
  · exact h1
  · obtain ⟨o, ho⟩ := Int.eq_ofNat_of_zero_le (show 0 ≤ Lib.indexByte l c by omega)
    obtain ⟨h2, _⟩ := Lib.indexByte_some ho
    exact absurd h2 (h o (List.getElem?_eq_some_iff.1 h2).1)
theorem alX_len (u : Bool) : (alX u).length = 64 := by cases u <;> rfl
theorem bn_beq (x y : UInt8) : (bn x == bn y) = (x == y) := by
  by_cases h : x = y
  · subst h; simp
  · have : bn x ≠ bn y := fun e => h (bn_inj e)
    rw [beq_eq_false_iff_ne.2 this, beq_eq_false_iff_ne.2 h]
set_option maxRecDepth 100000 in
set_option maxHeartbeats 400000 in
theorem number_any (c : UInt8) (u : Bool) (w : World) :
    Calls Tryd.prog 41 #[vb c, .bool u] w fun e w' => e = .returned (.int .i64 (Lib.indexByte (alX u) c)) ∧ w = w' := by
  go_enter Tryd.func41, Tryd.ntmps41
  go_wp2_with fail
  go_loop [5] (fun n => ∃ k : Nat, k ≤ 64 ∧ n = .int .i64 (k : Int) ∧ ∀ j, j < k → (alX u)[j]? ≠ some c) (fun n => 64 - (intOf n).toNat)
  case atStart => exact ⟨0, by omega, rfl, fun j hj => by omega⟩
  case round =>
    obtain ⟨k, hk, rfl, hno⟩ := hrel
    have HN := Lib.hid hno; clear hno
    by_cases hlt : k < 64
    · have hx : (alX u)[k]? = some ((alX u).getD k 0) := by rw [List.getD_eq_getElem?_getD, List.getElem?_eq_getElem (by rw [alX_len]; exact hlt)]; rfl
      obtain ⟨x, hx2⟩ : ∃ x, x = (alX u).getD k 0 := ⟨_, rfl⟩
      rw [← hx2] at hx
      have Hx := Lib.hid hx; clear hx
      go_wp2_with fail
      refine (letter_any k u hlt w).mono ?_
      rintro e w1 ⟨rfl, rfl⟩
      rw [← hx2]
      clear hx2
      by_cases he : x = c
      · subst he
        have HI : Hid (Lib.indexByte (alX u) x = k) := Lib.hid (indexByte_is _ _ _ Hx.out HN.out)
        go_wp2_with fail
        go_ret
        exact ⟨by rw [HI.out]; rfl, rfl⟩
      · have hb : (bn x == bn c) = false := by rw [bn_beq]; exact beq_eq_false_iff_ne.2 he
        go_wp2_with fail
        go_round
        case rel => exact ⟨k + 1, by omega, by go_num, fun j hj => by
          by_cases h : j < k
          · exact HN.out j h
          · obtain rfl : j = k := by omega
            rw [Hx.out]; intro e; injection e with e; exact he e⟩
        case measure => simp [intOf]; omega
    · obtain rfl : k = 64 := by omega
      have HI : Hid (Lib.indexByte (alX u) c = -1) := Lib.hid (indexByte_not _ _ (by rw [alX_len]; exact HN.out))
      rw [show (((64 : Nat) : Int)) = (64 : Int) from rfl]
      go_wp2_with fail
      go_ret
      exact ⟨by rw [HI.out]; rfl, rfl⟩
theorem extract_take (s : List UInt8) (m : Nat) : (ByteArray.mk s.toArray).extract 0 m = ByteArray.mk (s.take m).toArray := by
  apply ByteArray.ext
  simp [ByteArray.data_extract]
set_option maxHeartbeats 400000 in
theorem cutText_any (s : List UInt8) (n : Int) (w : World) (hs : s.length ≤ 9223372036854775807) (h0 : 0 ≤ n) (hn : n ≤ 1000000) :
    Calls Tryd.prog 11 #[str s, .int .i64 n] w fun e w' => e = .returned (str (s.take n.toNat)) ∧ w = w' := by
  obtain ⟨m, rfl⟩ := Int.eq_ofNat_of_zero_le h0
  have e : (min (s.length : Int) (m : Int)).toNat = min s.length m := by omega
  have E := Lib.hid e; clear e
  go_enter Tryd.func11, Tryd.ntmps11
  go_wp2_with fail
  go_ret
  refine ⟨?_, rfl⟩
  show Ending.returned (.string ((ByteArray.mk s.toArray).extract 0 (min (s.length : Int) (m : Int)).toNat)) = _
  rw [E.out, extract_take, Int.toNat_natCast]
  congr 4
  rw [List.take_eq_take_iff]; omega
end Go.Proofs.YtbjhaihfkncdoaaDoor
