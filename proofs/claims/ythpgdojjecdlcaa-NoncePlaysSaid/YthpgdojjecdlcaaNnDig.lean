/- nonce: scram.Nonce, digits. -/
import Derived.Test.YthpgdojjecdlcaaNnOps
import Derived.Test.YthpgdojjecdlcaaRefHexN
import Derived.Test.YthpgdojjecdlcaaStrI
import Derived.Test.YthpgdojjecdlcaaBe
set_option maxRecDepth 100000
namespace Go.Proofs.Ythpgdojjecdlcaa
open Go.RowKit Go.Shelf
/-- A byte that may stand in a nonce. -/
def chB (c : UInt8) : Bool := decide (33 ≤ c.toNat) && decide (c.toNat ≤ 126) && !(c.toNat == 44)
def noncB (s : List UInt8) : Bool := s.all chB && !s.isEmpty && decide (s.length ≤ 64)
theorem all_take_succ (s : List UInt8) (k : Nat) (h : k < s.length) : (s.take (k + 1)).all chB = ((s.take k).all chB && chB (s.getD k 0)) := by
  rw [List.take_succ_eq_append_getElem h, List.all_append, List.getD_eq_getElem?_getD, List.getElem?_eq_getElem h]
  simp
theorem all_of_take (s : List UInt8) (k : Nat) (h : (s.take k).all chB = false) : s.all chB = false := by
  rw [← List.take_append_drop k s, List.all_append, h]; rfl
set_option maxHeartbeats 1000000 in
theorem nonce_any (s : List UInt8) (w : World) (hs : s.length ≤ 100000) :
    Calls Try.prog 36 #[strT s] w fun e w' => e = .returned (.bool (noncB s)) ∧ Below w.heap.size w w' := by
  go_enter Try.func36, Try.ntmps36
  go_wp2_with fail
  go_loopw [6] (fun i wr => ∃ k : Nat, k ≤ s.length ∧ i = .int .i64 (k : Int) ∧ (s.take k).all chB = true ∧ Below w.heap.size w wr) (fun i _ => s.length - (intOf i).toNat)
  case atStart => exact ⟨0, by omega, rfl, rfl, Below.refl _ _⟩
  case round =>
    obtain ⟨k, hk, rfl, hall, hB⟩ := hrel
    have HB := Lib.hid hB
    have HA := Lib.hid hall
    clear hB hall
    by_cases hlt : k < s.length
    · obtain ⟨c, hc⟩ : ∃ c, c = s.getD k 0 := ⟨_, rfl⟩
      have hix := fun W => str_index s k hlt W
      have hic : ∀ W, (Instr.index 9 (.string ⟨#[44]⟩) (.int .i64 0)).run Try.prog W = .ok (.int .u8 44) W := fun W => str_index [44] 0 (by simp) W
      have HN := Lib.hid (all_take_succ s k hlt)
      rw [← hc] at hix HN
      clear hc
      have hb := bn_range c
      have ebn : bn c = (c.toNat : Int) := rfl
      have HE := Lib.hid ebn; clear ebn
      by_cases h1 : bn c < 33
      · have HF : Hid (s.all chB = false) := Lib.hid (all_of_take s (k + 1) (by rw [HN.out]; have := HE.out; unfold chB; rw [decide_eq_false (by omega)]; simp))
        have d1 : decide (bn c < 33) = true := decide_eq_true h1
        go_wp2_with fail
        go_quiet (fail)
        go_wp2_with fail
        go_ret
        exact ⟨by unfold noncB; rw [HF.out]; rfl, below_drewN HB.out _⟩
      · have d1 : decide (bn c < 33) = false := decide_eq_false h1
        by_cases h2 : 126 < bn c
        · have HF : Hid (s.all chB = false) := Lib.hid (all_of_take s (k + 1) (by rw [HN.out]; have := HE.out; unfold chB; rw [decide_eq_false (p := c.toNat ≤ 126) (by omega)]; simp))
          have d2 : decide (126 < bn c) = true := decide_eq_true h2
          go_wp2_with fail
          go_quiet (fail)
          go_wp2_with fail
          go_ret
          exact ⟨by unfold noncB; rw [HF.out]; rfl, below_drewN HB.out _⟩
        · have d2 : decide (126 < bn c) = false := decide_eq_false h2
          by_cases h3 : bn c = 44
          · have HF : Hid (s.all chB = false) := Lib.hid (all_of_take s (k + 1) (by rw [HN.out]; have := HE.out; unfold chB; rw [show (c.toNat == 44) = true from by rw [beq_iff_eq]; omega]; simp))
            have d3 : (bn c == 44) = true := beq_iff_eq.2 h3
            clear h3
            go_wp2_with fail
            go_quiet (fail)
            go_wp2_with fail
            go_ret
            exact ⟨by unfold noncB; rw [HF.out]; rfl, below_drewN HB.out _⟩
          · have d3 : (bn c == 44) = false := beq_eq_false_iff_ne.2 h3
            have HA2 : Hid ((s.take (k + 1)).all chB = true) := Lib.hid (by
              have := HE.out
              rw [HN.out, HA.out]
              unfold chB
              rw [decide_eq_true (p := 33 ≤ c.toNat) (by omega), decide_eq_true (p := c.toNat ≤ 126) (by omega), show (c.toNat == 44) = false from by rw [beq_eq_false_iff_ne]; omega]
              rfl)
            clear h3
            go_wp2_with fail
            go_quiet (fail)
            go_wp2_with fail
            go_roundw
            case rel => exact ⟨k + 1, by omega, by go_num, HA2.out, below_drewN HB.out _⟩
            case measure => simp [intOf]; omega
    · obtain rfl : k = s.length := by omega
      rw [List.take_length] at HA
      by_cases h0 : s = []
      · subst h0
        go_wp2_with fail
        go_ret
        exact ⟨rfl, HB.out⟩
      · have he : s.isEmpty = false := by cases s with
          | nil => exact absurd rfl h0
          | cons => rfl
        by_cases h64 : s.length ≤ 64
        · have HR : Hid (noncB s = true) := Lib.hid (by unfold noncB; rw [HA.out, he, decide_eq_true h64]; rfl)
          have d64 : decide ((s.length : Int) ≤ 64) = true := decide_eq_true (by omega)
          go_wp2_with fail
          go_ret
          exact ⟨by rw [HR.out]; rfl, HB.out⟩
        · have HR : Hid (noncB s = false) := Lib.hid (by unfold noncB; rw [decide_eq_false h64]; simp)
          have d64 : decide ((s.length : Int) ≤ 64) = false := decide_eq_false (by omega)
          go_wp2_with fail
          go_ret
          exact ⟨by rw [HR.out]; rfl, HB.out⟩
/-- What stands in the row when k digits' bytes are written. -/
def dgs (n k : Nat) : List UInt8 := (be n 8).take k ++ List.replicate (8 - k) 0
theorem be_eight (n : Nat) : be n 8 = [UInt8.ofNat (n / 72057594037927936), UInt8.ofNat (n / 281474976710656), UInt8.ofNat (n / 1099511627776), UInt8.ofNat (n / 4294967296), UInt8.ofNat (n / 16777216), UInt8.ofNat (n / 65536), UInt8.ofNat (n / 256), UInt8.ofNat n] := by
  simp [be, Nat.div_div_eq_div_mul]
theorem byte_ofN (X : Nat) : (X : Int) % 256 = bn (UInt8.ofNat X) := by unfold bn; rw [UInt8.toNat_ofNat']; omega
theorem dgs_set (n : Nat) (hn : n < 18446744073709551616) : (((dgs n 0).map vb).set 0 (.int .u8 ((n : Int) / 72057594037927936)) = (dgs n 1).map vb) ∧ (((dgs n 1).map vb).set 1 (.int .u8 ((n : Int) / 281474976710656 % 256)) = (dgs n 2).map vb) ∧ (((dgs n 2).map vb).set 2 (.int .u8 ((n : Int) / 1099511627776 % 256)) = (dgs n 3).map vb) ∧ (((dgs n 3).map vb).set 3 (.int .u8 ((n : Int) / 4294967296 % 256)) = (dgs n 4).map vb) ∧ (((dgs n 4).map vb).set 4 (.int .u8 ((n : Int) / 16777216 % 256)) = (dgs n 5).map vb) ∧ (((dgs n 5).map vb).set 5 (.int .u8 ((n : Int) / 65536 % 256)) = (dgs n 6).map vb) ∧ (((dgs n 6).map vb).set 6 (.int .u8 ((n : Int) / 256 % 256)) = (dgs n 7).map vb) ∧ (((dgs n 7).map vb).set 7 (.int .u8 ((n : Int) % 256)) = (dgs n 8).map vb) := by
  refine ⟨?_, ?_, ?_, ?_, ?_, ?_, ?_, ?_⟩
  · rw [show (n : Int) / 72057594037927936 = bn (UInt8.ofNat (n / 72057594037927936)) from by rw [← byte_ofN]; omega]; unfold dgs; rw [be_eight]; rfl
  · rw [show (n : Int) / 281474976710656 % 256 = bn (UInt8.ofNat (n / 281474976710656)) from by rw [← byte_ofN]; omega]; unfold dgs; rw [be_eight]; rfl
  · rw [show (n : Int) / 1099511627776 % 256 = bn (UInt8.ofNat (n / 1099511627776)) from by rw [← byte_ofN]; omega]; unfold dgs; rw [be_eight]; rfl
  · rw [show (n : Int) / 4294967296 % 256 = bn (UInt8.ofNat (n / 4294967296)) from by rw [← byte_ofN]; omega]; unfold dgs; rw [be_eight]; rfl
  · rw [show (n : Int) / 16777216 % 256 = bn (UInt8.ofNat (n / 16777216)) from by rw [← byte_ofN]; omega]; unfold dgs; rw [be_eight]; rfl
  · rw [show (n : Int) / 65536 % 256 = bn (UInt8.ofNat (n / 65536)) from by rw [← byte_ofN]; omega]; unfold dgs; rw [be_eight]; rfl
  · rw [show (n : Int) / 256 % 256 = bn (UInt8.ofNat (n / 256)) from by rw [← byte_ofN]; omega]; unfold dgs; rw [be_eight]; rfl
  · rw [show (n : Int) % 256 = bn (UInt8.ofNat n) from byte_ofN n]; unfold dgs; rw [be_eight]; rfl
theorem dgs_zero (n : Nat) : (dgs n 0).map vb = [.int .u8 0, .int .u8 0, .int .u8 0, .int .u8 0, .int .u8 0, .int .u8 0, .int .u8 0, .int .u8 0] := rfl
theorem dgs_at (n k : Nat) (h : k < 8) : ((dgs n k).map vb)[k]? = some (vb 0) := by
  unfold dgs
  rw [be_eight]
  rcases (show k = 0 ∨ k = 1 ∨ k = 2 ∨ k = 3 ∨ k = 4 ∨ k = 5 ∨ k = 6 ∨ k = 7 by omega) with rfl | rfl | rfl | rfl | rfl | rfl | rfl | rfl <;> rfl
attribute [irreducible] dgs
set_option maxHeartbeats 1000000 in
theorem digits_any (n : Nat) (w : World) (hn : n < 18446744073709551616) :
    Calls Try.prog 39 #[u64v (n : Int)] w fun e w' => e = .returned (strT (encH (be n 8))) ∧ Below w.heap.size w w' := by
  go_enter Try.func39, Try.ntmps39
  go_wp2_with fail
  go_loopw [5] (fun i wr => ∃ k : Nat, k ≤ 8 ∧ i = .int .i64 (k : Int) ∧ Blk wr w.heap.size ((dgs n k).map vb) ∧ Below w.heap.size w wr) (fun i _ => 8 - (intOf i).toNat)
  case atStart => exact ⟨0, by omega, rfl, by rw [dgs_zero]; exact Blk.new w _ _, (Below.refl _ _).alloc (Nat.le_refl _) _⟩
  case round =>
    obtain ⟨k, hk, rfl, hP, hB⟩ := hrel
    have HB := Lib.hid hB
    have HP := Lib.hid hP
    clear hB hP
    by_cases h8 : k < 8
    · have hset := dgs_set n hn
      obtain ⟨e0, e1, e2, e3, e4, e5, e6, e7⟩ := hset
      have E0 := Lib.hid e0; have E1 := Lib.hid e1; have E2 := Lib.hid e2; have E3 := Lib.hid e3
      have E4 := Lib.hid e4; have E5 := Lib.hid e5; have E6 := Lib.hid e6; have E7 := Lib.hid e7
      clear e0 e1 e2 e3 e4 e5 e6 e7
      rcases (show k = 0 ∨ k = 1 ∨ k = 2 ∨ k = 3 ∨ k = 4 ∨ k = 5 ∨ k = 6 ∨ k = 7 by omega) with rfl | rfl | rfl | rfl | rfl | rfl | rfl | rfl
      · have c0 : wr.cell? ⟨w.heap.size, 0, none⟩ = some (vb 0) := HP.out.at (dgs_at n 0 (by omega))
        have f0 := HP.out.free 0
        go_wp2_with fail
        refine ⟨⟨1, by omega, rfl, ?_, HB.out.setCell (p := ⟨w.heap.size, 0, none⟩) (Nat.le_refl _) _⟩, by simp [intOf]⟩
        rw [← E0.out]
        exact HP.out.set 0 _
      · have c0 : wr.cell? ⟨w.heap.size, 1, none⟩ = some (vb 0) := HP.out.at (dgs_at n 1 (by omega))
        have f0 := HP.out.free 1
        go_wp2_with fail
        refine ⟨⟨2, by omega, rfl, ?_, HB.out.setCell (p := ⟨w.heap.size, 1, none⟩) (Nat.le_refl _) _⟩, by simp [intOf]⟩
        rw [← E1.out]
        exact HP.out.set 1 _
      · have c0 : wr.cell? ⟨w.heap.size, 2, none⟩ = some (vb 0) := HP.out.at (dgs_at n 2 (by omega))
        have f0 := HP.out.free 2
        go_wp2_with fail
        refine ⟨⟨3, by omega, rfl, ?_, HB.out.setCell (p := ⟨w.heap.size, 2, none⟩) (Nat.le_refl _) _⟩, by simp [intOf]⟩
        rw [← E2.out]
        exact HP.out.set 2 _
      · have c0 : wr.cell? ⟨w.heap.size, 3, none⟩ = some (vb 0) := HP.out.at (dgs_at n 3 (by omega))
        have f0 := HP.out.free 3
        go_wp2_with fail
        refine ⟨⟨4, by omega, rfl, ?_, HB.out.setCell (p := ⟨w.heap.size, 3, none⟩) (Nat.le_refl _) _⟩, by simp [intOf]⟩
        rw [← E3.out]
        exact HP.out.set 3 _
      · have c0 : wr.cell? ⟨w.heap.size, 4, none⟩ = some (vb 0) := HP.out.at (dgs_at n 4 (by omega))
        have f0 := HP.out.free 4
        go_wp2_with fail
        refine ⟨⟨5, by omega, rfl, ?_, HB.out.setCell (p := ⟨w.heap.size, 4, none⟩) (Nat.le_refl _) _⟩, by simp [intOf]⟩
        rw [← E4.out]
        exact HP.out.set 4 _
      · have c0 : wr.cell? ⟨w.heap.size, 5, none⟩ = some (vb 0) := HP.out.at (dgs_at n 5 (by omega))
        have f0 := HP.out.free 5
        go_wp2_with fail
        refine ⟨⟨6, by omega, rfl, ?_, HB.out.setCell (p := ⟨w.heap.size, 5, none⟩) (Nat.le_refl _) _⟩, by simp [intOf]⟩
        rw [← E5.out]
        exact HP.out.set 5 _
      · have c0 : wr.cell? ⟨w.heap.size, 6, none⟩ = some (vb 0) := HP.out.at (dgs_at n 6 (by omega))
        have f0 := HP.out.free 6
        go_wp2_with fail
        refine ⟨⟨7, by omega, rfl, ?_, HB.out.setCell (p := ⟨w.heap.size, 6, none⟩) (Nat.le_refl _) _⟩, by simp [intOf]⟩
        rw [← E6.out]
        exact HP.out.set 6 _
      · have c0 : wr.cell? ⟨w.heap.size, 7, none⟩ = some (vb 0) := HP.out.at (dgs_at n 7 (by omega))
        have f0 := HP.out.free 7
        go_wp2_with fail
        refine ⟨⟨8, by omega, rfl, ?_, HB.out.setCell (p := ⟨w.heap.size, 7, none⟩) (Nat.le_refl _) _⟩, by simp [intOf]⟩
        rw [← E7.out]
        exact HP.out.set 7 _
    · obtain rfl : k = 8 := by omega
      have hsl : Sl wr wr.heap.size (.slice (some ⟨w.heap.size, 0, none⟩) 8 8) (be n 8) := by
        refine ⟨_, 8, by rw [be_length], (fun h => by cases h), by rw [be_length]; omega, by omega, fun _ => ⟨_, 0, rfl, HP.out.lt, fun j hj => ?_⟩⟩
        have e : dgs n 8 = be n 8 := by unfold dgs; rw [List.take_of_length_le (by rw [be_length]; omega)]; simp
        have := HP.out.at (o := j) (v := vb (be n 8)[j]) (by rw [e, List.getElem?_map, List.getElem?_eq_getElem hj]; rfl)
        rwa [Nat.zero_add]
      have HX := Lib.hid (hex_any wr.heap.size (.slice (some ⟨w.heap.size, 0, none⟩) 8 8) (be n 8) wr hsl (Nat.le_refl _) (by rw [be_length]; omega))
      clear hsl
      go_wp2_with fail
      refine HX.out.mono ?_
      rintro e w2 ⟨rfl, hb⟩
      have HB2 := Lib.hid (HB.out.trans (hb.mono HB.out.size))
      clear hb HX
      go_wp2_with fail
      go_ret
      exact ⟨rfl, HB2.out⟩
end Go.Proofs.Ythpgdojjecdlcaa
