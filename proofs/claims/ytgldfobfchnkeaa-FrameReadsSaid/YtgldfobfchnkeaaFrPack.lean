/- frame: check and Pack. -/
import Derived.Test.YtgldfobfchnkeaaSlice
namespace Go.Proofs.Ytgldfobfchnkeaa
open Go.RowKit

/-- What is wrong with a frame's head. -/
def chk (k : UInt8) (n : Nat) : Nat := if bn k < 1 ∨ 15 < bn k then 1 else if 2048 < n then 3 else 0
theorem chk_bad {k : UInt8} {n : Nat} (h : bn k < 1 ∨ 15 < bn k) : chk k n = 1 := by unfold chk; rw [if_pos h]
theorem chk_long {k : UInt8} {n : Nat} (h1 : 1 ≤ bn k) (h2 : bn k ≤ 15) (h : 2048 < n) : chk k n = 3 := by unfold chk; rw [if_neg (by omega), if_pos h]
theorem chk_ok {k : UInt8} {n : Nat} (h1 : 1 ≤ bn k) (h2 : bn k ≤ 15) (h : n ≤ 2048) : chk k n = 0 := by unfold chk; rw [if_neg (by omega), if_neg (by omega)]
/-- Every head is one of three. -/
theorem chk_cases (k : UInt8) (n : Nat) : (chk k n = 1 ∧ (bn k < 1 ∨ 15 < bn k)) ∨ (chk k n = 3 ∧ 1 ≤ bn k ∧ bn k ≤ 15 ∧ 2048 < n) ∨ (chk k n = 0 ∧ 1 ≤ bn k ∧ bn k ≤ 15 ∧ n ≤ 2048) := by
  by_cases h : bn k < 1 ∨ 15 < bn k
  · exact .inl ⟨chk_bad h, h⟩
  · by_cases h2 : 2048 < n
    · exact .inr (.inl ⟨chk_long (by omega) (by omega) h2, by omega, by omega, h2⟩)
    · exact .inr (.inr ⟨chk_ok (by omega) (by omega) (by omega), by omega, by omega, by omega⟩)
set_option maxHeartbeats 400000 in
theorem check_any (k : UInt8) (n : Nat) (hn : n ≤ 9223372036854775807) (w : World) :
    Calls Try.prog 26 #[vb k, .int .i64 (n : Int)] w fun e w' => e = .returned (.int .i64 (chk k n : Int)) ∧ w = w' := by
  rcases chk_cases k n with ⟨h, h1 | h1⟩ | ⟨h, h1, h2, h3⟩ | ⟨h, h1, h2, h3⟩
  · rw [h]
    go_enter Try.func26, Try.ntmps26
    go_wp2_with fail
    go_ret
    exact ⟨rfl, rfl⟩
  · rw [h]
    have h1' : ¬ bn k < 1 := by omega
    go_enter Try.func26, Try.ntmps26
    go_wp2_with fail
    go_ret
    exact ⟨rfl, rfl⟩
  · rw [h]
    go_enter Try.func26, Try.ntmps26
    go_wp2_with fail
    go_ret
    exact ⟨rfl, rfl⟩
  · rw [h]
    go_enter Try.func26, Try.ntmps26
    go_wp2_with fail
    go_ret
    exact ⟨rfl, rfl⟩

theorem vb_hi (n : Nat) (h : n ≤ 2048) : Value.int .u8 ((n : Int) / 256) = vb (UInt8.ofNat (n / 256)) := by
  have e : bn (UInt8.ofNat (n / 256)) = (n : Int) / 256 := by unfold bn; rw [UInt8.toNat_ofNat']; omega
  rw [vb, e]
theorem vb_lo (n : Nat) : Value.int .u8 ((n : Int) % 256) = vb (UInt8.ofNat n) := by
  have e : bn (UInt8.ofNat n) = (n : Int) % 256 := by unfold bn; rw [UInt8.toNat_ofNat']; omega
  rw [vb, e]
/-- The two bytes of a length. -/
def len2 (n : Nat) : List UInt8 := [UInt8.ofNat (n / 256), UInt8.ofNat n]
/-- A frame's bytes. -/
def frm (k : UInt8) (l : List UInt8) : List UInt8 := k :: (len2 l.length ++ l)
theorem frm_length (k : UInt8) (l : List UInt8) : (frm k l).length = l.length + 3 := by unfold frm len2; simp
set_option maxRecDepth 100000 in
set_option maxHeartbeats 1000000 in
theorem pack_bad (k : UInt8) (v : Value) (l : List UInt8) (B : Nat) (w : World) (hv : Sl w B v l) (hl : l.length ≤ 1000000) (h : (chk k l.length : Int) ≠ 0) :
    Calls Try.prog 11 #[.agg #[vb k, v]] w fun e w' => e = .returned (.tuple #[.slice none 0 0, .int .i64 (chk k l.length : Int)]) ∧ Below w.heap.size w w' := by
  obtain ⟨A, c, rfl, _, h1, h2, _⟩ := hv
  obtain ⟨e, he⟩ : ∃ e : Int, e = (chk k l.length : Int) := ⟨_, rfl⟩
  have HC := Lib.hid (check_any k l.length (by omega))
  rw [← he] at HC h ⊢
  clear he
  go_enter Try.func11, Try.ntmps11
  go_wp2_with (go_at_call 26; refine (HC.out _).mono ?_; rintro e w' ⟨rfl, rfl⟩)
  go_ret2
  exact ⟨rfl, (Below.refl _ _).alloc (Nat.le_refl _) _⟩
theorem make_3 (n : Nat) (hn : n ≤ 1000000) (W : World) :
    (Instr.makeSlice 22 (.int .i64 0) (.int .i64 (3 + (n : Int)))).run Try.prog W = .ok (.slice (some ⟨W.heap.size, 0, none⟩) 0 (n + 3)) (W.alloc (.cells (noughts (n + 3)) 5)) := by
  have := make_bytes 0 (n + 3) (by omega) (by omega) W
  rwa [show ((n + 3 : Nat) : Int) = 3 + (n : Int) from by omega] at this
set_option maxRecDepth 100000 in
set_option maxHeartbeats 1000000 in
theorem pack_ok (k : UInt8) (v : Value) (l : List UInt8) (B : Nat) (w : World) (hv : Sl w B v l) (hB : B ≤ w.heap.size) (h1 : 1 ≤ bn k) (h2 : bn k ≤ 15) (h3 : l.length ≤ 2048) :
    Calls Try.prog 11 #[.agg #[vb k, v]] w fun e w' => ∃ v', e = .returned (.tuple #[v', .int .i64 0]) ∧ OwnB w' w.heap.size v' (frm k l) ∧ Below w.heap.size w w' := by
  have HV := Lib.hid hv
  obtain ⟨A, c, rfl, _, k1, k2, _⟩ := hv
  have HC := Lib.hid (check_any k l.length (by omega))
  rw [chk_ok h1 h2 h3] at HC
  have hmk := make_3 l.length (by omega)
  go_enter Try.func11, Try.ntmps11
  have HW0 := Lib.hid fun (cs : Array Value) (t : TypeId) => ((((Below.refl w.heap.size w).alloc (Nat.le_refl _) (.cells #[vb k, .slice A l.length c] 27)).alloc (by simp) (.cells (noughts (l.length + 3)) 5)).alloc (by simp; omega) (.cells cs t))
  have HO0 : Hid (∀ (cs : Array Value) (t : TypeId), OwnB (((w.alloc (.cells #[vb k, .slice A l.length c] 27)).alloc (.cells (noughts (l.length + 3)) 5)).alloc (.cells cs t)) (w.heap.size + 1) (.slice (some ⟨w.heap.size + 1, 0, none⟩) 0 (l.length + 3)) []) :=
    Lib.hid fun cs t => OwnB.of_heap (cur := noughts (l.length + 3)) (by omega) ((Below.heap_alloc _ _ _ (by simp)).trans (by have := heap_alloc_new (w.alloc (.cells #[vb k, .slice A l.length c] 27)) (.cells (noughts (l.length + 3)) 5); simpa using this)) (noughts_size _) (by unfold maxLen; omega) rfl (by simp) (by omega)
  have HK0 := Lib.hid fun (cs : Array Value) (t : TypeId) => ((Blk.new w [vb k, .slice A l.length c] 27).alloc (.cells (noughts (l.length + 3)) 5)).alloc (.cells cs t)
  have HL := Lib.hid (show ([] : List UInt8) ++ k :: len2 l.length = k :: len2 l.length from rfl)
  have hl5 : (len2 l.length).length = 2 := rfl
  go_wp2_with (first
    | (go_at_call 26; refine (HC.out _).mono ?_; rintro e w' ⟨rfl, rfl⟩)
    | (at_builtin; ((with_reducible refine wpList_app_sl ?g1 (.tmp 20) (.tmp 28) ?g2 (w.heap.size + 1) (.slice (some ⟨w.heap.size + 1, 0, none⟩) 0 (l.length + 3)) [] (k :: len2 l.length) ?g3 ?g4 (w.heap.size + 3) (.slice (some ⟨w.heap.size + 1 + 1, 0, none⟩) 3 3) ?g5 ?g6 ?g7 ?g8 ?_); (case g1 => rfl); (case g2 => rfl); (case g3 => rfl); (case g4 => exact HO0.out _ _); (case g5 => rfl); (case g6 => exact Sl.newA _ _ _ _ (by simp [vb_hi l.length h3, vb_lo, len2]) (by simp) rfl (by simp) (by simp [len2])); (case g7 => simp [len2]); (case g8 => simp); intro v' w1 hv hg; rw [HL.out] at hv; have Hv := Lib.hid hv; have hcl := ((HK0.out _ _).grown hg (by simp [Value.ownBlock])).at (o := 1) rfl; have Hb := Lib.hid ((HW0.out _ _).trans (((HO0.out _ _).belowBase hg (by simp)).mono (by omega))); have hsz : w.heap.size + 1 ≤ w1.heap.size := (by have := hg.size; simp only [World.size_alloc] at this; omega); clear hg; clear hv))
    | (at_builtin; ((with_reducible refine wpList_app_sl ?g1 (.tmp 30) (.tmp 32) ?g2 (w.heap.size + 1) v' (k :: len2 l.length) l ?g3 ?g4 B (.slice A l.length c) ?g5 ?g6 ?g7 ?g8 ?_); (case g1 => rfl); (case g2 => rfl); (case g3 => rfl); (case g4 => exact Hv.out); (case g5 => rfl); (case g6 => exact HV.out.below Hb.out hB); (case g7 => simp [len2]; omega); (case g8 => exact hsz); intro v2 w2 hv2 hg2; have Hv2 := Lib.hid hv2; clear hv2; have Hg2 := Lib.hid (Hv.out.belowBase hg2 hsz); clear hg2)))
  go_ret2
  exact ⟨v2, rfl, Hv2.out.lower (by omega), Hb.out.trans (Hg2.out.mono (by omega))⟩
end Go.Proofs.Ytgldfobfchnkeaa
