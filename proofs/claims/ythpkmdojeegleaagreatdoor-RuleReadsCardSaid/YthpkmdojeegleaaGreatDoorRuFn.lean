/- rule: lower; whom a word is for; words and patterns. -/
import Derived.Test.YthpkmdojeegleaaGreatDoorRuPlain
import Derived.Test.YthpkmdojeegleaaGreatDoorRuSt
import Derived.Test.YthpkmdojeegleaaGreatDoorShelf
import Derived.Shelf.Strings.SlTrimAscii
namespace Go.Proofs.YthpkmdojeegleaaGreatDoor
open Go.RowKit Go.Shelf
/-- The bytes l stand at the beginning of block b, and may be written. -/
def Bw (W : World) (b : Nat) (l : List UInt8) : Prop := ∃ cs t f, W.heap[b]? = some (.cells cs t f) ∧ (∀ j (h : j < l.length), cs[j]? = some (vb l[j])) ∧ l.length ≤ f.1
theorem Bw.bs {W : World} {b : Nat} {l : List UInt8} (h : Bw W b l) : Bs W b 0 l := by
  obtain ⟨cs, t, f, h1, h2, _⟩ := h
  intro j hj
  rw [Nat.zero_add]
  simp [World.cell?, h1, h2 j hj]
theorem Bw.free {W : World} {b : Nat} {l : List UInt8} (h : Bw W b l) {j : Nat} (hj : j < l.length) : W.frozen? ⟨b, j, none⟩ = false := by
  obtain ⟨cs, t, f, h1, _, h3⟩ := h
  simp [World.frozen?, h1]
  omega
theorem Bw.lt {W : World} {b : Nat} {l : List UInt8} (h : Bw W b l) : b < W.heap.size := by
  obtain ⟨cs, t, f, h1, _⟩ := h
  exact (Array.getElem?_eq_some_iff.1 h1).1
theorem Bw.set {W : World} {b : Nat} {l : List UInt8} (h : Bw W b l) (k : Nat) (y : UInt8) : Bw (W.setCell ⟨b, k, none⟩ (vb y)) b (l.set k y) := by
  obtain ⟨cs, t, f, h1, h2, h3⟩ := h
  refine ⟨cs.setIfInBounds k (vb y), t, f, ?_, fun j hj => ?_, by rw [List.length_set]; exact h3⟩
  · simp only [World.setCell]; rw [Array.getElem?_modify, if_pos rfl, h1]; simp
  · rw [List.length_set] at hj
    have := h2 j hj
    rw [List.getElem_set]
    by_cases e : k = j
    · subst e
      rw [if_pos rfl, Array.getElem?_setIfInBounds, if_pos rfl]
      have : k < cs.size := (Array.getElem?_eq_some_iff.1 this).1
      rw [if_pos this]
    · rw [if_neg e, Array.getElem?_setIfInBounds, if_neg e]; exact this
theorem conv_bw (s : List UInt8) (w : World) (hs : s.length ≤ 100000) : ∃ c W, (convert 9 72 (str s)).run Tryz.prog w = .ok (.slice (some ⟨w.heap.size, 0, none⟩) s.length c) W ∧ Below w.heap.size w W ∧ Bw W w.heap.size s ∧ s.length ≤ c ∧ c ≤ 9223372036854775807 := by
  have hg := grownCap_ge w (ByteArray.mk s.toArray).size 0 5
  have hg2 := grownCap_le_maxLen w (ByteArray.mk s.toArray).size 0 5 (by simp [ByteArray.size, maxLen]; omega)
  have hz : (ByteArray.mk s.toArray).size = s.length := by simp [ByteArray.size]
  refine ⟨_, _, Lib.run_convert_string_bytes w 9 72 5 ⟨s.toArray⟩ Tryz.underlying9 Tryz.underlying72 Tryz.underlying5, Lib.bytesWorld_below w _ _, ⟨_, _, _, Lib.bytesWorld_at_new w _ _, fun j h => ?_, ?_⟩, by rw [hz] at hg; exact hg, by unfold maxLen at hg2; exact hg2⟩
  · unfold Lib.bytesCells
    simp [Array.getElem?_append, h, vb, bn]
  · unfold Lib.bytesCells
    simp [ByteArray.size]
theorem rlow_num (b : UInt8) : (65 ≤ b.toNat ∧ b.toNat ≤ 90 → (rlow b).toNat = b.toNat + 32) ∧ (¬ (65 ≤ b.toNat ∧ b.toNat ≤ 90) → rlow b = b) := by
  unfold rlow
  constructor
  · intro h
    rw [if_pos h, UInt8.toNat_add]
    have : (32 : UInt8).toNat = 32 := rfl
    omega
  · intro h; rw [if_neg h]
/-- What stands where the first k bytes are turned. -/
def lowK (s : List UInt8) (k : Nat) : List UInt8 := (s.take k).map rlow ++ s.drop k
theorem lowK_len (s : List UInt8) (k : Nat) (h : k ≤ s.length) : (lowK s k).length = s.length := by unfold lowK; simp; omega
theorem lowK_at (s : List UInt8) (k : Nat) (h : k < s.length) : (lowK s k)[k]? = some s[k] := by
  unfold lowK
  rw [List.getElem?_append_right (by simp; omega)]
  simp [Nat.min_eq_left (Nat.le_of_lt h)]
theorem lowK_succ (s : List UInt8) (k : Nat) (h : k < s.length) : (lowK s k).set k (rlow s[k]) = lowK s (k + 1) := by
  unfold lowK
  have hl : ((s.take k).map rlow).length = k := by rw [List.length_map, List.length_take]; omega
  rw [List.set_append_right _ _ (by omega), hl, Nat.sub_self, List.drop_eq_getElem_cons h, List.take_succ_eq_append_getElem h, List.map_append, List.append_assoc]
  rfl
set_option maxRecDepth 100000 in
set_option maxHeartbeats 1000000 in
theorem lower_any (s : List UInt8) (w : World) (hs : s.length ≤ 100000) : Calls Tryz.prog 72 #[str s] w fun e w' => e = .returned (str (s.map rlow)) ∧ Below w.heap.size w w' := by
  obtain ⟨c, W1, hcv, hB1, hbw, hc1, hc2⟩ := conv_bw s w hs
  have HB1 := Lib.hid hB1
  have HBW := Lib.hid (show Bw W1 w.heap.size (lowK s 0) from hbw)
  obtain ⟨n, hn⟩ : ∃ n, n = s.length := ⟨_, rfl⟩
  rw [← hn] at hcv hc1
  have HN := Lib.hid hn
  clear hB1 hbw hn
  go_enter Tryz.func72, Tryz.ntmps72
  go_wp2_with fail
  clear hcv
  go_loopw [4, 5, 10] (fun _ _ i wr => ∃ k : Nat, k ≤ n ∧ i = .int .i64 (k : Int) ∧ Below w.heap.size w wr ∧ Bw wr w.heap.size (lowK s k)) (fun _ _ i _ => n - (intOf i).toNat)
  case atStart => exact ⟨0, by omega, rfl, HB1.out, HBW.out⟩
  case round =>
    obtain ⟨k, hk, rfl, hb, hW⟩ := hrel
    have HW := Lib.hid hW
    have HB := Lib.hid hb
    by_cases hlt : k < n
    · have hk2 : k < s.length := by rw [← HN.out]; exact hlt
      have hat := lowK_at s k hk2
      have hsu := lowK_succ s k hk2
      have hll := lowK_len s k (Nat.le_of_lt hk2)
      have c0 := hW.bs k (by omega)
      have f0 := hW.free (j := k) (by omega)
      rw [Nat.zero_add] at c0
      have hx0 : (lowK s k)[k]'(by omega) = s[k] := Option.some.inj ((List.getElem?_eq_getElem (by omega)).symm.trans hat)
      rw [hx0] at c0
      obtain ⟨x, hx⟩ : ∃ x, x = s[k] := ⟨_, rfl⟩
      rw [← hx] at c0 hsu
      have HSU := Lib.hid hsu
      obtain ⟨h1, h2⟩ := rlow_num x
      have hl := x.toNat_lt
      have hv : vb x = .int .u8 (x.toNat : Int) := rfl
      clear hat hsu hll hx0 hx hk2 hb hW
      by_cases h : 65 ≤ x.toNat ∧ x.toNat ≤ 90
      · have hr : vb (rlow x) = .int .u8 ((x.toNat : Int) + 32) := by
          show Value.int .u8 (bn _) = _
          unfold bn; rw [h1 h]; rfl
        have HR := Lib.hid hr
        rw [hv] at c0
        obtain ⟨X, hX⟩ : ∃ X : Int, X = (x.toNat : Int) := ⟨_, rfl⟩
        rw [← hX] at c0 HR
        have g1 : 65 ≤ X := by omega
        have g2 : X ≤ 90 := by omega
        have hs2 : X - 65 + 97 = X + 32 := by omega
        have HS := Lib.hid hs2
        clear h1 h2 hl hv h hr hX hs2
        go_wp2_with fail
        go_roundw
        case rel => exact ⟨k + 1, by omega, by go_num, HB.out.setCell (p := ⟨w.heap.size, k, none⟩) (Nat.le_refl _) _, by rw [← HSU.out, HS.out, ← HR.out]; exact HW.out.set k _⟩
        case measure => simp [intOf]; omega
      · have hlo := h2 h
        rw [hlo] at HSU
        have hsame : (lowK s k).set k x = lowK s k ∨ True := .inr trivial
        rw [hv] at c0
        have HK2 : Hid (Bw wr w.heap.size (lowK s (k + 1))) := Lib.hid (by
          have hk2 : k < s.length := by rw [← HN.out]; exact hlt
          rw [← HSU.out]
          obtain ⟨cs, t, f, e1, e2, e3⟩ := HW.out
          refine ⟨cs, t, f, e1, fun j hj => ?_, by rw [List.length_set]; exact e3⟩
          rw [List.length_set] at hj
          rw [List.getElem_set]
          by_cases e : k = j
          · subst e
            rw [if_pos rfl]
            have c1 := e2 k hj
            have c2 : wr.cell? ⟨w.heap.size, k, none⟩ = cs[k]? := by simp [World.cell?, e1]
            rw [← c2, c0]; rfl
          · rw [if_neg e]; exact e2 j hj)
        obtain ⟨X, hX⟩ : ∃ X : Int, X = (x.toNat : Int) := ⟨_, rfl⟩
        rw [← hX] at c0
        by_cases h3 : 65 ≤ X
        · have g2 : decide (X ≤ 90) = false := decide_eq_false (by omega)
          have g3 : X ≤ 255 := by omega
          clear h1 h2 hl hv h hX hlo hsame
          go_wp2_with fail
          go_roundw
          case rel => exact ⟨k + 1, by omega, by go_num, HB.out, HK2.out⟩
          case measure => simp [intOf]; omega
        · have g2 : decide (65 ≤ X) = false := decide_eq_false h3
          clear h1 h2 hl hv h hX hlo h3 hsame
          go_wp2_with fail
          go_roundw
          case rel => exact ⟨k + 1, by omega, by go_num, HB.out, HK2.out⟩
          case measure => simp [intOf]; omega
    · obtain rfl : k = n := by omega
      have hfull : lowK s s.length = s.map rlow := by unfold lowK; simp
      have hsl : Sl wr (w.heap.size + 1) (.slice (some ⟨w.heap.size, 0, none⟩) k c) (s.map rlow) := by
        refine ⟨_, c, by rw [List.length_map, HN.out], (fun h => by cases h), by rw [List.length_map, ← HN.out]; exact hc1, hc2, fun _ => ⟨_, _, rfl, by omega, ?_⟩⟩
        rw [← hfull, ← HN.out]; exact hW.bs
      have hcs := conv_sl hsl
      clear hfull hsl hb hW
      go_wp2_with fail
      go_ret
      exact ⟨rfl, HB.out⟩
set_option maxRecDepth 100000 in
theorem isFor_any (a b : List UInt8) (w : World) : Calls Tryz.prog 57 #[str a, str b] w fun e w' => e = .returned (.bool (forB a b)) ∧ w = w' := by
  by_cases h1 : a = [42]
  · subst h1
    go_enter Tryz.func57, Tryz.ntmps57
    go_wp2_with fail
    go_ret
    exact ⟨by unfold forB; simp, rfl⟩
  · have h2 : (a == [42]) = false := by rw [beq_eq_false_iff_ne]; exact h1
    have hf : forB a b = (a == b) := by unfold forB; rw [h2]; rfl
    rw [hf]
    by_cases h3 : a = b
    · subst h3
      clear hf
      go_enter Tryz.func57, Tryz.ntmps57
      go_wp2_with fail
      go_ret
      first | exact ⟨rfl, rfl⟩ | exact ⟨by simp, rfl⟩
    · have h4 : (a == b) = false := by rw [beq_eq_false_iff_ne]; exact h3
      rw [h4]
      clear hf
      go_enter Tryz.func57, Tryz.ntmps57
      go_wp2_with fail
      go_ret
      first | exact ⟨rfl, rfl⟩ | exact ⟨by simp [h4], rfl⟩
theorem plC_pl (b : UInt8) : plC b = plB b := rfl
theorem wordB_pl (s : List UInt8) : wordB s = (s == [42] || plainL s) := rfl
set_option maxRecDepth 100000 in
theorem isWord_any (s : List UInt8) (w : World) (hs : s.length ≤ 100000) : Calls Tryz.prog 53 #[str s] w fun e w' => e = .returned (.bool (wordB s)) ∧ Below w.heap.size w w' := by
  have HC := Lib.hid (plain_any s w hs)
  rw [wordB_pl]
  obtain ⟨P, hP⟩ : ∃ P, P = plainL s := ⟨_, rfl⟩
  rw [← hP] at HC ⊢
  clear hP
  by_cases h1 : s = [42]
  · subst h1
    clear HC
    go_enter Tryz.func53, Tryz.ntmps53
    go_wp2_with fail
    go_ret
    exact ⟨rfl, Below.refl _ _⟩
  · have h2 : (s == [42]) = false := by rw [beq_eq_false_iff_ne]; exact h1
    rw [h2, Bool.false_or]
    clear h1
    go_enter Tryz.func53, Tryz.ntmps53
    go_wp2_with fail
    refine HC.out.mono ?_
    rintro e w1 ⟨rfl, hB⟩
    have HB := Lib.hid hB; clear hB HC
    go_wp2_with fail
    go_ret
    exact ⟨rfl, HB.out⟩
theorem rhS_ascii : ∀ (j : Nat) b, rhS[j]? = some b → b.toNat < 128 := by
  intro j b h
  have hm : b ∈ rhS := List.mem_of_getElem? h
  have : rhS.all (fun b => decide (b.toNat < 128)) = true := by decide +kernel
  simpa using List.all_eq_true.1 this b hm
theorem trim_rh (s : List UInt8) : Lib.trimLeftS s rhS = [] ↔ s.all (rhS.contains ·) = true := by
  unfold Lib.trimLeftS
  induction s with
  | nil => simp
  | cons b t ih =>
    rw [List.dropWhile_cons, List.all_cons]
    cases h : rhS.contains b with
    | true => simpa using ih
    | false => simp
theorem trimRh_any (t : List UInt8) (w : World) :
    Calls Tryz.prog 70 #[str t, .string ⟨rhS.toArray⟩] w fun e w' => e = .returned (str (Lib.trimLeftS t rhS)) ∧ Below w.heap.size w w' :=
  Any.strings_TrimLeft_laid Tryz.lays161 (by kernel_rfl) ⟨t.toArray⟩ ⟨rhS.toArray⟩ w (by decide) rhS_ascii
set_option maxRecDepth 100000 in
theorem isPattern_any (s : List UInt8) (w : World) (_hs : s.length ≤ 100000) : Calls Tryz.prog 54 #[str s] w fun e w' => e = .returned (.bool (patB s)) ∧ Below w.heap.size w w' := by
  have HC := Lib.hid (trimRh_any s w)
  have ht := trim_rh s
  obtain ⟨T, hT⟩ : ∃ T, T = Lib.trimLeftS s rhS := ⟨_, rfl⟩
  rw [← hT] at ht HC
  clear hT
  have hp : patB s = (!s.isEmpty && decide (s.length ≤ 32) && s.all (rhS.contains ·)) := rfl
  obtain ⟨P, hP⟩ : ∃ P, P = patB s := ⟨_, rfl⟩
  rw [← hP] at hp ⊢
  clear hP
  unfold rhS at HC
  have key : (T = [] ∧ s.all (rhS.contains ·) = true) ∨ (T.isEmpty = false ∧ s.all (rhS.contains ·) = false) := by
    by_cases hTe : T = []
    · exact .inl ⟨hTe, ht.1 hTe⟩
    · exact .inr ⟨by cases T; exact absurd rfl hTe; rfl, by rw [← Bool.not_eq_true]; exact fun e => hTe (ht.2 e)⟩
  clear ht
  by_cases h0 : s.length = 0
  · obtain rfl : s = [] := List.eq_nil_of_length_eq_zero h0
    obtain rfl : P = false := by rw [hp]; rfl
    clear hp h0
    rcases key with ⟨rfl, _⟩ | ⟨hTe, _⟩
    all_goals
      go_enter Tryz.func54, Tryz.ntmps54
      go_wp2_with fail
      refine HC.out.mono ?_
      rintro e w1 ⟨rfl, hB⟩
      have HB := Lib.hid hB; clear hB HC
      go_wp2_with fail
      go_ret
      exact ⟨rfl, HB.out⟩
  · have hne := str_ne s h0
    rw [hne, Bool.not_false, Bool.true_and] at hp
    by_cases h32 : s.length ≤ 32
    · have h32' : (s.length : Int) ≤ 32 := by omega
      rw [decide_eq_true h32, Bool.true_and] at hp
      clear h0 h32
      rcases key with ⟨rfl, ha⟩ | ⟨hTe, ha⟩
      all_goals
        rw [ha] at hp
        subst hp
        clear ha
        go_enter Tryz.func54, Tryz.ntmps54
        go_wp2_with fail
        refine HC.out.mono ?_
        rintro e w1 ⟨rfl, hB⟩
        have HB := Lib.hid hB; clear hB HC
        go_wp2_with fail
        go_ret
        exact ⟨rfl, HB.out⟩
    · have h32' : ¬ (s.length : Int) ≤ 32 := by omega
      rw [decide_eq_false h32, Bool.false_and] at hp
      subst hp
      clear h0 h32
      rcases key with ⟨rfl, _⟩ | ⟨hTe, _⟩
      all_goals
        go_enter Tryz.func54, Tryz.ntmps54
        go_wp2_with fail
        refine HC.out.mono ?_
        rintro e w1 ⟨rfl, hB⟩
        have HB := Lib.hid hB; clear hB HC
        go_wp2_with fail
        go_ret
        exact ⟨rfl, HB.out⟩
end Go.Proofs.YthpkmdojeegleaaGreatDoor
