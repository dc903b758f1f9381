/- Texts parted at a byte, as lists, and the reference's Split. (The parts of RuLs and RuSR that this wants.) -/
import Derived.Lib.IndexMore
import Derived.Lib.Strings
import Derived.Lib.Split
import Derived.Test.YtoehkhbppmgfkaaGreatDoorDecL
import Derived.Test.YtoehkhbppmgfkaaGreatDoorOwnT
import Derived.Test.YtoehkhbppmgfkaaGreatDoorStrI
set_option maxRecDepth 100000
namespace Go.Proofs.YtoehkhbppmgfkaaGreatDoor
open Go.RowKit
/-- The pieces between the bytes c. -/
def spl (c : UInt8) : List UInt8 → List (List UInt8)
  | [] => [[]]
  | x :: t => if x = c then [] :: spl c t else match spl c t with
    | [] => [[x]]
    | p :: ps => (x :: p) :: ps
theorem spl_ne (c : UInt8) (l : List UInt8) : spl c l ≠ [] := by
  cases l with
  | nil => simp [spl]
  | cons x t =>
    unfold spl
    split
    · simp
    · split <;> simp
theorem spl_hit (c : UInt8) (t : List UInt8) : spl c (c :: t) = [] :: spl c t := by rw [spl, if_pos rfl]
theorem spl_miss {c x : UInt8} (hx : x ≠ c) (t : List UInt8) : ∃ p ps, spl c t = p :: ps ∧ spl c (x :: t) = (x :: p) :: ps := by
  cases h : spl c t with
  | nil => exact absurd h (spl_ne c t)
  | cons p ps => exact ⟨p, ps, rfl, by rw [spl, if_neg hx, h]⟩
theorem spl_none {c : UInt8} : ∀ (a : List UInt8), c ∉ a → spl c a = [a]
  | [], _ => rfl
  | x :: a, h => by
    have hx : x ≠ c := fun e => h (by simp [e])
    obtain ⟨p, ps, e1, e2⟩ := spl_miss hx a
    rw [spl_none a (fun h2 => h (by simp [h2]))] at e1
    cases e1
    exact e2
theorem spl_at {c : UInt8} (b : List UInt8) : ∀ (a : List UInt8), c ∉ a → spl c (a ++ c :: b) = a :: spl c b
  | [], _ => spl_hit c b
  | x :: a, h => by
    have hx : x ≠ c := fun e => h (by simp [e])
    obtain ⟨p, ps, e1, e2⟩ := spl_miss hx (a ++ c :: b)
    rw [spl_at b a (fun h2 => h (by simp [h2]))] at e1
    cases e1
    exact e2
theorem spl_mem {c : UInt8} : ∀ (l : List UInt8), ∀ p ∈ spl c l, c ∉ p
  | [], p, hp => by simp [spl] at hp; subst hp; simp
  | x :: t, p, hp => by
    by_cases hx : x = c
    · subst hx
      rw [spl_hit, List.mem_cons] at hp
      rcases hp with rfl | hp
      · simp
      · exact spl_mem t p hp
    · obtain ⟨q, ps, e1, e2⟩ := spl_miss hx t
      have ih := spl_mem (c := c) t
      rw [e1] at ih
      rw [e2, List.mem_cons] at hp
      rcases hp with rfl | hp
      · intro h
        rcases List.mem_cons.1 h with e | h
        · exact hx e.symm
        · exact ih q (by simp) h
      · exact ih p (by simp [hp])
theorem spl_len {c : UInt8} : ∀ (l : List UInt8), (spl c l).length ≤ l.length + 1 ∧ ∀ p ∈ spl c l, p.length ≤ l.length
  | [] => by simp [spl]
  | x :: t => by
    obtain ⟨a1, a2⟩ := spl_len (c := c) t
    by_cases hx : x = c
    · subst hx
      rw [spl_hit]
      refine ⟨by simp; omega, fun p hp => ?_⟩
      rcases List.mem_cons.1 hp with rfl | hp
      · simp
      · have := a2 p hp; simp; omega
    · obtain ⟨q, ps, e1, e2⟩ := spl_miss hx t
      rw [e1] at a1 a2
      rw [e2]
      refine ⟨by simp at a1 ⊢; omega, fun p hp => ?_⟩
      rcases List.mem_cons.1 hp with rfl | hp
      · have := a2 q (by simp); simp; omega
      · have := a2 p (by simp [hp]); simp; omega
attribute [local go_sem] Oper.semAt_some
theorem cut_mid (s : List UInt8) (f k : Nat) (h1 : f ≤ k) (h2 : k ≤ s.length) (W : World) : (Instr.slice 9 (str s) (some (.int .i64 (f : Int))) (some (.int .i64 (k : Int))) none).run Tryz.prog W = .ok (str ((s.drop f).take (k - f))) W := by
  have e : (ByteArray.mk s.toArray).extract f k = ByteArray.mk ((s.drop f).take (k - f)).toArray := by
    apply ByteArray.ext
    simp [ByteArray.data_extract]
  go_simp
/-- Where the reference stands. -/
def SpI (c : UInt8) (s : List UInt8) (k f : Nat) (ls : List (List UInt8)) : Prop :=
  (k ≤ s.length ∧ f ≤ k ∧ ls ++ spl c (s.drop f) = spl c s ∧ c ∉ (s.drop f).take (k - f)) ∨ (k = s.length + 1 ∧ ls = spl c s)
theorem SpI.hit {c : UInt8} {s : List UInt8} {k f : Nat} {ls : List (List UInt8)} (h : SpI c s k f ls) (hk : k < s.length) (hx : s[k] = c) : SpI c s (k + 1) (k + 1) (ls ++ [(s.drop f).take (k - f)]) := by
  rcases h with ⟨_, h2, h3, h4⟩ | ⟨h, _⟩
  · refine .inl ⟨by omega, Nat.le_refl _, ?_, by simp⟩
    have e : s.drop f = (s.drop f).take (k - f) ++ c :: s.drop (k + 1) := by
      have h5 := (List.take_append_drop (k - f) (s.drop f)).symm
      rw [List.drop_drop, show f + (k - f) = k by omega, List.drop_eq_getElem_cons hk, hx] at h5
      exact h5
    rw [← h3]
    have h6 : spl c (s.drop f) = (s.drop f).take (k - f) :: spl c (s.drop (k + 1)) := by
      have := spl_at (s.drop (k + 1)) ((s.drop f).take (k - f)) h4
      rw [← e] at this
      exact this
    rw [h6]; simp
  · omega
theorem SpI.miss {c : UInt8} {s : List UInt8} {k f : Nat} {ls : List (List UInt8)} (h : SpI c s k f ls) (hk : k < s.length) (hx : s[k] ≠ c) : SpI c s (k + 1) f ls := by
  rcases h with ⟨_, h2, h3, h4⟩ | ⟨h, _⟩
  · refine .inl ⟨by omega, by omega, h3, ?_⟩
    rw [show k + 1 - f = (k - f) + 1 by omega, List.take_succ_eq_append_getElem (by simp; omega), List.mem_append, List.mem_singleton]
    rintro (h5 | h5)
    · exact h4 h5
    · rw [List.getElem_drop] at h5
      apply hx
      rw [h5]; congr 1; omega
  · omega
theorem SpI.fin {c : UInt8} {s : List UInt8} {f : Nat} {ls : List (List UInt8)} (h : SpI c s s.length f ls) : SpI c s (s.length + 1) (s.length + 1) (ls ++ [(s.drop f).take (s.length - f)]) := by
  rcases h with ⟨_, h2, h3, h4⟩ | ⟨h, _⟩
  · refine .inr ⟨rfl, ?_⟩
    rw [List.take_of_length_le (by simp)] at h4 ⊢
    rw [← h3, spl_none _ h4]
  · omega
theorem SpI.le {c : UInt8} {s : List UInt8} {k f : Nat} {ls : List (List UInt8)} (h : SpI c s k f ls) (hk : k ≤ s.length) : f ≤ k := by
  rcases h with ⟨_, h2, _, _⟩ | ⟨h, _⟩
  · exact h2
  · omega
theorem SpI.len {c : UInt8} {s : List UInt8} {k f : Nat} {ls : List (List UInt8)} (h : SpI c s k f ls) : ls.length ≤ s.length + 1 := by
  have hl := (spl_len (c := c) s).1
  rcases h with ⟨_, _, h3, _⟩ | ⟨_, h⟩
  · rw [← h3, List.length_append] at hl; omega
  · rw [h]; exact hl
set_option maxHeartbeats 4000000 in
theorem refSplit_any (s : List UInt8) (c : UInt8) (w : World) (hs : s.length ≤ 100000) : Calls Tryz.prog 26 #[str s, vb c] w fun e w' => ∃ v, e = .returned v ∧ OwnT w' w.heap.size v (spl c s) ∧ Below w.heap.size w w' := by
  have HO := Lib.hid (OwnT.nil w w.heap.size)
  have hv : vb c = .int .u8 (c.toNat : Int) := rfl
  rw [hv]
  go_enter Tryz.func26, Tryz.ntmps26
  go_wp2_with fail
  go_loopw [5, 6, 7] (fun v fr i wr => ∃ (k f : Nat) (ls : List (List UInt8)), k ≤ s.length + 1 ∧ i = .int .i64 (k : Int) ∧ fr = .int .i64 (f : Int) ∧ SpI c s k f ls ∧ OwnT wr w.heap.size v ls ∧ Below w.heap.size w wr) (fun _ _ i _ => s.length + 1 - (intOf i).toNat)
  case atStart => exact ⟨0, 0, [], by omega, rfl, rfl, .inl ⟨by omega, by omega, by simp, by simp⟩, HO.out, Below.refl _ _⟩
  case round =>
    obtain ⟨k, f, ls, hk, rfl, rfl, hI, ho, hb⟩ := hrel
    have HOW := Lib.hid ho; have HBW := Lib.hid hb
    have hll : ls.length ≤ 1000000 := by have := hI.len; omega
    by_cases hle : k ≤ s.length
    · have hfk := hI.le hle
      have hlez : (k : Int) ≤ (s.length : Int) := by omega
      by_cases hlt : k < s.length
      · have hik : ∀ W, (Instr.index 9 (str s) (.int .i64 (k : Int))).run Tryz.prog W = .ok (vb (s.getD k 0)) W := str_index s k hlt
        have hgx : s.getD k 0 = s[k] := by rw [List.getD_eq_getElem?_getD, List.getElem?_eq_getElem hlt]; rfl
        rw [hgx] at hik
        have hne : ((k : Int) == (s.length : Int)) = false := by rw [beq_eq_false_iff_ne]; omega
        by_cases hx : s[k] = c
        · rw [hx] at hik
          have hik2 : ∀ W, (Instr.index 9 (str s) (.int .i64 (k : Int))).run Tryz.prog W = .ok (.int .u8 (c.toNat : Int)) W := hik
          clear hik hgx
          have HM := Lib.hid (cut_mid s f k hfk (by omega))
          obtain ⟨a, ha⟩ : ∃ a, a = (s.drop f).take (k - f) := ⟨_, rfl⟩
          have hcm := fun W => cut_mid s f k hfk (by omega) W
          rw [← ha] at hcm
          have HN := Lib.hid (show SpI c s (k + 1) (k + 1) (ls ++ [a]) from by rw [ha]; exact hI.hit hlt hx)
          have hal := (Below.refl wr.heap.size wr).alloc (Nat.le_refl _) (.cells #[str a] 9)
          have HOA := Lib.hid (HOW.out.below hal)
          have HBA := Lib.hid (HBW.out.trans (hal.mono HBW.out.size))
          have HCA := Lib.hid (show (wr.alloc (.cells #[str a] 9)).cell? ⟨wr.heap.size, 0, none⟩ = some (str a) from (Blk.new wr [str a] 9).at (o := 0) rfl)
          clear HM ha hal hb ho hI
          go_wp2_with (at_builtin; (refine wpList_appT rfl (.tmp 25) (.tmp 30) rfl w.heap.size u5 ls a rfl HOA.out wr.heap.size 1 rfl HCA.out hll HBA.out.size ?_); intro v5 A1 hO5 hg5; have HO5 := Lib.hid hO5; have HB5 := Lib.hid (HBA.out.grown hg5 HBA.out.size (fun r e => (HOA.out.lt r e).1)); clear hO5 hg5)
          go_roundw
          case rel => exact ⟨k + 1, k + 1, _, by omega, by go_num, by go_num, HN.out, HO5.out, HB5.out⟩
          case measure => simp [intOf]; omega
        · have hik2 : ∀ W, (Instr.index 9 (str s) (.int .i64 (k : Int))).run Tryz.prog W = .ok (.int .u8 (s[k].toNat : Int)) W := hik
          have HN := Lib.hid (hI.miss hlt hx)
          have hxc : ((s[k].toNat : Int) == (c.toNat : Int)) = false := by
            rw [beq_eq_false_iff_ne]; have : s[k].toNat ≠ c.toNat := fun e => hx (UInt8.toNat_inj.1 e); omega
          obtain ⟨X, hX⟩ : ∃ X, X = s[k].toNat := ⟨_, rfl⟩
          rw [← hX] at hik2 hxc
          clear hik hgx hX hx hI ho hb
          go_wp2_with fail
          go_roundw
          case rel => exact ⟨k + 1, f, ls, by omega, by go_num, rfl, HN.out, HOW.out, HBW.out⟩
          case measure => simp [intOf]; omega
      · obtain rfl : k = s.length := by omega
        have hne : ((s.length : Int) == (s.length : Int)) = true := by rw [beq_iff_eq]
        have HM := Lib.hid (cut_mid s f s.length hfk (by omega))
        obtain ⟨a, ha⟩ : ∃ a, a = (s.drop f).take (s.length - f) := ⟨_, rfl⟩
        have hcm := fun W => cut_mid s f s.length hfk (by omega) W
        rw [← ha] at hcm
        have HN := Lib.hid (show SpI c s (s.length + 1) (s.length + 1) (ls ++ [a]) from by rw [ha]; exact hI.fin)
        have hal := (Below.refl wr.heap.size wr).alloc (Nat.le_refl _) (.cells #[str a] 9)
        have HOA := Lib.hid (HOW.out.below hal)
        have HBA := Lib.hid (HBW.out.trans (hal.mono HBW.out.size))
        have HCA := Lib.hid (show (wr.alloc (.cells #[str a] 9)).cell? ⟨wr.heap.size, 0, none⟩ = some (str a) from (Blk.new wr [str a] 9).at (o := 0) rfl)
        clear HM ha hal hb ho hI
        go_wp2_with (at_builtin; (refine wpList_appT rfl (.tmp 25) (.tmp 30) rfl w.heap.size u5 ls a rfl HOA.out wr.heap.size 1 rfl HCA.out hll HBA.out.size ?_); intro v5 A1 hO5 hg5; have HO5 := Lib.hid hO5; have HB5 := Lib.hid (HBA.out.grown hg5 HBA.out.size (fun r e => (HOA.out.lt r e).1)); clear hO5 hg5)
        go_roundw
        case rel => exact ⟨s.length + 1, s.length + 1, _, by omega, by go_num, by go_num, HN.out, HO5.out, HB5.out⟩
        case measure => first | (simp [intOf]; done) | (simp [intOf]; omega)
    · have hkl : k = s.length + 1 := by omega
      have hls : ls = spl c s := by
        rcases hI with ⟨h, _⟩ | ⟨_, h⟩
        · omega
        · exact h
      have hgt : ¬ (k : Int) ≤ (s.length : Int) := by omega
      rw [hls] at HOW
      clear hI hls ho hb hkl
      go_wp2_with fail
      go_ret
      exact ⟨_, rfl, HOW.out, HBW.out⟩
end Go.Proofs.YtoehkhbppmgfkaaGreatDoor
