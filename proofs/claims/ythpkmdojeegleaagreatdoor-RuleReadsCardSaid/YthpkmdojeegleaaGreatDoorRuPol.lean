/- A policy in memory; rule.New; the iterator over its rules. -/
import Derived.Test.YthpkmdojeegleaaGreatDoorRuNew
import Derived.Test.YthpkmdojeegleaaGreatDoorRangeG
set_option maxRecDepth 100000
namespace Go.Proofs.YthpkmdojeegleaaGreatDoor
open Go.RowKit Go.Shelf
attribute [local go_sem] Oper.semAt_some
/-- Between its rounds the iterator only makes new memory. -/
def StL (_ : Nat) (A B : World) : Prop := Below A.heap.size A B
theorem OwnR.empty (w : World) : OwnR 41 (w.alloc (.cells #[] 41)) w.heap.size (.slice (some ⟨w.heap.size, 0, none⟩) 0 0) [] := by
  refine ⟨rfl, .inr ⟨w.heap.size, 0, #[], rfl, Nat.le_refl _, heap_alloc_new w _, Nat.le_refl _, by unfold maxLen; omega, rfl, rfl⟩⟩
theorem wpList_appRs {w : World} {ops : Array Oper} {rest : List Oper} {o : Oper} {a : Act} {Q : Exit → Act → World → Prop} (hgd : o.guard = none) (s x : Operand) (ho : o.op = .call { callee := .builtin .append, args := #[s, x], argTypes := #[38, 38] })
    (base : Nat) (v : Value) (xs : List RuL) (hs : a.eval s = v) (hown : OwnR 41 w base v []) (ad : Addr) (c : Nat) (hx : a.eval x = .slice (some ad) xs.length c)
    (_hc1 : xs.length ≤ c) (hcs : ∀ j u, (rcs xs)[j]? = some u → w.cell? (ad.add j) = some u) (hn : xs.length ≤ 500000) (hbase : base ≤ w.heap.size)
    (h : ∀ v' w', OwnR 41 w' base v' xs → w.grownBy w' v.ownBlock → wpList Tryz.prog ops Q rest (a.put o.dst v') w') : wpList Tryz.prog ops Q (o :: rest) a w := by
  obtain ⟨i0, hi, hz0, hz1, hz2⟩ := info_parts info_ru
  refine wpList_append_own w hgd s x 38 ho base 41 i0 zagg 6 72 Tryz.underlying38 hi hz0 hz1 hz2 rfl (by decide) v 0 (rcs []) hs hown ad xs.length c (rcs xs) hx (by rw [rcs_len]; omega) hcs (rcs_one xs) (by unfold maxLen; omega) (by omega) hbase ?_
  · intro v' w' h1 h2 _
    refine h v' w' ?_ h2
    rw [show rcs [] ++ rcs xs = rcs xs from rfl, Nat.zero_add] at h1
    exact h1
set_option maxHeartbeats 400000 in
theorem cloneR_any (B : Nat) (v : Value) (xs : List RuL) (w : World) (hv : RlIn w B v xs) (hB : B ≤ w.heap.size) (hl : xs.length ≤ 5000) :
    Calls Tryz.prog 38 #[v] w fun e w' => ∃ v', e = .returned v' ∧ OwnR 41 w' w.heap.size v' xs ∧ Below w.heap.size w w' := by
  have HV := Lib.hid hv
  obtain ⟨A, c, rfl, hc1, hc2, hin⟩ := hv
  have hnilA := fun (A : Option Addr) (n c : Nat) => Lib.run_eql_slice_nil (P := Tryz.prog) w 38 41 A n c 0 0 Tryz.underlying38
  have HNIL := Lib.hid hnilA
  clear hnilA
  cases A with
  | none =>
    have hx : xs = [] := by
      cases xs with
      | nil => rfl
      | cons x t => obtain ⟨g, o, e, _⟩ := hin (by simp); cases e
    subst hx
    clear hin
    have hnil := HNIL.out none 0 c
    go_enter Tryz.func38, Tryz.ntmps38
    go_wp2_with fail
    go_ret
    exact ⟨_, rfl, World.ownsRow_nil _ _ _ 6, Below.refl _ _⟩
  | some ad =>
    by_cases h0 : xs = []
    · subst h0
      clear hin
      have HOW := Lib.hid (OwnR.empty w)
      obtain ⟨ab, ao, sp⟩ := ad
      have hnil := HNIL.out (some ⟨ab, ao, sp⟩) 0 c
      have HCS := Lib.hid (fun j u (hu : (rcs [])[j]? = some u) => show (w.alloc (.cells #[] 41)).cell? ((⟨ab, ao, sp⟩ : Addr).add j) = some u by simp [rcs] at hu)
      go_enter Tryz.func38, Tryz.ntmps38
      go_wp2_with (at_builtin; (refine wpList_appRs rfl (.tmp 5) (.tmp 6) rfl w.heap.size (.slice (some ⟨w.heap.size, 0, none⟩) 0 0) [] rfl HOW.out ⟨ab, ao, sp⟩ c rfl (Nat.zero_le _) HCS.out (by simp) (by simp) ?_); intro v5 A1 hO5 hg5; have HO5 := Lib.hid hO5; have HB5 := Lib.hid (((Below.refl w.heap.size w).alloc (Nat.le_refl _) (.cells #[] 41)).grown hg5 (by simp) (fun k hk => Nat.le_of_eq (by simpa [Value.ownBlock] using hk))); clear hO5 hg5)
      go_ret
      exact ⟨_, rfl, HO5.out, HB5.out⟩
    · have hl0 : 0 < xs.length := List.length_pos_iff.2 h0
      obtain ⟨g, o, e, hgB, _⟩ := hin hl0
      cases e
      clear hin
      have HOW := Lib.hid (OwnR.empty w)
      have HV2 := Lib.hid (HV.out.below ((Below.refl w.heap.size w).alloc (Nat.le_refl _) (.cells #[] 41)) hB)
      have hnil := HNIL.out (some ⟨g, o, none⟩) xs.length c
      have HCS := Lib.hid (fun j u (hu : (rcs xs)[j]? = some u) => show (w.alloc (.cells #[] 41)).cell? ((⟨g, o, none⟩ : Addr).add j) = some u by rw [Addr.add_mid]; exact HV2.out.cells j u hu)
      go_enter Tryz.func38, Tryz.ntmps38
      go_wp2_with (at_builtin; (refine wpList_appRs rfl (.tmp 5) (.tmp 6) rfl w.heap.size (.slice (some ⟨w.heap.size, 0, none⟩) 0 0) xs rfl HOW.out ⟨g, o, none⟩ c rfl hc1 HCS.out (by omega) (by simp) ?_); intro v5 A1 hO5 hg5; have HO5 := Lib.hid hO5; have HB5 := Lib.hid (((Below.refl w.heap.size w).alloc (Nat.le_refl _) (.cells #[] 41)).grown hg5 (by simp) (fun k hk => Nat.le_of_eq (by simpa [Value.ownBlock] using hk))); clear hO5 hg5)
      go_ret
      exact ⟨_, rfl, HO5.out, HB5.out⟩
/-- A policy (or none), below block B. -/
def PolO (W : World) (B : Nat) (pv : Value) (xs : List RuL) : Prop :=
  (pv = .pointer none ∧ xs = []) ∨ ∃ p v, pv = .pointer (some ⟨p, 0, none⟩) ∧ p < B ∧ W.cell? ⟨p, 0, none⟩ = some v ∧ RlIn W B v xs
theorem PolO.below {W W' : World} {B B' : Nat} {pv : Value} {xs : List RuL} (h : PolO W B pv xs) (hb : Below B' W W') (hB : B ≤ B') : PolO W' B pv xs := by
  rcases h with h | ⟨p, v, h1, h2, h3, h4⟩
  · exact .inl h
  · exact .inr ⟨p, v, h1, h2, (hb.cell (p := ⟨p, 0, none⟩) (by show p < B'; omega)).trans h3, h4.below hb hB⟩
theorem PolO.more {W : World} {B B' : Nat} {pv : Value} {xs : List RuL} (h : PolO W B pv xs) (hB : B ≤ B') : PolO W B' pv xs := by
  rcases h with h | ⟨p, v, h1, h2, h3, h4⟩
  · exact .inl h
  · exact .inr ⟨p, v, h1, by omega, h3, h4.more hB⟩
/-- What New gives. -/
def NewR (xs : List RuL) (w : World) (e : Ending) (w' : World) : Prop :=
  ∃ pv x, e = .returned (.tuple #[pv, .int .i64 x]) ∧ ((xs.all validB = false ∧ pv = .pointer none ∧ x = 4) ∨ (xs.all validB = true ∧ 32 < xs.length ∧ pv = .pointer none ∧ x = 8) ∨
    (xs.all validB = true ∧ xs.length ≤ 32 ∧ x = 0 ∧ (∃ p, pv = .pointer (some ⟨p, 0, none⟩)) ∧ PolO w' w'.heap.size pv xs)) ∧ Below w.heap.size w w'
set_option maxHeartbeats 1000000 in
theorem new_any (B : Nat) (v : Value) (xs : List RuL) (w : World) (hE : Env w) (hv : RlIn w B v xs) (hB : B ≤ w.heap.size) (hs : ∀ r ∈ xs, SmallR r) (hl : xs.length ≤ 5000) :
    Calls Tryz.prog 17 #[v] w (NewR xs w) := by
  have HC := Lib.hid (containsF_any B v xs w hE hv hB hs hl)
  have HCL := Lib.hid (fun W (h : Below w.heap.size w W) => cloneR_any B v xs W (hv.below h hB) (Nat.le_trans hB h.size) hl)
  obtain ⟨A, c, rfl, _⟩ := hv
  have hdef : ∀ e w', NewR xs w e w' ↔ NewR xs w e w' := fun _ _ => Iff.rfl
  obtain ⟨P, hP⟩ : ∃ P, P = xs.all validB := ⟨_, rfl⟩
  rw [← hP] at HC
  have HP := Lib.hid hP
  clear hP hE hs hdef
  cases P with
  | false =>
    go_enter Tryz.func17, Tryz.ntmps17
    go_wp2_with fail
    refine HC.out.mono ?_
    rintro e w1 ⟨rfl, hB1⟩
    have HB1 := Lib.hid hB1; clear hB1 HC
    go_wp2_with fail
    go_ret2
    exact ⟨_, _, rfl, .inl ⟨HP.out.symm, rfl, rfl⟩, HB1.out⟩
  | true =>
    by_cases h32 : xs.length ≤ 32
    · have h1 : ¬ (32 : Int) < (xs.length : Int) := by omega
      go_enter Tryz.func17, Tryz.ntmps17
      go_wp2_with fail
      refine HC.out.mono ?_
      rintro e w1 ⟨rfl, hB1⟩
      have HB1 := Lib.hid hB1; clear hB1 HC
      go_wp2_with fail
      refine (HCL.out _ HB1.out).mono ?_
      rintro e w2 ⟨v2, rfl, hO, hB2⟩
      have hb2 : Below w2.heap.size w2 (w2.alloc (.cells #[v2] 70)) := (Below.refl _ w2).alloc (Nat.le_refl _) _
      have HPO : Hid (PolO (w2.alloc (.cells #[v2] 70)) (w2.alloc (.cells #[v2] 70)).heap.size (.pointer (some ⟨w2.heap.size, 0, none⟩)) xs) :=
        Lib.hid (.inr ⟨_, v2, rfl, by simp, by rw [World.cell?_alloc_at _ _ _ _ (by simp)]; rfl, (hO.rlIn.below hb2 (Nat.le_refl _)).more (by simp)⟩)
      obtain ⟨A2, c2, rfl, _⟩ := hO.form
      have HB2 := Lib.hid ((HB1.out.trans (hB2.mono HB1.out.size)).alloc (by have := HB1.out.size; have := hB2.size; omega) (.cells #[.slice A2 xs.length c2] 70)); clear hB2 hO hb2 HCL
      go_wp2_with fail
      go_ret2
      exact ⟨_, _, rfl, .inr (.inr ⟨HP.out.symm, h32, rfl, ⟨_, rfl⟩, HPO.out⟩), HB2.out⟩
    · have h1 : (32 : Int) < (xs.length : Int) := by omega
      go_enter Tryz.func17, Tryz.ntmps17
      go_wp2_with fail
      refine HC.out.mono ?_
      rintro e w1 ⟨rfl, hB1⟩
      have HB1 := Lib.hid hB1; clear hB1 HC
      go_wp2_with fail
      go_ret2
      exact ⟨_, _, rfl, .inr (.inl ⟨HP.out.symm, by omega, rfl, rfl⟩), HB1.out⟩
end Go.Proofs.YthpkmdojeegleaaGreatDoor
