/- nonce: what an operation of a Store leaves as it was: all below base, and all rows but the Store's and its table's. -/
import Derived.Test.YthpgdojjecdlcaaNnSt
set_option maxRecDepth 100000
namespace Go.Proofs.Ythpgdojjecdlcaa
open Go.RowKit Go.Shelf
/-- No row of the Store's or its table's types. -/
def Oth (o : Obj) : Prop := ∀ c t f, o = Obj.cells c t f → t ≠ tT ∧ t ≠ tE ∧ t ≠ tSt
theorem Oth.cells {c : Array Value} {t : TypeId} {f : Nat × Nat} (h : t ≠ tT ∧ t ≠ tE ∧ t ≠ tSt) : Oth (.cells c t f) := fun _ _ _ e => by cases e; exact h
structure FrN (base m : Nat) (w w' : World) : Prop where
  low : Below base w w'
  kp : ∀ (g : Nat) (o : Obj), w.heap[g]? = some o → Oth o → g ≠ m → w'.heap[g]? = some o
section
variable {w w1 w' : World} {base S T m cap : Nat} {f : NF} {l : List (List UInt8 × VT)}
theorem FrN.refl (base m : Nat) (w : World) : FrN base m w w := ⟨Below.refl _ _, fun _ _ h _ _ => h⟩
theorem FrN.trans (h : FrN base m w w1) (k : FrN base m w1 w') : FrN base m w w' := ⟨h.low.trans k.low, fun g o h1 h2 h3 => k.kp g o (h.kp g o h1 h2 h3) h2 h3⟩
theorem FrN.of_below (h : Below w.heap.size w w') (hb : base ≤ w.heap.size) : FrN base m w w' := ⟨h.mono hb, fun g _ h1 _ _ => (h.block g (Array.getElem?_eq_some_iff.1 h1).1).trans h1⟩
theorem FrN.below (h : FrN base m w w1) (hb : Below w1.heap.size w1 w') (hl : base ≤ w.heap.size) : FrN base m w w' := h.trans (FrN.of_below hb (Nat.le_trans hl h.low.size))
theorem FrN.drew (h : FrN base m w w') : FrN base m w w'.drew := ⟨h.low.drew, h.kp⟩
theorem FrN.set (h : FrN base m w w') {S : Nat} {cs : List Value} (hS : BlkT w' S tSt cs) (hb : base ≤ S) (o : Nat) (v : Value) : FrN base m w (w'.setCell ⟨S, o, none⟩ v) :=
  ⟨h.low.setCell (p := ⟨S, o, none⟩) hb v, fun g ob h1 h2 h3 => (Below.heap_setCell w' ⟨S, o, none⟩ v g (fun e => by
    have h4 := h.kp g ob h1 h2 h3
    unfold BlkT at hS
    have e2 : g = S := e
    rw [e2, hS] at h4
    exact (h2 _ _ _ (Option.some.inj h4).symm).2.2 rfl)).trans (h.kp g ob h1 h2 h3)⟩
theorem FrN.of_trn {xs : List Nd} (h : Tb w T m cap xs) (ht : Trn (tbk T m xs) w w') (hS : ∀ k ∈ tbk T m xs, base ≤ k) : FrN base m w w' :=
  ⟨ht.toBelow (by have := h.tbl.lt; have := hS T (List.mem_cons_self ..); omega) hS, fun g o hg h2 h3 => (ht.block g (Array.getElem?_eq_some_iff.1 hg).1 (fun hk => by
    rcases List.mem_cons.1 hk with rfl | hk
    · have := h.tbl
      unfold BlkT at this
      rw [hg] at this
      exact (h2 _ _ _ (Option.some.inj this)).1 rfl
    · rcases List.mem_cons.1 hk with rfl | hk
      · exact h3 rfl
      · obtain ⟨y, hy, rfl⟩ := List.mem_map.1 hk
        obtain ⟨cs, hb⟩ := chn_ty xs none none h.chn y hy
        unfold BlkT at hb
        rw [hg] at hb
        exact (h2 _ _ _ (Option.some.inj hb)).2.1 rfl)).trans hg⟩
theorem TB.toN {xs : List Nd} (h : Tb w T m cap xs) (hT : base ≤ T) (hm : base ≤ m) (hx : ∀ x ∈ xs, base ≤ x.b) {l' : List (List UInt8 × VT)} (ht : To w w' T m cap xs l') : TB w' base T m cap l' ∧ Fr base w w' ∧ FrN base m w w' := by
  refine ⟨(TB.to h hT hm hx ht).1, (TB.to h hT hm hx ht).2, ?_⟩
  obtain ⟨_, _, _, htr, _⟩ := ht
  refine FrN.of_trn h htr ?_
  intro k hk
  rcases List.mem_cons.1 hk with rfl | hk
  · exact hT
  · rcases List.mem_cons.1 hk with rfl | hk
    · exact hm
    · obtain ⟨y, hy, rfl⟩ := List.mem_map.1 hk
      exact hx y hy
theorem put_n (h : TB w base T m cap l) (k : List UInt8) (v : VT) (hk : k.length ≤ 100000) :
    Calls Try.prog 40 #[tP T, strT k, vv v] w fun e w' => e = .returned (.int .i64 (putL cap l k v).1) ∧ TB w' base T m cap (putL cap l k v).2 ∧ Fr base w w' ∧ FrN base m w w' := by
  obtain ⟨xs, h, rfl, h2, h3, h4⟩ := h
  refine (put_any h k v hk).mono ?_
  rintro e w1 ⟨rfl, ht⟩
  exact ⟨rfl, TB.toN h h2 h3 h4 ht⟩
theorem set_n (h : TB w base T m cap l) (k : List UInt8) (v : VT) (hk : k.length ≤ 100000) :
    Calls Try.prog 30 #[tP T, strT k, vv v] w fun e w' => e = .returned (.int .i64 (setL l k v).1) ∧ TB w' base T m cap (setL l k v).2 ∧ Fr base w w' ∧ FrN base m w w' := by
  obtain ⟨xs, h, rfl, h2, h3, h4⟩ := h
  refine (set_any h k v hk).mono ?_
  rintro e w1 ⟨rfl, ht⟩
  exact ⟨rfl, TB.toN h h2 h3 h4 ht⟩
theorem drop_n (h : TB w base T m cap l) (k : List UInt8) (hk : k.length ≤ 100000) :
    Calls Try.prog 51 #[tP T, strT k] w fun e w' => e = .returned (.int .i64 (dropL l k).1) ∧ TB w' base T m cap (dropL l k).2 ∧ Fr base w w' ∧ FrN base m w w' := by
  obtain ⟨xs, h, rfl, h2, h3, h4⟩ := h
  refine (drop_any h k hk).mono ?_
  rintro e w1 ⟨rfl, ht⟩
  exact ⟨rfl, TB.toN h h2 h3 h4 ht⟩
end
end Go.Proofs.Ythpgdojjecdlcaa
