/- table: contracts by what a Table holds, from a block on; what else is left alone. -/
import Derived.Test.YthpgdojjecdlcaaTnT
set_option maxRecDepth 100000
namespace Go.Proofs.Ythpgdojjecdlcaa
open Go.RowKit
/-- The Table at T holds l; it lies from block base on. -/
def TB (w : World) (base T m cap : Nat) (l : List (List UInt8 × VT)) : Prop := ∃ xs, Tb w T m cap xs ∧ tbs xs = l ∧ base ≤ T ∧ base ≤ m ∧ ∀ x ∈ xs, base ≤ x.b
/-- Below base nothing has turned; nor has any row of another type. -/
structure Fr (base : Nat) (w w' : World) : Prop where
  low : Below base w w'
  kt : ∀ (g : Nat) (c : Array Value) (t : TypeId) (f : Nat × Nat), w.heap[g]? = some (Obj.cells c t f) → t ≠ tT → t ≠ tE → w'.heap[g]? = some (Obj.cells c t f)
section
variable {w w1 w' : World} {base T m cap : Nat} {l : List (List UInt8 × VT)}
theorem Fr.refl (base : Nat) (w : World) : Fr base w w := ⟨Below.refl _ _, fun _ _ _ _ h _ _ => h⟩
theorem Fr.trans (h : Fr base w w1) (k : Fr base w1 w') : Fr base w w' := ⟨h.low.trans k.low, fun g c t f h1 h2 h3 => k.kt g c t f (h.kt g c t f h1 h2 h3) h2 h3⟩
theorem Fr.of_below (h : Below w.heap.size w w') (hb : base ≤ w.heap.size) : Fr base w w' := ⟨h.mono hb, fun g _ _ _ h1 _ _ => (h.block g (Array.getElem?_eq_some_iff.1 h1).1).trans h1⟩
theorem TB.base_le (h : TB w base T m cap l) : base ≤ w.heap.size := by
  obtain ⟨xs, h, _, hT, _⟩ := h
  have := h.tbl.lt
  omega
theorem TB.keep (h : TB w base T m cap l) (hb : Below w.heap.size w w') : TB w' base T m cap l := by
  obtain ⟨xs, h, h2⟩ := h
  exact ⟨xs, h.keep hb, h2⟩
theorem chn_ty {w : World} : ∀ (l : List Nd) (p nx : Option Nat), Chn w p l nx → ∀ x ∈ l, ∃ cs, BlkT w x.b tE cs
  | [], _, _, _, x, hx => by simp at hx
  | y :: t, _, nx, hc, x, hx => by
    rcases List.mem_cons.1 hx with rfl | hx
    · exact ⟨_, hc.1⟩
    · exact chn_ty t _ nx hc.2 x hx
/-- An operation of a Table, and what it leaves. -/
theorem TB.to {xs : List Nd} (h : Tb w T m cap xs) (hT : base ≤ T) (hm : base ≤ m) (hx : ∀ x ∈ xs, base ≤ x.b) {l' : List (List UInt8 × VT)} (ht : To w w' T m cap xs l') : TB w' base T m cap l' ∧ Fr base w w' := by
  obtain ⟨xs', h', e, htr, hn⟩ := ht
  have hlt := h.tbl.lt
  have hS : ∀ k ∈ T :: m :: xs.map (·.b), base ≤ k := by
    intro k hk
    rcases List.mem_cons.1 hk with rfl | hk
    · exact hT
    · rcases List.mem_cons.1 hk with rfl | hk
      · exact hm
      · obtain ⟨y, hy, rfl⟩ := List.mem_map.1 hk
        exact hx y hy
  refine ⟨⟨xs', h', e, hT, hm, fun y hy => ?_⟩, htr.toBelow (by omega) hS, fun g c t f hg h1 h2 => ?_⟩
  · rcases hn y hy with h3 | h3
    · obtain ⟨z, hz, e2⟩ := List.mem_map.1 h3
      have e3 : z.b = y.b := e2
      rw [← e3]; exact hx z hz
    · omega
  · refine (htr.block g (Array.getElem?_eq_some_iff.1 hg).1 (fun hk => ?_)).trans hg
    rcases List.mem_cons.1 hk with rfl | hk
    · have := h.tbl
      unfold BlkT at this
      rw [hg] at this
      exact h1 (by cases this; rfl)
    · rcases List.mem_cons.1 hk with rfl | hk
      · obtain ⟨D, ⟨es, clock, hb, _⟩, _⟩ := h.map
        rw [hg] at hb; cases hb
      · obtain ⟨y, hy, rfl⟩ := List.mem_map.1 hk
        obtain ⟨cs, hb⟩ := chn_ty xs none none h.chn y hy
        unfold BlkT at hb
        rw [hg] at hb
        exact h2 (by cases hb; rfl)
theorem put_tb (h : TB w base T m cap l) (k : List UInt8) (v : VT) (hk : k.length ≤ 100000) :
    Calls Try.prog 40 #[tP T, strT k, vv v] w fun e w' => e = .returned (.int .i64 (putL cap l k v).1) ∧ TB w' base T m cap (putL cap l k v).2 ∧ Fr base w w' := by
  obtain ⟨xs, h, rfl, h2, h3, h4⟩ := h
  refine (put_any h k v hk).mono ?_
  rintro e w1 ⟨rfl, ht⟩
  exact ⟨rfl, TB.to h h2 h3 h4 ht⟩
theorem set_tb (h : TB w base T m cap l) (k : List UInt8) (v : VT) (hk : k.length ≤ 100000) :
    Calls Try.prog 30 #[tP T, strT k, vv v] w fun e w' => e = .returned (.int .i64 (setL l k v).1) ∧ TB w' base T m cap (setL l k v).2 ∧ Fr base w w' := by
  obtain ⟨xs, h, rfl, h2, h3, h4⟩ := h
  refine (set_any h k v hk).mono ?_
  rintro e w1 ⟨rfl, ht⟩
  exact ⟨rfl, TB.to h h2 h3 h4 ht⟩
theorem drop_tb (h : TB w base T m cap l) (k : List UInt8) (hk : k.length ≤ 100000) :
    Calls Try.prog 51 #[tP T, strT k] w fun e w' => e = .returned (.int .i64 (dropL l k).1) ∧ TB w' base T m cap (dropL l k).2 ∧ Fr base w w' := by
  obtain ⟨xs, h, rfl, h2, h3, h4⟩ := h
  refine (drop_any h k hk).mono ?_
  rintro e w1 ⟨rfl, ht⟩
  exact ⟨rfl, TB.to h h2 h3 h4 ht⟩
theorem get_tb (h : TB w base T m cap l) (k : List UInt8) (hk : k.length ≤ 100000) :
    Calls Try.prog 37 #[tP T, strT k] w fun e w' => e = .returned (match getL l k with | some v => .tuple #[vv v, .bool true] | none => .tuple #[.agg #[.string ⟨#[]⟩, .int .u64 0, .bool false, .int .u32 0], .bool false]) ∧ TB w' base T m cap l ∧ Below w.heap.size w w' := by
  have h0 := h
  obtain ⟨xs, h, rfl, _⟩ := h
  refine (get_any h k hk).mono ?_
  rintro e w1 ⟨rfl, hb⟩
  exact ⟨rfl, h0.keep hb, hb⟩
theorem len_tb (h : TB w base T m cap l) : Calls Try.prog 41 #[tP T] w fun e w' => e = .returned (.int .i64 (l.length : Int)) ∧ w = w' := by
  obtain ⟨xs, h, rfl, _⟩ := h
  have : (tbs xs).length = xs.length := by unfold tbs; rw [List.length_map]
  rw [this]
  exact tlen_any h
theorem TB.cnt (h : TB w base T m cap l) : l.length ≤ cap ∧ cap ≤ 4096 := by
  obtain ⟨xs, h, rfl, _⟩ := h
  have : (tbs xs).length = xs.length := by unfold tbs; rw [List.length_map]
  rw [this]
  exact ⟨h.cnt, h.cap⟩
theorem room_tb (h : TB w base T m cap l) : Calls Try.prog 62 #[tP T] w fun e w' => e = .returned (.int .i64 ((cap : Int) - (l.length : Int))) ∧ TB w' base T m cap l ∧ Below w.heap.size w w' := by
  have h0 := h
  obtain ⟨xs, h, rfl, _⟩ := h
  have : (tbs xs).length = xs.length := by unfold tbs; rw [List.length_map]
  rw [this]
  refine (room_any h).mono ?_
  rintro e w1 ⟨rfl, hb⟩
  exact ⟨rfl, h0.keep hb, hb⟩
theorem full_tb (h : TB w base T m cap l) : Calls Try.prog 53 #[tP T] w fun e w' => e = .returned (.bool (l.length == cap)) ∧ TB w' base T m cap l ∧ Below w.heap.size w w' := by
  have h0 := h
  obtain ⟨xs, h, rfl, _⟩ := h
  have : (tbs xs).length = xs.length := by unfold tbs; rw [List.length_map]
  rw [this]
  refine (full_any h).mono ?_
  rintro e w1 ⟨rfl, hb⟩
  exact ⟨rfl, h0.keep hb, hb⟩
theorem new_bad (r : Int) (w : World) (h : r < 1 ∨ 4096 < r) : Calls Try.prog 23 #[.int .i64 r] w fun e w' => e = .returned (.tuple #[.pointer none, .int .i64 1]) ∧ w = w' := by
  rcases h with h | h
  · go_enter Try.func23, Try.ntmps23
    go_wp2_with fail
    go_ret2
    exact ⟨rfl, rfl⟩
  · have : ¬ r < 1 := by omega
    go_enter Try.func23, Try.ntmps23
    go_wp2_with fail
    go_ret2
    exact ⟨rfl, rfl⟩
theorem new_tb (r : Nat) (w : World) (h1 : 1 ≤ r) (h2 : r ≤ 4096) : Calls Try.prog 23 #[.int .i64 (r : Int)] w fun e w' => ∃ T, e = .returned (.tuple #[tP T, .int .i64 0]) ∧ (∃ m, TB w' w.heap.size T m r []) ∧ Below w.heap.size w w' := by
  have hb1 : ¬ (r : Int) < 1 := by omega
  have hb2 : ¬ (4096 : Int) < (r : Int) := by omega
  have hmm := run_makeMap (P := Try.prog) 97 w
  have HP : Hid (TB ((w.alloc (.map #[] 0)).alloc (.cells #[.int .i64 (r : Int), .map (some w.heap.size), .pointer none, .pointer none] tT)) w.heap.size (w.heap.size + 1) w.heap.size r []) := by
    refine Lib.hid ⟨[], ⟨?_, ⟨.map [], ?_, ⟨fun k z => rfl, rfl⟩⟩, trivial, by simp, by simp, by simp, by simp, h2⟩, rfl, by omega, Nat.le_refl _, by simp⟩
    · have := heap_alloc_new (w.alloc (.map #[] 0)) (.cells #[.int .i64 (r : Int), .map (some w.heap.size), .pointer none, .pointer none] tT)
      rw [World.size_alloc] at this
      exact this
    · exact ((World.ownsMap_made w Try.prog 9 pR).mono (by omega)).alloc _
  have HB : Hid (Below w.heap.size w ((w.alloc (.map #[] 0)).alloc (.cells #[.int .i64 (r : Int), .map (some w.heap.size), .pointer none, .pointer none] tT))) := Lib.hid (((Below.refl _ _).alloc (Nat.le_refl _) _).alloc (by simp) _)
  go_enter Try.func23, Try.ntmps23
  go_wp2_with fail
  go_ret2
  exact ⟨w.heap.size + 1, rfl, ⟨w.heap.size, HP.out⟩, HB.out⟩
end
end Go.Proofs.Ythpgdojjecdlcaa
