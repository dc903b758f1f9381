/- The reference of table: Find, without, Put, Set, Drop, Renew. -/
import Derived.Test.YtipgjpmaflcpkaaTeL
set_option maxRecDepth 100000
namespace Go.Proofs.Ytipgjpmaflcpkaa
open Go.RowKit
abbrev tX : TypeId := 31
/-- The reference's Table at block X: its room, its entries, in a row of its own from base on. -/
def XR (w : World) (base X : Nat) (room : Int) (l : PL) : Prop := ∃ v, BlkT w X tX [.int .i64 room, v] ∧ ER w base v l
section
variable {w w1 w' : World} {base X : Nat} {room : Int} {l : PL}
theorem XR.lt (h : XR w base X room l) : X < w.heap.size := by obtain ⟨v, h, _⟩ := h; exact h.lt
theorem XR.below (h : XR w base X room l) (hb : Below w.heap.size w w') : XR w' base X room l := by
  obtain ⟨v, h1, h2⟩ := h
  exact ⟨v, h1.below hb h1.lt, h2.below hb⟩
theorem XR.kt (h : XR w base X room l) (hk : ∀ (g : Nat) (c : Array Value) (t : TypeId) (f : Nat × Nat), w.heap[g]? = some (Obj.cells c t f) → t ≠ tT → t ≠ tE → w'.heap[g]? = some (Obj.cells c t f)) : XR w' base X room l := by
  obtain ⟨v, h1, h2⟩ := h
  exact ⟨v, hk _ _ _ _ h1 (by decide) (by decide), h2.kt (fun g c f hg => hk g c tR f hg (by decide) (by decide))⟩
theorem XR.store {v0 v' : Value} {l' : PL} (hX : BlkT w X tX [.int .i64 room, v0]) (hb : Below w.heap.size w w1) (hv : ER w1 w.heap.size v' l') (hbase : base ≤ w.heap.size) :
    XR (w1.setCell ⟨X, 1, none⟩ v') base X room l' ∧ Trn [X] w (w1.setCell ⟨X, 1, none⟩ v') := by
  have hx1 := hX.below hb hX.lt
  have hlt := hX.lt
  refine ⟨⟨v', hx1.set 1 v', ?_⟩, (Trn.of_below hb).set (by simp) _⟩
  have hkeep : ER (w1.setCell ⟨X, 1, none⟩ v') w.heap.size v' l' := World.ownsRow.kept hv (grown_set w1 ⟨X, 1, none⟩ v') ?_
  · exact ER.lower hkeep hbase
  obtain ⟨_, _, _, _, _, _, h2, _⟩ := hv.parts
  cases hc : v'.ownBlock with
  | none => exact .inl rfl
  | some k =>
    refine .inr (fun e => ?_)
    have h3 := h2 k hc
    have : k = X := Option.some.inj e
    omega
theorem XR.store2 {v0 v' : Value} {l' : PL} (hX : BlkT w X tX [.int .i64 room, v0]) (hb : Below w.heap.size w w1) (hv : ER w1 w.heap.size v' l') :
    BlkT (w1.setCell ⟨X, 1, none⟩ v') X tX [.int .i64 room, v'] ∧ ER (w1.setCell ⟨X, 1, none⟩ v') w.heap.size v' l' ∧ Trn [X] w (w1.setCell ⟨X, 1, none⟩ v') := by
  have hx1 := hX.below hb hX.lt
  have hlt := hX.lt
  refine ⟨hx1.set 1 v', ?_, (Trn.of_below hb).set (by simp) _⟩
  refine World.ownsRow.kept hv (grown_set w1 ⟨X, 1, none⟩ v') ?_
  obtain ⟨_, _, _, _, _, _, h2, _⟩ := hv.parts
  cases hc : v'.ownBlock with
  | none => exact .inl rfl
  | some k =>
    refine .inr (fun e => ?_)
    have h3 := h2 k hc
    have : k = X := Option.some.inj e
    omega
theorem find_nilX (k : Value) (w : World) : Calls Try.prog 27 #[.pointer none, k] w fun e w' => e = .returned (.int .i64 (-1)) ∧ Below w.heap.size w w' := by
  go_enter Try.func27, Try.ntmps27
  go_wp2_with fail
  go_ret
  exact ⟨rfl, Below.refl _ _⟩
set_option maxHeartbeats 1000000 in
theorem find_X (h : XR w base X room l) (k : List UInt8) (hl : l.length ≤ 4096) :
    Calls Try.prog 27 #[tP X, strT k] w fun e w' => e = .returned (.int .i64 (if fiL l k < l.length then (fiL l k : Int) else -1)) ∧ Below w.heap.size w w' := by
  obtain ⟨v, hX, hE⟩ := h
  obtain ⟨A, c, rfl, h1, h2, h3, h4⟩ := hE.es
  have c1 : w.cell? ⟨X, 1, none⟩ = some (.slice A l.length c) := hX.at rfl
  have H4 := Lib.hid h4
  obtain ⟨R, hR⟩ : ∃ R : Int, R = if fiL l k < l.length then (fiL l k : Int) else -1 := ⟨_, rfl⟩
  rw [← hR]
  have HR := Lib.hid hR
  clear hX hE h4 hR
  go_enter Try.func27, Try.ntmps27
  go_wp2_with fail
  go_loopw [14] (fun i wr => ∃ j : Nat, j ≤ fiL l k ∧ j ≤ l.length ∧ i = .int .i64 (j : Int) ∧ Below w.heap.size w wr) (fun i _ => l.length - (intOf i).toNat)
  case atStart => exact ⟨0, by omega, by omega, rfl, Below.refl _ _⟩
  case round =>
    obtain ⟨j, hj, hjl, rfl, hB⟩ := hrel
    by_cases hlt : j < l.length
    · obtain ⟨g, o, rfl, hg, hc⟩ := H4.out (by omega)
      obtain ⟨e1, e2⟩ := hc j hlt
      have HJ : Hid ((l[j].1 = k → fiL l k = j) ∧ (l[j].1 ≠ k → j + 1 ≤ fiL l k)) := by
        refine Lib.hid ⟨fun he => ?_, fun he => ?_⟩
        · rcases Nat.lt_or_ge j (fiL l k) with h | h
          · exact absurd he (fiL_ne l k j hlt h)
          · omega
        · rcases Nat.lt_or_ge j (fiL l k) with h | h
          · omega
          · have e : fiL l k = j := by omega
            have := fiL_at l k (by omega)
            simp only [e] at this
            exact absurd this he
      obtain ⟨q, hq⟩ : ∃ q, q = l[j] := ⟨_, rfl⟩
      rw [← hq] at e1 e2 HJ
      have d1 : wr.cell? ⟨g, o + j * 2, none⟩ = some (strT q.1) := (hB.cell (p := ⟨g, o + j * 2, none⟩) hg).trans e1
      have d2 : wr.cell? ⟨g, o + j * 2 + 1, none⟩ = some (.int .i64 q.2) := (hB.cell (p := ⟨g, o + j * 2 + 1, none⟩) hg).trans e2
      have HB := Lib.hid hB
      clear e1 e2 hB hc hq H4
      obtain ⟨qk, qv⟩ := q
      simp only at d1 d2 HJ
      by_cases he : qk = k
      · have hfi := HJ.out.1 he
        have hRj : R = (j : Int) := by rw [HR.out, hfi, if_pos hlt]
        clear HJ HR hfi hj
        subst he
        go_wp2_with fail
        go_ret
        exact ⟨by rw [hRj]; rfl, HB.out.alloc HB.out.size _⟩
      · have hfi := HJ.out.2 he
        clear HJ
        go_wp2_with fail
        · exact absurd (by first | assumption | exact beq_iff_eq.1 (by assumption)) he
        exact ⟨⟨j + 1, hfi, by omega, by go_num, HB.out.alloc HB.out.size _⟩, by simp [intOf]; omega⟩
    · have hjx : j = l.length := by omega
      have hRn : R = -1 := by rw [HR.out, if_neg (by omega)]
      have HB := Lib.hid hB
      clear hB H4 HR
      go_wp2_with fail
      go_ret
      exact ⟨by rw [hRn]; rfl, HB.out⟩
end
end Go.Proofs.Ytipgjpmaflcpkaa
