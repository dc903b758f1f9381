/- table: a Table and the reference's, in step. -/
import Derived.Test.YtipgjpmaflcpkaaTeRef4
import Derived.Test.YtipgjpmaflcpkaaPiPrune
set_option maxRecDepth 100000
namespace Go.Proofs.Ytipgjpmaflcpkaa
open Go.RowKit
section
variable {w w1 w2 w' : World} {b0 T m cap X : Nat} {xs xs1 : List Nd} {room : Int} {l : PL}
theorem tbs_len (xs : List Nd) : (tbs xs).length = xs.length := by unfold tbs; rw [List.length_map]
theorem tbs_keyed (h : Tb w T m cap xs) : Keyed (tbs xs) := by
  show ((tbs xs).map (·.1)).Nodup
  unfold tbs
  rw [List.map_map]
  exact h.keys
/-- A row of another type is none of the table's. -/
theorem tbk_ne (h : Tb w T m cap xs) {g : Nat} {c : Array Value} {t : TypeId} {f : Nat × Nat} (hg : w.heap[g]? = some (Obj.cells c t f)) (h1 : t ≠ tT) (h2 : t ≠ tE) : g ∉ tbk T m xs := by
  intro hk
  rcases List.mem_cons.1 hk with rfl | hk
  · have := h.tbl
    unfold BlkT at this
    rw [hg] at this
    cases this
    exact h1 rfl
  · rcases List.mem_cons.1 hk with rfl | hk
    · obtain ⟨D, ⟨es, clock, hb, _⟩, _⟩ := h.map
      rw [hg] at hb; cases hb
    · obtain ⟨y, hy, rfl⟩ := List.mem_map.1 hk
      obtain ⟨cs, hb⟩ := chn_ty xs none none h.chn y hy
      unfold BlkT at hb
      rw [hg] at hb
      cases hb
      exact h2 rfl
theorem XR.trn (h : XR w b0 X room l) (ht : Tb w T m cap xs) (hr : Trn (tbk T m xs) w w') : XR w' b0 X room l :=
  h.kt (fun g _ _ _ hg h1 h2 => (hr.block g (Array.getElem?_eq_some_iff.1 hg).1 (tbk_ne ht hg h1 h2)).trans hg)
theorem XR.ne (h : XR w b0 X room l) (ht : Tb w T m cap xs) : X ∉ tbk T m xs := by
  obtain ⟨v, hX, _⟩ := h
  exact tbk_ne ht hX (by decide) (by decide)
theorem Tb.trnX (h : Tb w T m cap xs) (hX : X ∉ tbk T m xs) (hr : Trn [X] w w') : Tb w' T m cap xs :=
  h.eqs (fun k hk => hr.block k (tbk_lt h k hk) (fun e => hX (by rw [← List.mem_singleton.1 e]; exact hk)))
/-- The Table at T and the reference's at X hold the same, in blocks from b0 on. -/
structure DX (w : World) (b0 T m cap X : Nat) (xs : List Nd) : Prop where
  tb : Tb w T m cap xs
  lo : ∀ k ∈ X :: tbk T m xs, b0 ≤ k
  xr : XR w b0 X (cap : Int) (tbs xs)
theorem DX.keep (h : DX w b0 T m cap X xs) (hb : Below w.heap.size w w') : DX w' b0 T m cap X xs := ⟨h.tb.keep hb, h.lo, h.xr.below hb⟩
theorem DX.b0_le (h : DX w b0 T m cap X xs) : b0 ≤ w.heap.size := by
  have := h.lo X (List.mem_cons_self ..)
  have := h.xr.lt
  omega
/-- What an operation on both leaves. -/
structure St2 (w w' : World) (b0 T m cap X : Nat) (xs xs' : List Nd) : Prop where
  dx : DX w' b0 T m cap X xs'
  tr : Trn (X :: tbk T m xs) w w'
  new : ∀ x ∈ xs', x.b ∈ xs.map (·.b) ∨ w.heap.size ≤ x.b
theorem St2.pre (h : St2 w1 w' b0 T m cap X xs xs1) (hb : Below w.heap.size w w1) : St2 w w' b0 T m cap X xs xs1 :=
  ⟨h.dx, (Trn.of_below hb).trans h.tr, fun x hx => (h.new x hx).imp id (fun e => Nat.le_trans hb.size e)⟩
theorem St2.post (h : St2 w w1 b0 T m cap X xs xs1) (hb : Below w1.heap.size w1 w') : St2 w w' b0 T m cap X xs xs1 :=
  ⟨h.dx.keep hb, h.tr.below hb, h.new⟩
theorem St2.self (h : DX w b0 T m cap X xs) (hb : Below w.heap.size w w') : St2 w w' b0 T m cap X xs xs :=
  ⟨h.keep hb, Trn.of_below hb, fun x hx => .inl (List.mem_map.2 ⟨x, hx, rfl⟩)⟩
theorem St2.low (h : St2 w w' b0 T m cap X xs xs1) (h0 : DX w b0 T m cap X xs) : Below b0 w w' := h.tr.toBelow h0.b0_le h0.lo
theorem St2.trans {xs2 : List Nd} (h : St2 w w1 b0 T m cap X xs xs1) (k : St2 w1 w' b0 T m cap X xs1 xs2) : St2 w w' b0 T m cap X xs xs2 := by
  have hsz := h.tr.size
  refine ⟨k.dx, ⟨k.tr.os.trans h.tr.os, k.tr.tape.trans h.tr.tape, k.tr.output.trans h.tr.output, Nat.le_trans hsz k.tr.size, fun b hb hn => ?_⟩, fun x hx => ?_⟩
  · refine (k.tr.block b (by omega) (fun e => ?_)).trans (h.tr.block b hb hn)
    rcases List.mem_cons.1 e with rfl | e
    · exact hn (List.mem_cons_self ..)
    · rcases List.mem_cons.1 e with rfl | e
      · exact hn (by simp)
      · rcases List.mem_cons.1 e with rfl | e
        · exact hn (by simp)
        · obtain ⟨y, hy, rfl⟩ := List.mem_map.1 e
          rcases h.new y hy with h3 | h3
          · exact hn (List.mem_cons_of_mem _ (List.mem_cons_of_mem _ (List.mem_cons_of_mem _ h3)))
          · omega
  · rcases k.new x hx with e | e
    · obtain ⟨y, hy, e2⟩ := List.mem_map.1 e
      rcases h.new y hy with h3 | h3
      · exact .inl (by rw [← e2]; exact h3)
      · exact .inr (by omega)
    · exact .inr (by omega)
/-- The program's operation is done, the reference's not yet. -/
structure Mid (w w1 : World) (b0 T m cap X : Nat) (xs xs1 : List Nd) : Prop where
  tb : Tb w1 T m cap xs1
  xr : XR w1 b0 X (cap : Int) (tbs xs)
  tr : Trn (tbk T m xs) w w1
  new : ∀ x ∈ xs1, x.b ∈ xs.map (·.b) ∨ w.heap.size ≤ x.b
theorem DX.mid (h : DX w b0 T m cap X xs) (ht : To w w1 T m cap xs l) : ∃ xs1, Mid w w1 b0 T m cap X xs xs1 ∧ tbs xs1 = l := by
  obtain ⟨xs1, h1, e, htr, hn⟩ := ht
  exact ⟨xs1, ⟨h1, h.xr.trn h.tb htr, htr, hn⟩, e⟩
theorem Mid.fin (h : Mid w w1 b0 T m cap X xs xs1) (h0 : DX w b0 T m cap X xs) (hx : XR w2 b0 X (cap : Int) (tbs xs1)) (hr : Trn [X] w1 w2) : St2 w w2 b0 T m cap X xs xs1 := by
  have hX := h.xr.ne h.tb
  refine ⟨⟨h.tb.trnX hX hr, fun k hk => ?_, hx⟩, (h.tr.mono (fun k hk => List.mem_cons_of_mem _ hk)).trans (hr.mono (fun k hk => by rw [List.mem_singleton.1 hk]; exact List.mem_cons_self ..)), h.new⟩
  have hw := h0.b0_le
  rcases List.mem_cons.1 hk with rfl | hk
  · exact h0.lo _ (List.mem_cons_self ..)
  · rcases List.mem_cons.1 hk with rfl | hk
    · exact h0.lo _ (by simp)
    · rcases List.mem_cons.1 hk with rfl | hk
      · exact h0.lo _ (by simp)
      · obtain ⟨y, hy, rfl⟩ := List.mem_map.1 hk
        rcases h.new y hy with e | e
        · exact h0.lo _ (List.mem_cons_of_mem _ (List.mem_cons_of_mem _ (List.mem_cons_of_mem _ e)))
        · omega
/-- The reference's operations, in the words of the table's. -/
theorem put_ref (h : XR w b0 X (cap : Int) l) (k : List UInt8) (v : Int) (hl : l.length ≤ cap) (hc : cap ≤ 4096) (hb : b0 ≤ w.heap.size) :
    Calls Try.prog 22 #[tP X, strT k, .int .i64 v] w fun e w' => e = .returned (.int .i64 (putL cap l k v).1) ∧ XR w' b0 X (cap : Int) (putL cap l k v).2 ∧ Trn [X] w w' := by
  have hh := put_X h k v (by omega) hb
  rw [putL_fi]
  by_cases h1 : fiL l k < l.length
  · rw [if_pos h1] at hh ⊢; rw [if_pos h1] at hh; exact hh
  · rw [if_neg h1] at hh ⊢; rw [if_neg h1] at hh
    by_cases h2 : l.length = cap
    · rw [if_pos (show (cap : Int) ≤ (l.length : Int) by omega)] at hh; rw [if_pos (show (cap : Int) ≤ (l.length : Int) by omega)] at hh; rw [if_pos h2]; exact hh
    · rw [if_neg (show ¬ (cap : Int) ≤ (l.length : Int) by omega)] at hh; rw [if_neg (show ¬ (cap : Int) ≤ (l.length : Int) by omega)] at hh; rw [if_neg h2]; exact hh
theorem set_ref (h : XR w b0 X room l) (k : List UInt8) (v : Int) (hl : l.length ≤ 4096) (hk : Keyed l) (hb : b0 ≤ w.heap.size) :
    Calls Try.prog 15 #[tP X, strT k, .int .i64 v] w fun e w' => e = .returned (.int .i64 (setL l k v).1) ∧ XR w' b0 X room (setL l k v).2 ∧ Trn [X] w w' := by
  have hh := set_X h k v hl hb
  rw [setL_fi l k v hk]
  by_cases h1 : fiL l k < l.length
  · rw [if_pos h1] at hh ⊢; rw [if_pos h1] at hh; exact hh
  · rw [if_neg h1] at hh ⊢; rw [if_neg h1] at hh; exact hh
theorem drop_ref (h : XR w b0 X room l) (k : List UInt8) (hl : l.length ≤ 4096) (hk : Keyed l) (hb : b0 ≤ w.heap.size) :
    Calls Try.prog 17 #[tP X, strT k] w fun e w' => e = .returned (.int .i64 (dropL l k).1) ∧ XR w' b0 X room (dropL l k).2 ∧ Trn [X] w w' := by
  have hh := drop_X h k hl hb
  rw [dropL_fi l k hk]
  by_cases h1 : fiL l k < l.length
  · rw [if_pos h1] at hh ⊢; rw [if_pos h1] at hh; exact hh
  · rw [if_neg h1] at hh ⊢; rw [if_neg h1] at hh; exact hh
theorem renew_ref (h : XR w b0 X room l) (k : List UInt8) (hl : l.length ≤ 4096) (hk : Keyed l) (hb : b0 ≤ w.heap.size) :
    Calls Try.prog 18 #[tP X, strT k] w fun e w' => e = .returned (.int .i64 (renewL l k).1) ∧ XR w' b0 X room (renewL l k).2 ∧ Trn [X] w w' := by
  have hh := renew_X h k hl hb
  rw [renewL_fi l k hk]
  by_cases h1 : fiL l k < l.length
  · rw [dif_pos h1] at hh ⊢; rw [if_pos h1] at hh; exact hh
  · rw [dif_neg h1] at hh ⊢; rw [if_neg h1] at hh; exact hh
end
end Go.Proofs.Ytipgjpmaflcpkaa
