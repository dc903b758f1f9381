/- table: an operation on both Tables: like answers, and what they leave. -/
import Derived.Test.YtipgjpmaflcpkaaTeNil
set_option maxRecDepth 100000
namespace Go.Proofs.Ytipgjpmaflcpkaa
open Go.RowKit Go.Shelf
section
variable {w w1 w2 w' : World} {b0 T m cap X : Nat} {xs xs1 : List Nd} {P : Nat} {t : TypeId} {cs : List Value}
theorem Mid.box (h : Mid w w1 b0 T m cap X xs xs1) (h0 : DX w b0 T m cap X xs) (hP : BlkT w P t cs) (h1 : t ≠ tT) (h2 : t ≠ tE) : BlkT w1 P t cs :=
  (h.tr.block P hP.lt (tbk_ne h0.tb hP h1 h2)).trans hP
theorem St2.box (h : St2 w w1 b0 T m cap X xs xs1) (h0 : DX w b0 T m cap X xs) (hP : BlkT w P t cs) (h1 : t ≠ tT) (h2 : t ≠ tE) (h3 : t ≠ tX) : BlkT w1 P t cs := by
  refine (h.tr.block P hP.lt (fun hk => ?_)).trans hP
  rcases List.mem_cons.1 hk with rfl | hk
  · obtain ⟨v, hX, _⟩ := h0.xr
    unfold BlkT at hX hP
    rw [hP] at hX
    cases hX
    exact h3 rfl
  · exact tbk_ne h0.tb hP h1 h2 hk
/-- One call of each: the program's first. -/
def Both (F : Nat) (aF : Array Value) (G : Nat) (aG : Array Value) (w : World) (b0 T m cap X : Nat) (xs : List Nd) : Prop :=
  ∃ r : Int, Calls Try.prog F aF w (fun e w1 => e = .returned (.int .i64 r) ∧ ∃ xs1, Mid w w1 b0 T m cap X xs xs1 ∧ Calls Try.prog G aG w1 fun e w2 => e = .returned (.int .i64 r) ∧ St2 w w2 b0 T m cap X xs xs1)
theorem Mid.hb (h : Mid w w1 b0 T m cap X xs xs1) (h0 : DX w b0 T m cap X xs) : b0 ≤ w1.heap.size := Nat.le_trans h0.b0_le h.tr.size
theorem DX.cnt (h : DX w b0 T m cap X xs) : (tbs xs).length ≤ cap ∧ cap ≤ 4096 := ⟨by rw [tbs_len]; exact h.tb.cnt, h.tb.cap⟩
theorem put_both (h : DX w b0 T m cap X xs) (k : List UInt8) (v : Int) (hk : k.length ≤ 100000) :
    Both 11 #[tP T, strT k, .int .i64 v] 22 #[tP X, strT k, .int .i64 v] w b0 T m cap X xs := by
  refine ⟨(putL cap (tbs xs) k v).1, (put_any h.tb k v hk).mono ?_⟩
  rintro e w1 ⟨rfl, hto⟩
  obtain ⟨xs1, hm, he⟩ := h.mid hto
  refine ⟨rfl, xs1, hm, (put_ref hm.xr k v h.cnt.1 h.cnt.2 (hm.hb h)).mono ?_⟩
  rintro e w2 ⟨rfl, hx, hr⟩
  exact ⟨rfl, hm.fin h (by rw [he]; exact hx) hr⟩
theorem set_both (h : DX w b0 T m cap X xs) (k : List UInt8) (v : Int) (hk : k.length ≤ 100000) :
    Both 14 #[tP T, strT k, .int .i64 v] 15 #[tP X, strT k, .int .i64 v] w b0 T m cap X xs := by
  refine ⟨(setL (tbs xs) k v).1, (set_any h.tb k v hk).mono ?_⟩
  rintro e w1 ⟨rfl, hto⟩
  obtain ⟨xs1, hm, he⟩ := h.mid hto
  refine ⟨rfl, xs1, hm, (set_ref hm.xr k v (Nat.le_trans h.cnt.1 h.cnt.2) (tbs_keyed h.tb) (hm.hb h)).mono ?_⟩
  rintro e w2 ⟨rfl, hx, hr⟩
  exact ⟨rfl, hm.fin h (by rw [he]; exact hx) hr⟩
theorem drop_both (h : DX w b0 T m cap X xs) (k : List UInt8) (hk : k.length ≤ 100000) :
    Both 16 #[tP T, strT k] 17 #[tP X, strT k] w b0 T m cap X xs := by
  refine ⟨(dropL (tbs xs) k).1, (drop_any h.tb k hk).mono ?_⟩
  rintro e w1 ⟨rfl, hto⟩
  obtain ⟨xs1, hm, he⟩ := h.mid hto
  refine ⟨rfl, xs1, hm, (drop_ref hm.xr k (Nat.le_trans h.cnt.1 h.cnt.2) (tbs_keyed h.tb) (hm.hb h)).mono ?_⟩
  rintro e w2 ⟨rfl, hx, hr⟩
  exact ⟨rfl, hm.fin h (by rw [he]; exact hx) hr⟩
theorem renew_both (h : DX w b0 T m cap X xs) (k : List UInt8) (hk : k.length ≤ 100000) :
    Both 12 #[tP T, strT k] 18 #[tP X, strT k] w b0 T m cap X xs := by
  refine ⟨(renewL (tbs xs) k).1, (renew_any h.tb k hk).mono ?_⟩
  rintro e w1 ⟨rfl, hto⟩
  obtain ⟨xs1, hm, he⟩ := h.mid hto
  refine ⟨rfl, xs1, hm, (renew_ref hm.xr k (Nat.le_trans h.cnt.1 h.cnt.2) (tbs_keyed h.tb) (hm.hb h)).mono ?_⟩
  rintro e w2 ⟨rfl, hx, hr⟩
  exact ⟨rfl, hm.fin h (by rw [he]; exact hx) hr⟩
theorem gone_any (k : List UInt8) (v : Int) {p3 : Addr} {rest : Int} (h : w.cell? p3 = some (.int .i64 rest)) :
    Calls Try.prog gS1 #[strT k, .int .i64 v, .pointer (some p3)] w fun e w' => e = .returned (.bool (r3 v == rest)) ∧ Below w.heap.size w w' := by
  have hr := r3_lo v
  go_enter Try.func20, Try.ntmps20
  go_wp2_with fail
  go_ret
  exact ⟨rfl, Below.refl _ _⟩
theorem prune_both (h : DX w b0 T m cap X xs) {Rb : Nat} {rest : Int} (hR : BlkT w Rb 3 [.int .i64 rest]) :
    Both 19 #[tP T, gvS ⟨Rb, 0, none⟩] 21 #[tP X, .int .i64 3, .int .i64 rest] w b0 T m cap X xs := by
  have hRn : Rb ∉ tbk T m xs := tbk_ne h.tb hR (by decide) (by decide)
  have hpr := prune_any h.tb (fun v => r3 v == rest) ⟨Rb, 0, none⟩ (fun A hA y hy W hW => gone_any y.key y.v (by
    have h1 : BlkT A Rb 3 [.int .i64 rest] := (hA.block _ hR.lt hRn).trans hR
    exact (h1.below hW h1.lt).at rfl))
  refine ⟨cnt (fun v => r3 v == rest) xs xs.length, hpr.mono ?_⟩
  rintro e w1 ⟨rfl, ht, hr⟩
  have hl : left (fun v => r3 v == rest) xs xs.length = xs.filter fun y => !(r3 y.v == rest) := by
    show ((xs.take xs.length).filter _) ++ xs.drop xs.length = _
    rw [List.take_length, List.drop_length, List.append_nil]
  have hcn : cnt (fun v => r3 v == rest) xs xs.length = goneN rest (tbs xs) := by
    show ((((xs.take xs.length).filter fun y => r3 y.v == rest).length : Nat) : Int) = ((((tbs xs).filter fun q => r3 q.2 == rest).length : Nat) : Int)
    rw [List.take_length]
    unfold tbs
    rw [List.filter_map, List.length_map]
    rfl
  have hkl : tbs (xs.filter fun y => !(r3 y.v == rest)) = keepL rest (tbs xs) := by
    unfold tbs
    show _ = (xs.map _).filter _
    rw [List.filter_map]
    rfl
  rw [hl] at ht
  have hm : Mid w w1 b0 T m cap X xs (xs.filter fun y => !(r3 y.v == rest)) := ⟨ht, h.xr.trn h.tb hr, hr, fun x hx => .inl (List.mem_map.2 ⟨x, (List.mem_filter.1 hx).1, rfl⟩)⟩
  refine ⟨rfl, _, hm, (prune_X hm.xr rest (Nat.le_trans h.cnt.1 h.cnt.2) (hm.hb h)).mono ?_⟩
  rintro e w2 ⟨rfl, hx, hr2⟩
  exact ⟨by rw [hcn], hm.fin h (by rw [hkl]; exact hx) hr2⟩
end
end Go.Proofs.Ytipgjpmaflcpkaa
