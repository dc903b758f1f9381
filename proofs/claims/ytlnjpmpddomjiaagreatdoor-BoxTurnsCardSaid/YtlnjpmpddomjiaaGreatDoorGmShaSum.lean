/- sha.Sum of parts; the nil Hash. Rows of one, two and three slices of bytes; a slice over a new row. -/
import Derived.Test.YtlnjpmpddomjiaaGreatDoorGmWriteE
import Derived.Test.YtlnjpmpddomjiaaGreatDoorGmMgB
import Derived.Test.YtlnjpmpddomjiaaGreatDoorGmMgA
namespace Go.Proofs.YtlnjpmpddomjiaaGreatDoor
open Go.RowKit
theorem Sls.below {w w' : World} {B B' : Nat} {v : Value} {ls : List (List UInt8)} (h : Sls w B v ls) (hb : Below B' w w') (hB : B ≤ B') : Sls w' B v ls := by
  obtain ⟨A, c, rfl, h1, h2, h3⟩ := h
  refine ⟨A, c, rfl, h1, h2, fun hp => ?_⟩
  obtain ⟨b, o, rfl, hlt, hx⟩ := h3 hp
  refine ⟨b, o, rfl, hlt, fun j hj => ?_⟩
  obtain ⟨vj, hc, hs⟩ := hx j hj
  exact ⟨vj, (hb.cell (p := ⟨b, o + j, none⟩) (by show b < B'; omega)).trans hc, hs.below hb hB⟩
theorem Sl.src {w : World} {B hb : Nat} {v : Value} {l : List UInt8} (h : Sl w B v l) (hB : B ≤ hb) (hw : B ≤ w.heap.size) (hl : l.length ≤ 4611686018427387904) : ∃ A c, v = .slice A l.length c ∧ Src w hb A l c := by
  obtain ⟨A, c, rfl, _, h1, h2, h3⟩ := h
  refine ⟨A, c, rfl, h1, h2, hl, fun hp => ?_⟩
  obtain ⟨b, o, rfl, hlt, hbs⟩ := h3 hp
  exact ⟨b, o, rfl, by omega, by omega, hbs⟩
theorem sumM_any (hb : Nat) (m : List UInt8) (w : World) (h : HashM w hb m) (hT : TabA w) :
    Calls Tryz.prog 58 #[.pointer (some ⟨hb, 0, none⟩)] w fun e w' => ∃ v', e = .returned v' ∧ OwnB w' w.heap.size v' (sumL m) ∧ Below w.heap.size w w' := by
  refine (sumH_any hb _ _ _ w h hT).mono ?_
  rintro e w' ⟨v', he, hO, hB⟩
  rw [stOf_feed] at hO
  unfold sumL
  exact ⟨v', he, hO, hB⟩
set_option maxRecDepth 100000 in
set_option maxHeartbeats 2000000 in
theorem shaSum_any (v : Value) (ls : List (List UInt8)) (w : World) (hs : Sls w w.heap.size v ls) (hl : ∀ l ∈ ls, l.length ≤ 1000000) (hT : TabA w) :
    Calls Tryz.prog 33 #[v] w fun e w' => ∃ v', e = .returned v' ∧ OwnB w' w.heap.size v' (sumL ls.flatten) ∧ Below w.heap.size w w' := by
  have HS := Lib.hid hs
  have hG := tab_lt hT
  have HT := Lib.hid hT; clear hT
  have HL := Lib.hid hl; clear hl
  obtain ⟨A, c, rfl, k1, k2, k3⟩ := hs
  have H3 := Lib.hid k3; clear k3
  go_enter Tryz.func33, Tryz.ntmps33
  go_wp2_with fail
  refine (new_any w).mono ?_
  rintro e w1 ⟨rfl, hM, hB⟩
  have HM := Lib.hid hM; clear hM
  have HB := Lib.hid hB; clear hB
  go_wp2_with fail
  go_loopw [9] (fun i wr => ∃ k : Nat, k ≤ ls.length ∧ i = .int .i64 k ∧ HashM wr w.heap.size (ls.take k).flatten ∧ Below w.heap.size w wr) (fun i _ => ls.length - (intOf i).toNat)
  case atStart => exact ⟨0, by omega, rfl, HM.out, HB.out⟩
  case round =>
    obtain ⟨k, hk, rfl, hM2, hB2⟩ := hrel
    have HM2 := Lib.hid hM2; clear hM2
    have HB2 := Lib.hid hB2; clear hB2
    by_cases hlt : k < ls.length
    · obtain ⟨b, o, rfl, hb, hx⟩ := H3.out (by omega)
      obtain ⟨vj, hc, hsl⟩ := hx k hlt
      have hcell : wr.cell? ⟨b, o + k, none⟩ = some vj := (HB2.out.cell (p := ⟨b, o + k, none⟩) hb).trans hc
      obtain ⟨l, hll⟩ : ∃ l, l = ls[k] := ⟨_, rfl⟩
      have hl1 : l.length ≤ 4611686018427387904 := by have := HL.out ls[k] (List.getElem_mem _); rw [hll]; omega
      rw [← hll] at hsl
      obtain ⟨A1, c1, rfl, hsr⟩ := (hsl.below HB2.out (Nat.le_refl _)).src (hb := w.heap.size) (Nat.le_refl _) HB2.out.size hl1
      have HSR := Lib.hid hsr
      have HF : Hid ((ls.take (k + 1)).flatten = (ls.take k).flatten ++ l) := Lib.hid (by rw [List.take_succ_eq_append_getElem hlt, List.flatten_append, hll]; simp)
      clear hx hc hsl hsr hll
      go_wp2_with fail
      refine (write_m w.heap.size _ A1 c1 l wr HM2.out HSR.out (HT.out.below HB2.out hG) (by omega)).mono ?_
      rintro e w3 ⟨rfl, hM3, hg3⟩
      have HM3 := Lib.hid hM3; clear hM3
      have HB3 := Lib.hid (HB2.out.grown hg3 HB2.out.size (fun k e => by cases e; exact Nat.le_refl _)); clear hg3
      go_wp2_with fail
      go_roundw
      case rel => exact ⟨k + 1, by omega, by go_num, by rw [HF.out]; exact HM3.out, HB3.out⟩
      case measure => simp [intOf]; omega
    · obtain rfl : k = ls.length := by omega
      rw [List.take_length] at HM2
      go_wp2_with fail
      refine (sumM_any w.heap.size _ wr HM2.out (HT.out.below HB2.out hG)).mono ?_
      rintro e w3 ⟨v3, rfl, hO3, hB3⟩
      have HO3 := Lib.hid hO3; clear hO3
      have HB3 := Lib.hid (HB2.out.trans (hB3.mono HB2.out.size)); clear hB3
      go_wp2_with fail
      go_ret
      exact ⟨_, rfl, HO3.out.lower HB2.out.size, HB3.out⟩
end Go.Proofs.YtlnjpmpddomjiaaGreatDoor
namespace Go.Proofs.YtlnjpmpddomjiaaGreatDoor
open Go.RowKit
/-- One slice of bytes in a new row. -/
theorem Sls.one (W : World) (l1 : List UInt8) (v1 : Value) (t : TypeId) (h1 : Sl W W.heap.size v1 l1) :
    Sls (W.alloc (.cells #[v1] t)) (W.heap.size + 1) (.slice (some ⟨W.heap.size, 0, none⟩) 1 1) [l1] := by
  refine ⟨_, 1, rfl, Nat.le_refl _, by omega, fun _ => ⟨_, 0, rfl, by omega, fun j hj => ?_⟩⟩
  have hb := Blk.newA W #[v1] t
  have hbl : Below W.heap.size W (W.alloc (.cells #[v1] t)) := (Below.refl _ _).alloc (Nat.le_refl _) _
  match j, hj with
  | 0, _ => exact ⟨v1, hb.at rfl, (h1.below hbl (Nat.le_refl _)).more (by omega)⟩
/-- Two slices of bytes in a new row. -/
theorem Sls.two (W : World) (l1 l2 : List UInt8) (v1 v2 : Value) (t : TypeId) (h1 : Sl W W.heap.size v1 l1) (h2 : Sl W W.heap.size v2 l2) :
    Sls (W.alloc (.cells #[v1, v2] t)) (W.heap.size + 1) (.slice (some ⟨W.heap.size, 0, none⟩) 2 2) [l1, l2] := by
  refine ⟨_, 2, rfl, Nat.le_refl _, by omega, fun _ => ⟨_, 0, rfl, by omega, fun j hj => ?_⟩⟩
  have hb := Blk.newA W #[v1, v2] t
  have hbl : Below W.heap.size W (W.alloc (.cells #[v1, v2] t)) := (Below.refl _ _).alloc (Nat.le_refl _) _
  match j, hj with
  | 0, _ => exact ⟨v1, hb.at rfl, (h1.below hbl (Nat.le_refl _)).more (by omega)⟩
  | 1, _ => exact ⟨v2, hb.at rfl, (h2.below hbl (Nat.le_refl _)).more (by omega)⟩
theorem Sl.of_new (w : World) (l : List UInt8) (cs : Array Value) (hcs : cs = (l.map vb).toArray) (fr : Nat × Nat) (n : Nat) (hn : n = l.length) (hl : n ≤ 1000000) : Sl (w.alloc (.cells cs 5 fr)) (w.heap.size + 1) (.slice (some ⟨w.heap.size, 0, none⟩) n n) l := by
  subst hn; subst hcs
  refine ⟨_, _, rfl, (fun h => by cases h), Nat.le_refl _, by omega, fun _ => ⟨_, 0, rfl, by omega, fun j hj => ?_⟩⟩
  rw [World.cell?_alloc_mark]
  simp [hj]
/-- Three slices of bytes in a new row. -/
theorem Sls.three (W : World) (l1 l2 l3 : List UInt8) (v1 v2 v3 : Value) (t : TypeId) (h1 : Sl W W.heap.size v1 l1) (h2 : Sl W W.heap.size v2 l2) (h3 : Sl W W.heap.size v3 l3) :
    Sls (W.alloc (.cells #[v1, v2, v3] t)) (W.heap.size + 1) (.slice (some ⟨W.heap.size, 0, none⟩) 3 3) [l1, l2, l3] := by
  refine ⟨_, 3, rfl, Nat.le_refl _, by omega, fun _ => ⟨_, 0, rfl, by omega, fun j hj => ?_⟩⟩
  have hb := Blk.newA W #[v1, v2, v3] t
  have hbl : Below W.heap.size W (W.alloc (.cells #[v1, v2, v3] t)) := (Below.refl _ _).alloc (Nat.le_refl _) _
  match j, hj with
  | 0, _ => exact ⟨v1, hb.at rfl, (h1.below hbl (Nat.le_refl _)).more (by omega)⟩
  | 1, _ => exact ⟨v2, hb.at rfl, (h2.below hbl (Nat.le_refl _)).more (by omega)⟩
  | 2, _ => exact ⟨v3, hb.at rfl, (h3.below hbl (Nat.le_refl _)).more (by omega)⟩
end Go.Proofs.YtlnjpmpddomjiaaGreatDoor
