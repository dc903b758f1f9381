/- A row's last step: what was there reads behind the call as it did. Arguments that are slices of bytes: what they hold; that they read behind the call as they did. Arguments that are slices of slices of bytes. -/
import Derived.Test.YtlnjpmpddomjiaaGreatDoorChecked
import Derived.Test.YtlnjpmpddomjiaaGreatDoorRows
import Derived.ProofKit
import Derived.OpenShut
import Derived.WideKeyArgs
import Derived.ChangeMaps5
import Derived.Test.YtlnjpmpddomjiaaGreatDoorGmMgA
import Derived.Deep.Slices
set_option maxRecDepth 100000
namespace Go.Proofs.YtlnjpmpddomjiaaGreatDoor
open Go.ChangeShapes Go.WideShapes Go.ChangeAt Go.RowKit

theorem own_godebug : ownKnob Tryz.prog.godebug = none := by kernel_rfl
theorem laidOut_prog : laidOutB Tryz.prog = true := by kernel_rfl
section
variable {H : Type} {enc : TypeId × Value → H}
variable {W W' : World}
/-- Everything that was there reads behind the call as it did. -/
theorem stays {t : TypeId} {v : Value} {d : DataW H} {ps all : List MemPlace} (hr : Tryz.prog.readableRec t = true) (hrow : t < Tryz.prog.types.size) (h : DataW.Trod enc Tryz.prog W 0 (fun _ => true) true t v d ps)
    (hb : Below W.heap.size W W') (hlt : ∀ p ∈ all, p.block < W.heap.size) (hsub : ∀ p ∈ ps, p ∈ all) (sp : Nat → Bool) (hsp : ∀ p ∈ all, sp p.block = true) : DataW.Trod enc Tryz.prog W' 0 sp true t v d ps :=
  WideElems.Trod_stays (P := Tryz.prog) laidOut_prog hr hrow h (fun p hp => hb.same (hlt p (hsub p hp))) (fun p hp => hsp p (hsub p hp))
end
section
variable {H : Type} {enc : TypeId × Value → H}
/-- A row's last step where nothing that was there has turned. -/
theorem post_below {P : Program} {f : Func} {s : ChangeSpec} {apart fresh handsOn again : Bool} {W W' : World} {args : Array Value} {v : Value} {ds gs : List (DataW H)} {before pa pv : List MemPlace}
    (hW : DataW.Whole enc P f.params.toList s.vars apart W args.toList ds gs before)
    (hres : ∀ (b : Nat) (sp : Nat → Bool) (hd : Bool), DataW.TrodAll enc P W' b sp hd f.resultTypes.toList (v.resultList f.resultTypes.size) (s.fn H (ds ++ gs)).results [])
    (hargs : ∀ sp : Nat → Bool, (∀ p ∈ before, sp p.block = true) → DataW.TrodAll enc P W' 0 sp true f.params.toList args.toList (s.fn H (ds ++ gs)).args pa)
    (hvars : ∀ sp : Nat → Bool, (∀ p ∈ before, sp p.block = true) → DataW.TrodVars enc P W' sp s.vars (s.fn H (ds ++ gs)).vars pv)
    (hps : before = pa ++ pv) (hb : Below W.heap.size W W')
    (hok : ∀ (j : Nat) (t : TypeId) (r : Value), f.resultTypes[j]? = some t → (v.resultList f.resultTypes.size)[j]? = some r → Value.okWide P W' .any 0 t r) :
    s.post enc P f apart fresh handsOn again W args v W' := by
  subst hps
  have lt : ∀ p ∈ pa ++ pv, p.block < W.heap.size := fun p hp => hW.lt p hp
  have old : ∀ p ∈ pa ++ pv, (fun b => decide (b < W.heap.size)) p.block = true := fun p hp => decide_eq_true (lt p hp)
  obtain ⟨_, _, _, _, _, hz, hn⟩ := id hW
  refine ⟨ds, gs, pa ++ pv, [], pa, pv, hW, hres _ _ _, hargs _ old, hvars _ old, World.keptBut_mono (fun p hp => ⟨hp, .inr (List.mem_append.1 hp)⟩) (hb.frame (· ∈ pa ++ pv)), fun _ => ⟨hok, _, _, ([] ++ pa) ++ pv, ⟨[] ++ pa, pv, trodAll_append (hargs _ (fun _ _ => rfl)) (hres _ _ _), hvars _ (fun _ _ => rfl), rfl, fun b off hp => ?_, fun ha => by simpa using hn ha⟩, fun p hp _ => by simpa using hp⟩⟩
  have hin : MemPlace.cell b off ∈ pa ++ pv := by simpa using hp
  rw [hb.frozen (lt _ hin)]
  exact hz b off hin
end
end Go.Proofs.YtlnjpmpddomjiaaGreatDoor
set_option maxRecDepth 100000
namespace Go.Proofs.YtlnjpmpddomjiaaGreatDoor
open Go.ChangeShapes Go.WideShapes Go.ChangeAt Go.RowKit

theorem cells_u8 : Tryz.prog.cellsOf 5 = 1 := by kernel_rfl
section
variable {H : Type} {enc : TypeId × Value → H}
/-- A slice of bytes that came in, nil or not. -/
theorem open_sl {W : World} {base : Nat} {v : Value} {d : DataW H} {ps : List MemPlace} (hval : Value.okWide Tryz.prog W .any base 34 v) (h : DataW.Trod enc Tryz.prog W 0 (fun _ => true) true 34 v d ps) :
    ∃ l : List UInt8, Sl W W.heap.size v l ∧ l.length ≤ maxLen := by
  obtain ⟨a1, len, cap, rfl⟩ := okWide_slice Tryz.underlying34 hval
  obtain ⟨fuel, hf⟩ := h
  rcases open_ints Tryz.underlying34 Tryz.underlying5 cells_u8 hf with ⟨hcs, _⟩ | ⟨a, len', cap', zs, hcs, _, hl, hm, hz, _, hcell, hwz⟩
  · simp [Value.cells] at hcs
    obtain ⟨rfl, rfl, rfl⟩ := hcs
    exact ⟨[], ⟨none, 0, rfl, fun _ => rfl, by simp, by omega, fun h => by simp at h⟩, Nat.zero_le _⟩
  · simp [Value.cells] at hcs
    obtain ⟨rfl, rfl, rfl⟩ := hcs
    simp only [if_true] at hz
    have hlen : ((zs.take len).map fun n => UInt8.ofNat n.toNat).length = len := by simp; omega
    refine ⟨(zs.take len).map fun n => UInt8.ofNat n.toNat, ⟨some a, cap, by rw [hlen], (fun h => by cases h), by rw [hlen]; exact hl, by unfold maxLen at hm; omega, fun h0 => ?_⟩, by rw [hlen]; omega⟩
    rw [hlen] at h0
    obtain ⟨ab, ao, spot⟩ := a
    have hspot : spot = none := by simpa [Addr.add] using World.cell?_spot (hcell 0 (by omega))
    subst hspot
    have hlt : ab < W.heap.size := by
      have := hcell 0 (by omega)
      rw [Addr.add_lit] at this
      exact World.block_lt_of_cell? W ⟨ab, ao + 0, none⟩ this
    refine ⟨ab, ao, rfl, hlt, fun j hj => ?_⟩
    rw [hlen] at hj
    have hcj := hcell j (by omega)
    rw [Addr.add_lit] at hcj
    rw [hcj]
    have hb := range_u8 hwz j
    have e : zs.getD j 0 = zs[j]'(by omega) := by simp [List.getD, List.getElem?_eq_getElem (show j < zs.length by omega)]
    have e2 : zs[j]?.getD 0 = zs[j]'(by omega) := by simp [List.getElem?_eq_getElem (show j < zs.length by omega)]
    rw [e]
    rw [e2] at hb
    simp only [List.getElem_map, List.getElem_take]
    have e3 : bn (UInt8.ofNat (zs[j]'(by omega)).toNat) = zs[j]'(by omega) := by unfold bn; rw [UInt8.toNat_ofNat']; omega
    rw [vb, e3]
/-- A string that came in. -/
theorem open_st {W : World} {base : Nat} {v : Value} {d : DataW H} {ps : List MemPlace} (hval : Value.okWide Tryz.prog W .any base 9 v) (h : DataW.Trod enc Tryz.prog W 0 (fun _ => true) true 9 v d ps) :
    ∃ l : List UInt8, v = str l ∧ l.length ≤ 9223372036854775807 := by
  obtain ⟨s, rfl, _, _, hs⟩ := Go.ChangeMaps.open_string Tryz.underlying9 hval h
  exact ⟨s.data.toList, rfl, by unfold maxLen at hs; simpa using hs⟩
end
end Go.Proofs.YtlnjpmpddomjiaaGreatDoor
set_option maxRecDepth 100000
namespace Go.Proofs.YtlnjpmpddomjiaaGreatDoor
open Go.ChangeShapes Go.WideShapes Go.ChangeAt Go.RowKit

/-- The slice v, nil or not, holds slices that hold the bytes ls, all of them below block B. -/
def Sls (w : World) (B : Nat) (v : Value) (ls : List (List UInt8)) : Prop :=
  ∃ A c, v = .slice A ls.length c ∧ ls.length ≤ c ∧ c ≤ 9223372036854775807 ∧ (0 < ls.length → ∃ b o, A = some ⟨b, o, none⟩ ∧ b < B ∧ ∀ j (h : j < ls.length), ∃ vj, w.cell? ⟨b, o + j, none⟩ = some vj ∧ Sl w B vj ls[j])
section
variable {H : Type} {enc : TypeId × Value → H}
theorem open_sl_trod {W : World} {base fuel : Nat} {v : Value} {x : DataW H × List MemPlace} (hf : DataW.trod enc Tryz.prog W base (fun _ => true) true fuel 34 [v] = some x) :
    ∃ l : List UInt8, Sl W W.heap.size v l := by
  rcases open_ints Tryz.underlying34 Tryz.underlying5 cells_u8 hf with ⟨hcs, _⟩ | ⟨a, len, cap, zs, hcs, _, hl, hm, hz, _, hcell, hwz⟩
  · simp only [List.cons.injEq, and_true] at hcs
    subst hcs
    exact ⟨[], none, 0, rfl, fun _ => rfl, by simp, by omega, fun h => by simp at h⟩
  · simp only [List.cons.injEq, and_true] at hcs
    subst hcs
    simp only [if_true] at hz
    have hlen : ((zs.take len).map fun n => UInt8.ofNat n.toNat).length = len := by simp; omega
    refine ⟨(zs.take len).map fun n => UInt8.ofNat n.toNat, some a, cap, by rw [hlen], (fun h => by cases h), by rw [hlen]; exact hl, by unfold maxLen at hm; omega, fun h0 => ?_⟩
    rw [hlen] at h0
    obtain ⟨ab, ao, spot⟩ := a
    have hspot : spot = none := by simpa [Addr.add] using World.cell?_spot (hcell 0 (by omega))
    subst hspot
    have hlt : ab < W.heap.size := by
      have := hcell 0 (by omega)
      rw [Addr.add_lit] at this
      exact World.block_lt_of_cell? W ⟨ab, ao + 0, none⟩ this
    refine ⟨ab, ao, rfl, hlt, fun j hj => ?_⟩
    rw [hlen] at hj
    have hcj := hcell j (by omega)
    rw [Addr.add_lit] at hcj
    rw [hcj]
    have hb := range_u8 hwz j
    have e : zs.getD j 0 = zs[j]'(by omega) := by simp [List.getD, List.getElem?_eq_getElem (show j < zs.length by omega)]
    have e2 : zs[j]?.getD 0 = zs[j]'(by omega) := by simp [List.getElem?_eq_getElem (show j < zs.length by omega)]
    rw [e]
    rw [e2] at hb
    simp only [List.getElem_map, List.getElem_take]
    have e3 : bn (UInt8.ofNat (zs[j]'(by omega)).toNat) = zs[j]'(by omega) := by unfold bn; rw [UInt8.toNat_ofNat']; omega
    rw [vb, e3]
theorem cells_bytes : Tryz.prog.cellsOf 34 = 1 := by kernel_rfl
theorem choose_list {α : Type} (n : Nat) (p : Nat → α → Prop) (h : ∀ i, i < n → ∃ x, p i x) : ∃ l : List α, l.length = n ∧ ∀ i (hi : i < l.length), p i l[i] := by
  induction n with
  | zero => exact ⟨[], rfl, fun i hi => by simp at hi⟩
  | succ n ih =>
    obtain ⟨l, hl, hp⟩ := ih (fun i hi => h i (by omega))
    obtain ⟨x, hx⟩ := h n (by omega)
    refine ⟨l ++ [x], by simp [hl], fun i hi => ?_⟩
    by_cases h1 : i < l.length
    · rw [List.getElem_append_left h1]; exact hp i h1
    · have e : i = n := by simp at hi; omega
      subst e
      rw [List.getElem_append_right (by omega)]
      simpa [hl] using hx
theorem open_sls {W : World} {base : Nat} {v : Value} {d : DataW H} {ps : List MemPlace} (hval : Value.okWide Tryz.prog W .any base 31 v) (h : DataW.Trod enc Tryz.prog W 0 (fun _ => true) true 31 v d ps) :
    ∃ ls : List (List UInt8), Sls W W.heap.size v ls := by
  obtain ⟨a1, len, cap, rfl⟩ := okWide_slice Tryz.underlying31 hval
  obtain ⟨fuel, hf⟩ := h
  rcases Go.Deep.open_slice1 Tryz.underlying31 cells_bytes hf with ⟨hcs, _⟩ | ⟨a, len', cap', m, n, V, D, Pl, hcs, _, hl, hm, hmm, _, hx⟩
  · simp [Value.cells] at hcs
    obtain ⟨rfl, rfl, rfl⟩ := hcs
    exact ⟨[], none, 0, rfl, by simp, by omega, fun h => by simp at h⟩
  · simp [Value.cells] at hcs
    obtain ⟨rfl, rfl, rfl⟩ := hcs
    simp only [if_true] at hmm
    subst hmm
    obtain ⟨ls, hls, hp⟩ := choose_list len (fun i l => Sl W W.heap.size (V i) l) (fun i hi => open_sl_trod (hx i (by omega)).2)
    refine ⟨ls, some a, m, by rw [hls], by rw [hls]; exact hl, by unfold maxLen at hm; omega, fun h0 => ?_⟩
    rw [hls] at h0
    obtain ⟨ab, ao, spot⟩ := a
    have hspot : spot = none := by simpa [Addr.add] using World.cell?_spot (hx 0 (by omega)).1
    subst hspot
    have hlt : ab < W.heap.size := by
      have := (hx 0 (by omega)).1
      rw [Addr.add_lit] at this
      exact World.block_lt_of_cell? W ⟨ab, ao + 0, none⟩ this
    refine ⟨ab, ao, rfl, hlt, fun j hj => ⟨V j, ?_, hp j hj⟩⟩
    have hcj := (hx j (by omega)).1
    rw [Addr.add_lit] at hcj
    exact hcj
end
end Go.Proofs.YtlnjpmpddomjiaaGreatDoor
