/- Both Pipes, in step: the program's and the reference's; any direction. Every operation of both Pipes, of any direction. -/
import Derived.Test.YtlobmffcnobgeaaDoorPpC
import Derived.Test.YtlobmffcnobgeaaDoorPxRd
import Derived.Test.YtlobmffcnobgeaaDoorPxWr
import Derived.Test.YtlobmffcnobgeaaDoorPxA
set_option maxRecDepth 100000
namespace Go.Proofs.YtlobmffcnobgeaaDoor
open Go.RowKit
/-- A function of the direction k, if there is one. -/
def atK {α : Type} (X : Nat → α) (k : Int) (f : α → α) : Nat → α := if k = 0 then upd X 0 (f (X 0)) else if k = 1 then upd X 1 (f (X 1)) else X
def valK {α β : Type} (X : Nat → α) (k : Int) (g : α → β) (d : β) : β := if k = 0 then g (X 0) else if k = 1 then g (X 1) else d
section
variable {α β : Type} (X : Nat → α) (f : α → α) (g : α → β) (d : β)
theorem atK0 : atK X 0 f = upd X 0 (f (X 0)) := rfl
theorem atK1 : atK X 1 f = upd X 1 (f (X 1)) := rfl
theorem atKn {k : Int} (h : k ≠ 0 ∧ k ≠ 1) : atK X k f = X := by unfold atK; rw [if_neg h.1, if_neg h.2]
theorem valK0 : valK X 0 g d = g (X 0) := rfl
theorem valK1 : valK X 1 g d = g (X 1) := rfl
theorem valKn {k : Int} (h : k ≠ 0 ∧ k ≠ 1) : valK X k g d = d := by unfold valK; rw [if_neg h.1, if_neg h.2]
end
theorem three_k (k : Int) : k = 0 ∨ k = 1 ∨ (k ≠ 0 ∧ k ≠ 1) := by omega
/-- A direction and the reference's way. -/
structure Rel (x : WayL) (y : WayR) : Prop where
  rd : y.all.take y.rd = x.read
  fit : y.rd + y.lost ≤ y.all.length
  shut : x.shut = y.shut
  wrote : x.wrote = y.all.length
  buf : (y.lost = 0 ∧ x.buf = y.all.drop y.rd) ∨ (y.rd + y.lost = y.all.length ∧ x.buf = [] ∧ y.shut = true)
theorem Rel.waits {x : WayL} {y : WayR} (h : Rel x y) : x.buf.length = y.waits := by
  unfold WayR.waits
  have := h.fit
  rcases h.buf with ⟨h1, h2⟩ | ⟨h1, h2, _⟩
  · rw [h2, List.length_drop]; omega
  · rw [h2]; simp; omega
theorem Rel.readLen {x : WayL} {y : WayR} (h : Rel x y) : x.read.length = y.rd := by
  rw [← h.rd, List.length_take]; have := h.fit; omega
def RelA (X : Nat → WayL) (Y : Nat → WayR) : Prop := ∀ i, i < 2 → Rel (X i) (Y i)
theorem RelA.upd {X : Nat → WayL} {Y : Nat → WayR} (h : RelA X Y) (i : Nat) {x : WayL} {y : WayR} (hr : Rel x y) : RelA (upd X i x) (upd Y i y) := by
  intro j hj
  by_cases e : j = i
  · subst e; rw [upd_same, upd_same]; exact hr
  · rw [upd_other _ _ _ _ e, upd_other _ _ _ _ e]; exact h j hj
theorem RelA.atK {X : Nat → WayL} {Y : Nat → WayR} (h : RelA X Y) (k : Int) {f : WayL → WayL} {g : WayR → WayR} (hr : ∀ x y, Rel x y → Rel (f x) (g y)) : RelA (atK X k f) (atK Y k g) := by
  rcases three_k k with rfl | rfl | hk
  · exact h.upd 0 (hr _ _ (h 0 (by omega)))
  · exact h.upd 1 (hr _ _ (h 1 (by omega)))
  · rw [atKn _ _ hk, atKn _ _ hk]; exact h
theorem RelA.valK {X : Nat → WayL} {Y : Nat → WayR} {β : Type} (h : RelA X Y) (k : Int) {f : WayL → β} {g : WayR → β} (d : β) (hr : ∀ x y, Rel x y → f x = g y) : valK X k f d = valK Y k g d := by
  rcases three_k k with rfl | rfl | hk
  · exact hr _ _ (h 0 (by omega))
  · exact hr _ _ (h 1 (by omega))
  · rw [valKn _ _ _ hk, valKn _ _ _ hk]
theorem rel_new : Rel wnew ⟨[], 0, false, 0⟩ := ⟨rfl, by simp, rfl, rfl, .inl ⟨rfl, rfl⟩⟩
/-- Read. -/
theorem rel_rdN {x : WayL} {y : WayR} (h : Rel x y) (m : Int) : rdN x m = rrN y m := by unfold rdN rrN; rw [h.waits]
theorem rel_out {x : WayL} {y : WayR} (h : Rel x y) (m : Int) : x.buf.take (rdN x m) = (y.all.drop y.rd).take (rrN y m) := by
  rw [rel_rdN h]
  rcases h.buf with ⟨_, h2⟩ | ⟨h1, h2, _⟩
  · rw [h2]
  · have : rrN y m = 0 := by unfold rrN WayR.waits; omega
    rw [this]; simp
theorem rel_read (m : Int) (x : WayL) (y : WayR) (h : Rel x y) : Rel (rdX x m) (rrR y m) := by
  have hn := rel_rdN h m
  have hle : rrN y m ≤ y.waits := by unfold rrN; omega
  have hf := h.fit
  unfold WayR.waits at hle
  have ho := rel_out h m
  refine ⟨?_, ?_, h.shut, h.wrote, ?_⟩
  · show y.all.take (y.rd + rrN y m) = x.read ++ x.buf.take (rdN x m)
    rw [ho, ← h.rd, ← List.take_add]
  · show y.rd + rrN y m + y.lost ≤ y.all.length; omega
  · rcases h.buf with ⟨h1, h2⟩ | ⟨h1, h2, h3⟩
    · left
      refine ⟨h1, ?_⟩
      show x.buf.drop (rdN x m) = y.all.drop (y.rd + rrN y m)
      rw [hn, h2, List.drop_drop]
    · right
      refine ⟨?_, ?_, h3⟩
      · show y.rd + rrN y m + y.lost = y.all.length; omega
      · show x.buf.drop _ = []; rw [h2]; simp
/-- Write. -/
theorem rel_wrN {x : WayL} {y : WayR} (h : Rel x y) (room : Nat) (p : List UInt8) : wrN room x p = rwN room y p := by unfold wrN rwN; rw [h.waits]
theorem rel_write (room : Nat) (p : List UInt8) (x : WayL) (y : WayR) (h : Rel x y) (hs : y.shut = false) : Rel (wrX room x p) (rwR room y p) := by
  have hn := rel_wrN h room p
  have hf := h.fit
  have hle : rwN room y p ≤ p.length := by unfold rwN; omega
  have hlen : (p.take (rwN room y p)).length = rwN room y p := by rw [List.length_take]; omega
  have hl : (y.all ++ p.take (rwN room y p)).length = y.all.length + rwN room y p := by rw [List.length_append, hlen]
  rcases h.buf with ⟨h1, h2⟩ | ⟨_, _, h3⟩
  · refine ⟨?_, ?_, h.shut, ?_, .inl ⟨h1, ?_⟩⟩
    · show (y.all ++ _).take y.rd = x.read
      rw [List.take_append_of_le_length (by omega)]; exact h.rd
    · show y.rd + y.lost ≤ (y.all ++ _).length; omega
    · show x.wrote + wrN room x p = (y.all ++ _).length; rw [hl, hn, h.wrote]
    · show x.buf ++ p.take (wrN room x p) = (y.all ++ _).drop y.rd
      rw [hn, h2, List.drop_append_of_le_length (by omega)]
  · rw [hs] at h3; cases h3
/-- Shut, Cut, Over. -/
theorem rel_shut (x : WayL) (y : WayR) (h : Rel x y) : Rel (shutX x) (shutR y) := by
  refine ⟨h.rd, h.fit, rfl, h.wrote, ?_⟩
  rcases h.buf with h1 | ⟨h1, h2, _⟩
  · exact .inl h1
  · exact .inr ⟨h1, h2, rfl⟩
theorem rel_shutN (x : WayL) (y : WayR) (h : Rel x y) : shutN x = (if y.shut then 14 else 0) := by unfold shutN; rw [h.shut]
theorem rel_cut (x : WayL) (y : WayR) (h : Rel x y) : Rel (cutW x) (cutR1 y) := by
  have hf := h.fit
  refine ⟨h.rd, ?_, rfl, h.wrote, .inr ⟨?_, rfl, rfl⟩⟩
  · unfold cutR1 WayR.waits; show y.rd + (y.lost + (y.all.length - y.rd - y.lost)) ≤ y.all.length; omega
  · unfold cutR1 WayR.waits; show y.rd + (y.lost + (y.all.length - y.rd - y.lost)) = y.all.length; omega
theorem relA_cut {X : Nat → WayL} {Y : Nat → WayR} (h : RelA X Y) : RelA (cutX X 2) (cutR Y 2) := by
  intro i hi
  unfold cutX cutR
  rw [if_pos hi, if_pos hi]
  exact rel_cut _ _ (h i hi)
theorem relA_over {X : Nat → WayL} {Y : Nat → WayR} (h : RelA X Y) : overL X = overR Y := by
  unfold overL overR overW
  rw [(h 0 (by omega)).shut, (h 1 (by omega)).shut, (h 0 (by omega)).waits, (h 1 (by omega)).waits]
  cases (Y 0).shut <;> cases (Y 1).shut <;> simp
end Go.Proofs.YtlobmffcnobgeaaDoor
set_option maxRecDepth 100000
namespace Go.Proofs.YtlobmffcnobgeaaDoor
open Go.RowKit
section
variable {w w' : World} {base b c room : Nat} {V : Nat → Value} {H : Nat → Nat} {X : Nat → WayL} {A : Nat → Value} {Y : Nat → WayR}
/-- The error of a direction that isn't there. -/
def errK (k : Int) : Int := if k = 0 ∨ k = 1 then 0 else 1
theorem errK0 : errK 0 = 0 := rfl
theorem errK1 : errK 1 = 0 := rfl
theorem errKn {k : Int} (h : k ≠ 0 ∧ k ≠ 1) : errK k = 1 := by unfold errK; rw [if_neg (by omega)]
theorem pread_k (h : PP w base b room V H X) (k m : Int) :
    Calls Tryd.prog 19 #[tP b, .int .i64 k, .int .i64 m] w fun e w' => ∃ v V', e = .returned (.tuple #[v, .int .i64 (errK k)]) ∧ OwnB w' w.heap.size v (valK X k (fun x => x.buf.take (rdN x m)) []) ∧ PP w' base b room V' H (atK X k (fun x => rdX x m)) ∧ Trs (ppS b V H) w w' ∧ ppS b V' H = ppS b V H := by
  rcases three_k k with rfl | rfl | hk
  · refine (read_0 h m).mono ?_
    rintro e w' ⟨v, v', rfl, h1, h2, h3, h4⟩
    exact ⟨v, _, rfl, h1, h3, h4, ppS_of (upd_own h2)⟩
  · refine (read_1 h m).mono ?_
    rintro e w' ⟨v, v', rfl, h1, h2, h3, h4⟩
    exact ⟨v, _, rfl, h1, h3, h4, ppS_of (upd_own h2)⟩
  · refine (read_bad b k m hk w).mono ?_
    rintro e w' ⟨rfl, rfl⟩
    rw [errKn hk, valKn _ _ _ hk, atKn _ _ hk]
    exact ⟨_, V, rfl, OwnB.nil _ _, h, Trs.refl _ _, rfl⟩
theorem rread_k (h : PX w base c room A Y) (k m : Int) :
    Calls Tryd.prog 22 #[tP c, .int .i64 k, .int .i64 m] w fun e w' => ∃ v, e = .returned (.tuple #[v, .int .i64 (errK k)]) ∧ OwnB w' w.heap.size v (valK Y k (fun y => (y.all.drop y.rd).take (rrN y m)) []) ∧ PX w' base c room A (atK Y k (fun y => rrR y m)) ∧ Trs [c] w w' := by
  rcases three_k k with rfl | rfl | hk
  · refine (rRead_0 h m).mono ?_
    rintro e w' ⟨v, rfl, h1, h2, h3⟩
    exact ⟨v, rfl, h1, h2, h3⟩
  · refine (rRead_1 h m).mono ?_
    rintro e w' ⟨v, rfl, h1, h2, h3⟩
    exact ⟨v, rfl, h1, h2, h3⟩
  · refine (rRead_bad c k m hk w).mono ?_
    rintro e w' ⟨rfl, rfl⟩
    rw [errKn hk, valKn _ _ _ hk, atKn _ _ hk]
    exact ⟨_, rfl, OwnB.nil _ _, h, Trs.refl _ _⟩
theorem pshut_k (h : PP w base b room V H X) (k : Int) :
    Calls Tryd.prog 15 #[tP b, .int .i64 k] w fun e w' => e = .returned (.int .i64 (valK X k shutN 1)) ∧ PP w' base b room V H (atK X k shutX) ∧ Trs (ppS b V H) w w' := by
  rcases three_k k with rfl | rfl | hk
  · exact shut_0 h
  · exact shut_1 h
  · refine (shut_bad b k hk w).mono ?_
    rintro e w' ⟨rfl, rfl⟩
    rw [valKn _ _ _ hk, atKn _ _ hk]
    exact ⟨rfl, h, Trs.refl _ _⟩
theorem rshut_k (h : PX w base c room A Y) (k : Int) :
    Calls Tryd.prog 24 #[tP c, .int .i64 k] w fun e w' => e = .returned (.int .i64 (valK Y k (fun y => if y.shut then 14 else 0) 1)) ∧ PX w' base c room A (atK Y k shutR) ∧ Trs [c] w w' := by
  rcases three_k k with rfl | rfl | hk
  · exact rShut_0 h
  · exact rShut_1 h
  · refine (rShut_bad c k hk w).mono ?_
    rintro e w' ⟨rfl, rfl⟩
    rw [valKn _ _ _ hk, atKn _ _ hk]
    exact ⟨rfl, h, Trs.refl _ _⟩
/-- Write: how many, the error, and what is then. -/
def wkN (room : Nat) (x : WayL) (p : List UInt8) : Int := if x.shut then 0 else (wrN room x p : Int)
def wkE (x : WayL) : Int := if x.shut then 14 else 0
def wkX (room : Nat) (x : WayL) (p : List UInt8) : WayL := if x.shut then x else wrX room x p
def rkN (room : Nat) (y : WayR) (p : List UInt8) : Int := if y.shut then 0 else (rwN room y p : Int)
def rkE (y : WayR) : Int := if y.shut then 14 else 0
def rkR (room : Nat) (y : WayR) (p : List UInt8) : WayR := if y.shut then y else rwR room y p
theorem rel_wk (room : Nat) (p : List UInt8) (x : WayL) (y : WayR) (h : Rel x y) : Rel (wkX room x p) (rkR room y p) := by
  unfold wkX rkR
  rw [h.shut]
  cases hs : y.shut with
  | true => simpa using h
  | false => simpa using rel_write room p x y h hs
theorem rel_wkN (room : Nat) (p : List UInt8) (x : WayL) (y : WayR) (h : Rel x y) : wkN room x p = rkN room y p := by unfold wkN rkN; rw [h.shut, rel_wrN h]
theorem rel_wkE (x : WayL) (y : WayR) (h : Rel x y) : wkE x = rkE y := by unfold wkE rkE; rw [h.shut]
theorem upd_upd_id {α : Type} (f : Nat → α) (i : Nat) (x : α) (h : x = f i) : upd f i x = f := by rw [h, upd_id]
theorem pwrite_k (h : PP w base b room V H X) (k : Int) (B : Nat) (v : Value) (p : List UInt8) (hv : Sl w B v p) :
    Calls Tryd.prog 14 #[tP b, .int .i64 k, v] w fun e w' => ∃ V', e = .returned (.tuple #[.int .i64 (valK X k (fun x => wkN room x p) 0), .int .i64 (valK X k wkE 1)]) ∧ PP w' base b room V' H (atK X k (fun x => wkX room x p)) ∧ Trs (ppS b V H) w w' ∧ (∀ j ∈ ppS b V' H, j ∈ ppS b V H ∨ w.heap.size ≤ j) := by
  have hbad : ∀ e : Ending, e = .returned (.tuple #[.int .i64 0, .int .i64 14]) → ∀ i, i < 2 → (X i).shut = true → e = .returned (.tuple #[.int .i64 (wkN room (X i) p), .int .i64 (wkE (X i))]) ∧ upd X i (wkX room (X i) p) = X := by
    intro e he i hi hs
    refine ⟨by rw [he]; unfold wkN wkE; rw [if_pos hs, if_pos hs], upd_upd_id _ _ _ (by unfold wkX; rw [if_pos hs])⟩
  have hgood : ∀ i, i < 2 → (X i).shut = false → wkN room (X i) p = (wrN room (X i) p : Int) ∧ wkE (X i) = 0 ∧ wkX room (X i) p = wrX room (X i) p := by
    intro i hi hs
    unfold wkN wkE wkX
    rw [hs]
    exact ⟨rfl, rfl, rfl⟩
  rcases three_k k with rfl | rfl | hk
  · cases hs : (X 0).shut with
    | true =>
      refine (wshut_0 h hs v).mono ?_
      rintro e w' ⟨he, rfl⟩
      obtain ⟨h1, h2⟩ := hbad e he 0 (by omega) hs
      exact ⟨V, h1, by rw [atK0, h2]; exact h, Trs.refl _ _, fun j hj => .inl hj⟩
    | false =>
      refine (write_0 h hs B v p hv).mono ?_
      rintro e w' ⟨rfl, v', h1, h2, h3⟩
      obtain ⟨g1, g2, g3⟩ := hgood 0 (by omega) hs
      rw [valK0, valK0, atK0, g1, g2, g3]
      exact ⟨_, rfl, h1, h2, h3⟩
  · cases hs : (X 1).shut with
    | true =>
      refine (wshut_1 h hs v).mono ?_
      rintro e w' ⟨he, rfl⟩
      obtain ⟨h1, h2⟩ := hbad e he 1 (by omega) hs
      exact ⟨V, h1, by rw [atK1, h2]; exact h, Trs.refl _ _, fun j hj => .inl hj⟩
    | false =>
      refine (write_1 h hs B v p hv).mono ?_
      rintro e w' ⟨rfl, v', h1, h2, h3⟩
      obtain ⟨g1, g2, g3⟩ := hgood 1 (by omega) hs
      rw [valK1, valK1, atK1, g1, g2, g3]
      exact ⟨_, rfl, h1, h2, h3⟩
  · refine (write_bad b k hk v w).mono ?_
    rintro e w' ⟨rfl, rfl⟩
    rw [valKn _ _ _ hk, valKn _ _ _ hk, atKn _ _ hk]
    exact ⟨V, rfl, h, Trs.refl _ _, fun j hj => .inl hj⟩
theorem rwrite_k (h : PX w base c room A Y) (k : Int) (B : Nat) (v : Value) (p : List UInt8) (hv : Sl w B v p) (hB : B ≤ w.heap.size) (hbg : ∀ i, i < 2 → (Y i).all.length + p.length ≤ 400000) :
    Calls Tryd.prog 27 #[tP c, .int .i64 k, v] w fun e w' => ∃ A', e = .returned (.tuple #[.int .i64 (valK Y k (fun y => rkN room y p) 0), .int .i64 (valK Y k rkE 1)]) ∧ PX w' base c room A' (atK Y k (fun y => rkR room y p)) ∧ Trs [c] w w' ∧ (∀ j ∈ pxS c A', j ∈ pxS c A ∨ w.heap.size ≤ j) := by
  have hbad : ∀ e : Ending, e = .returned (.tuple #[.int .i64 0, .int .i64 14]) → ∀ i, i < 2 → (Y i).shut = true → e = .returned (.tuple #[.int .i64 (rkN room (Y i) p), .int .i64 (rkE (Y i))]) ∧ upd Y i (rkR room (Y i) p) = Y := by
    intro e he i hi hs
    refine ⟨by rw [he]; unfold rkN rkE; rw [if_pos hs, if_pos hs], upd_upd_id _ _ _ (by unfold rkR; rw [if_pos hs])⟩
  have hgood : ∀ i, i < 2 → (Y i).shut = false → rkN room (Y i) p = (rwN room (Y i) p : Int) ∧ rkE (Y i) = 0 ∧ rkR room (Y i) p = rwR room (Y i) p := by
    intro i hi hs
    unfold rkN rkE rkR
    rw [hs]
    exact ⟨rfl, rfl, rfl⟩
  rcases three_k k with rfl | rfl | hk
  · cases hs : (Y 0).shut with
    | true =>
      refine (rwshut_0 h hs v).mono ?_
      rintro e w' ⟨he, hb⟩
      obtain ⟨h1, h2⟩ := hbad e he 0 (by omega) hs
      exact ⟨A, h1, by rw [atK0, h2]; exact h.below hb, Trs.of_below hb, fun j hj => .inl hj⟩
    | false =>
      refine (rWrite_0 h hs B v p hv hB (hbg 0 (by omega))).mono ?_
      rintro e w' ⟨rfl, v', h1, h2, h3⟩
      obtain ⟨g1, g2, g3⟩ := hgood 0 (by omega) hs
      rw [valK0, valK0, atK0, g1, g2, g3]
      exact ⟨_, rfl, h1, h2, h3⟩
  · cases hs : (Y 1).shut with
    | true =>
      refine (rwshut_1 h hs v).mono ?_
      rintro e w' ⟨he, hb⟩
      obtain ⟨h1, h2⟩ := hbad e he 1 (by omega) hs
      exact ⟨A, h1, by rw [atK1, h2]; exact h.below hb, Trs.of_below hb, fun j hj => .inl hj⟩
    | false =>
      refine (rWrite_1 h hs B v p hv hB (hbg 1 (by omega))).mono ?_
      rintro e w' ⟨rfl, v', h1, h2, h3⟩
      obtain ⟨g1, g2, g3⟩ := hgood 1 (by omega) hs
      rw [valK1, valK1, atK1, g1, g2, g3]
      exact ⟨_, rfl, h1, h2, h3⟩
  · refine (rWrite_bad c k hk v w).mono ?_
    rintro e w' ⟨rfl, rfl⟩
    rw [valKn _ _ _ hk, valKn _ _ _ hk, atKn _ _ hk]
    exact ⟨A, rfl, h, Trs.refl _ _, fun j hj => .inl hj⟩
/-- Both in one memory. -/
structure PB (w : World) (base b c room : Nat) (V : Nat → Value) (H : Nat → Nat) (X : Nat → WayL) (A : Nat → Value) (Y : Nat → WayR) : Prop where
  p : PP w base b room V H X
  x : PX w base c room A Y
  ap : ∀ k ∈ ppS b V H, k ∉ pxS c A
theorem PB.below (h : PB w base b c room V H X A Y) (hb : Below w.heap.size w w') : PB w' base b c room V H X A Y := ⟨h.p.below hb, h.x.below hb, h.ap⟩
/-- The program's Pipe has turned. -/
theorem PB.onP {V' : Nat → Value} {X' : Nat → WayL} (h : PB w base b c room V H X A Y) (hp : PP w' base b room V' H X') (ht : Trs (ppS b V H) w w') (hs : ∀ j ∈ ppS b V' H, j ∈ ppS b V H ∨ w.heap.size ≤ j) : PB w' base b c room V' H X' A Y :=
  ⟨hp, h.x.trs ht (fun k hk hm => h.ap k hm hk), fun k hk hm => by
    rcases hs k hk with h1 | h1
    · exact h.ap k h1 hm
    · have := (h.x.inS k hm).2; omega⟩
/-- The reference's Pipe has turned. -/
theorem PB.onX {A' : Nat → Value} {Y' : Nat → WayR} (h : PB w base b c room V H X A Y) (hx : PX w' base c room A' Y') (ht : Trs [c] w w') (hs : ∀ j ∈ pxS c A', j ∈ pxS c A ∨ w.heap.size ≤ j) : PB w' base b c room V H X A' Y' := by
  have hcS : c ∈ pxS c A := by simp [pxS]
  refine ⟨h.p.trs ht (fun k hk hm => ?_) (fun hm => ?_), hx, fun k hk hm => ?_⟩
  · rw [List.mem_singleton] at hm; subst hm; exact h.ap _ hk hcS
  · rw [List.mem_singleton] at hm
    have h1 := h.p.glob
    have h2 := h.x.ge
    omega
  · rcases hs k hm with h1 | h1
    · exact h.ap k hk h1
    · have := (h.p.inS k hk).2; omega
theorem PX.toBelow (h : PX w base c room A Y) (ht : Trs [c] w w') : Below base w w' :=
  ht.toBelow h.size (fun k hk => by rw [List.mem_singleton] at hk; rw [hk]; exact h.ge)
end
end Go.Proofs.YtlobmffcnobgeaaDoor
