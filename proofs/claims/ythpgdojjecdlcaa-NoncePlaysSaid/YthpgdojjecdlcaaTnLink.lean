/- table: link and unlink. -/
import Derived.Test.YthpgdojjecdlcaaTnRead
import Derived.StillTailTactics
set_option maxRecDepth 100000
namespace Go.Proofs.Ythpgdojjecdlcaa
open Go.RowKit
/-- From w to w' nothing that was there has turned but blocks of S. -/
structure Trn (S : List Nat) (w w' : World) : Prop where
  os : w'.os = w.os
  tape : w'.tape = w.tape
  output : w'.output = w.output
  size : w.heap.size ≤ w'.heap.size
  block : ∀ k, k < w.heap.size → k ∉ S → w'.heap[k]? = w.heap[k]?
section
variable {S S' : List Nat} {w w1 w' : World}
theorem Trn.refl (S : List Nat) (w : World) : Trn S w w := ⟨rfl, rfl, rfl, Nat.le_refl _, fun _ _ _ => rfl⟩
theorem Trn.trans (h : Trn S w w1) (k : Trn S w1 w') : Trn S w w' :=
  ⟨k.os.trans h.os, k.tape.trans h.tape, k.output.trans h.output, Nat.le_trans h.size k.size, fun i hi hn => (k.block i (Nat.lt_of_lt_of_le hi h.size) hn).trans (h.block i hi hn)⟩
theorem Trn.mono (h : Trn S w w') (hs : ∀ k ∈ S, k ∈ S') : Trn S' w w' := ⟨h.os, h.tape, h.output, h.size, fun k hk hn => h.block k hk (fun e => hn (hs k e))⟩
/-- What is new may turn as well. -/
theorem Trn.less (h : Trn S w w') (hs : ∀ k ∈ S, k ∈ S' ∨ w.heap.size ≤ k) : Trn S' w w' := ⟨h.os, h.tape, h.output, h.size, fun k hk hn => h.block k hk (fun e => by rcases hs k e with h1 | h1; exact hn h1; omega)⟩
theorem Trn.set (h : Trn S w w') {p : Addr} (hp : p.block ∈ S) (u : Value) : Trn S w (w'.setCell p u) :=
  ⟨h.os, h.tape, h.output, by simpa using h.size, fun k hk hn => (Below.heap_setCell w' p u k (fun e => hn (by rw [e]; exact hp))).trans (h.block k hk hn)⟩
theorem Trn.alloc (h : Trn S w w') (o : Obj) : Trn S w (w'.alloc o) :=
  ⟨h.os, h.tape, h.output, Nat.le_trans h.size (by simp), fun k hk hn => (Below.heap_alloc w' o k (Nat.lt_of_lt_of_le hk h.size)).trans (h.block k hk hn)⟩
theorem Trn.grown (h : Trn S w w1) {row : Option Nat} (hg : w1.grownBy w' row) (hr : ∀ k, row = some k → k ∈ S) : Trn S w w' :=
  ⟨hg.os.trans h.os, hg.tape.trans h.tape, hg.output.trans h.output, Nat.le_trans h.size hg.size, fun k hk hn => (hg.block k (Nat.lt_of_lt_of_le hk h.size) (fun e => hn (hr k e.symm))).trans (h.block k hk hn)⟩
theorem Trn.of_below (h : Below w.heap.size w w') : Trn S w w' := ⟨h.os, h.tape, h.output, h.size, fun k hk _ => h.block k hk⟩
theorem Trn.below (h : Trn S w w1) (hb : Below w1.heap.size w1 w') : Trn S w w' := h.trans (Trn.of_below hb)
theorem Trn.drew (h : Trn S w w') : Trn S w w'.drew := ⟨h.os, h.tape, h.output, h.size, h.block⟩
theorem Trn.toBelow (h : Trn S w w') {B : Nat} (hB : B ≤ w.heap.size) (hS : ∀ k ∈ S, B ≤ k) : Below B w w' :=
  ⟨h.os, h.tape, h.output, h.size, fun k hk => h.block k (by omega) (fun e => by have := hS k e; omega)⟩
theorem Trn.blk (h : Trn S w w') {b : Nat} {cs : List Value} (hb : Blk w b cs) (hn : b ∉ S) : Blk w' b cs := by
  have hl := hb.lt
  obtain ⟨t, hb⟩ := hb
  exact ⟨t, (h.block b hl hn).trans hb⟩
end
/-- A table's struct and its chain. -/
structure Rg (w : World) (T : Nat) (a0 a1 : Value) (xs : List Nd) : Prop where
  tbl : BlkT w T tT [a0, a1, pt (hd xs none), pt (la none xs)]
  chn : Chn w none xs none
  nod : (T :: xs.map (·.b)).Nodup
theorem chn_set {w : World} {l : List Nd} {p nx : Option Nat} (h : Chn w p l nx) {a : Addr} (ha : ∀ x ∈ l, x.b ≠ a.block) (u : Value) : Chn (w.setCell a u) p l nx :=
  chn_keep l p nx (fun x hx => Below.heap_setCell w a u x.b (ha x hx)) h
theorem chn_drew {w : World} {l : List Nd} {p nx : Option Nat} (h : Chn w p l nx) : Chn w.drew p l nx := chn_keep (w := w) (w' := w.drew) l p nx (fun _ _ => rfl) h
section
variable {w : World} {T : Nat} {a0 a1 : Value} {xs : List Nd}
theorem link_any (h : Rg w T a0 a1 xs) (e : Nd) (p0 n0 : Option Nat) (he : BlkT w e.b tE (ndC e p0 n0)) (hne : e.b ∉ T :: xs.map (·.b)) :
    Calls Try.prog 56 #[tP T, tP e.b] w fun z w' => z = .returned (.tuple #[]) ∧ Rg w' T a0 a1 (xs ++ [e]) ∧ Trn (T :: e.b :: xs.map (·.b)) w w' := by
  have hTe : T ≠ e.b := fun x => hne (by rw [x]; exact List.mem_cons_self ..)
  have hTe' : e.b ≠ T := fun x => hTe x.symm
  have c3 : w.cell? ⟨T, 3, none⟩ = some (pt (la none xs)) := h.tbl.at rfl
  have c2 : w.cell? ⟨T, 2, none⟩ = some (pt (hd xs none)) := h.tbl.at rfl
  have f3 := h.tbl.free 3
  have f2 := h.tbl.free 2
  have e2 : w.cell? ⟨e.b, 5, none⟩ = some (pt p0) := he.at rfl
  have e3 : w.cell? ⟨e.b, 6, none⟩ = some (pt n0) := he.at rfl
  have g2 := he.free 5
  have g3 := he.free 6
  have hnod2 : (T :: (xs ++ [e]).map (·.b)).Nodup := by
    have h0 := h.nod
    rw [List.nodup_cons] at h0 ⊢
    rw [List.map_append, List.map_cons, List.map_nil]
    refine ⟨fun hx => ?_, List.nodup_append.2 ⟨h0.2, by simp, fun a ha b hb => ?_⟩⟩
    · rcases List.mem_append.1 hx with hx | hx
      · exact h0.1 hx
      · exact hTe (List.mem_singleton.1 hx)
    · rw [List.mem_singleton.1 hb]
      intro e'; exact hne (List.mem_cons_of_mem _ (by rw [← e']; exact ha))
  rcases List.eq_nil_or_concat xs with rfl | ⟨l, y, rfl⟩
  · have H := Lib.hid h
    have HE := Lib.hid he
    rw [show pt (la none []) = .pointer none from rfl] at c3
    have HP : Hid (∃ W, W = (((w.setCell ⟨e.b, 5, none⟩ (.pointer none)).setCell ⟨e.b, 6, none⟩ (.pointer none)).setCell ⟨T, 2, none⟩ (.pointer (some ⟨e.b, 0, none⟩))).setCell ⟨T, 3, none⟩ (.pointer (some ⟨e.b, 0, none⟩)) ∧ Rg W T a0 a1 ([] ++ [e]) ∧ Trn (T :: e.b :: ([] : List Nd).map (·.b)) w W) := by
      refine Lib.hid ⟨_, rfl, ⟨?_, ?_, hnod2⟩, ?_⟩
      · have b1 := ((h.tbl.setOther (a := ⟨e.b, 5, none⟩) hTe' (.pointer none)).setOther (a := ⟨e.b, 6, none⟩) hTe' (.pointer none)).set 2 (.pointer (some ⟨e.b, 0, none⟩))
        exact b1.set 3 (.pointer (some ⟨e.b, 0, none⟩))
      · have b1 := (he.set 5 (.pointer none)).set 6 (.pointer none)
        have b2 := (b1.setOther (a := ⟨T, 2, none⟩) hTe (.pointer (some ⟨e.b, 0, none⟩))).setOther (a := ⟨T, 3, none⟩) hTe (.pointer (some ⟨e.b, 0, none⟩))
        exact ⟨b2, trivial⟩
      · exact ((((Trn.refl _ w).set (p := ⟨e.b, 5, none⟩) (by simp) _).set (p := ⟨e.b, 6, none⟩) (by simp) _).set (p := ⟨T, 2, none⟩) (by simp) _).set (p := ⟨T, 3, none⟩) (by simp) _
    obtain ⟨eb, ek, ⟨ev1, ev2, ev3, ev4⟩⟩ := e
    simp only at hTe hTe' e2 e3 g2 g3 HP
    clear h he hne hnod2 H HE
    go_enter Try.func56, Try.ntmps56
    go_wp2_with fail
    go_end0
    obtain ⟨W, rfl, h1, h2⟩ := HP.out
    exact ⟨rfl, h1, h2⟩
  · rw [List.concat_eq_append] at h c3 c2 hne hnod2 ⊢
    have hny : T ≠ y.b ∧ e.b ≠ y.b := by
      refine ⟨fun x => ?_, fun x => hne (by rw [x]; simp)⟩
      have := (List.nodup_cons.1 h.nod).1
      exact this (by rw [x]; simp)
    obtain ⟨hTy, hey⟩ := hny
    have hTy' : y.b ≠ T := fun x => hTy x.symm
    have hey' : y.b ≠ e.b := fun x => hey x.symm
    rw [la_snoc] at c3
    rw [pt_some] at c3
    obtain ⟨hcl, hcy⟩ := (chn_app [y] none l none).1 h.chn
    have hby : BlkT w y.b tE (ndC y (la none l) none) := hcy.1
    have y3 : w.cell? ⟨y.b, 6, none⟩ = some (.pointer none) := hby.at rfl
    have k3 := hby.free 6
    have hle : ∀ x ∈ l, x.b ≠ e.b := fun x hx e' => hne (List.mem_cons_of_mem _ (List.mem_map.2 ⟨x, by simp [hx], e'⟩))
    have hlT : ∀ x ∈ l, x.b ≠ T := fun x hx e' => (List.nodup_cons.1 h.nod).1 (List.mem_map.2 ⟨x, by simp [hx], e'⟩)
    have hly : ∀ x ∈ l, x.b ≠ y.b := by
      have h2 := (List.nodup_cons.1 h.nod).2
      rw [List.map_append] at h2
      exact fun x hx e' => (List.nodup_append.1 h2).2.2 x.b (List.mem_map.2 ⟨x, hx, rfl⟩) y.b (by simp) e'
    have HP : Hid (∃ W, W = (((w.setCell ⟨e.b, 5, none⟩ (.pointer (some ⟨y.b, 0, none⟩))).setCell ⟨e.b, 6, none⟩ (.pointer none)).setCell ⟨y.b, 6, none⟩ (.pointer (some ⟨e.b, 0, none⟩))).setCell ⟨T, 3, none⟩ (.pointer (some ⟨e.b, 0, none⟩)) ∧ Rg W T a0 a1 (l ++ [y] ++ [e]) ∧ Trn (T :: e.b :: (l ++ [y]).map (·.b)) w W) := by
      refine Lib.hid ⟨_, rfl, ⟨?_, ?_, hnod2⟩, ?_⟩
      · have b1 := (((h.tbl.setOther (a := ⟨e.b, 5, none⟩) hTe' (.pointer (some ⟨y.b, 0, none⟩))).setOther (a := ⟨e.b, 6, none⟩) hTe' (.pointer none)).setOther (a := ⟨y.b, 6, none⟩) hTy' (.pointer (some ⟨e.b, 0, none⟩))).set 3 (.pointer (some ⟨e.b, 0, none⟩))
        rw [la_snoc, hd_app (l ++ [y]) [e], hd_app l [y]]
        rw [hd_app l [y]] at b1
        exact b1
      · refine (chn_app [e] none (l ++ [y]) none).2 ⟨(chn_app [y] (hd [e] none) l none).2 ⟨?_, ?_, trivial⟩, ?_, trivial⟩
        · exact chn_set (a := ⟨T, 3, none⟩) (chn_set (a := ⟨y.b, 6, none⟩) (chn_set (a := ⟨e.b, 6, none⟩) (chn_set (a := ⟨e.b, 5, none⟩) hcl hle _) hle _) hly _) hlT _
        · exact (((hby.setOther (a := ⟨e.b, 5, none⟩) hey (.pointer (some ⟨y.b, 0, none⟩))).setOther (a := ⟨e.b, 6, none⟩) hey (.pointer none)).set 6 (.pointer (some ⟨e.b, 0, none⟩))).setOther (a := ⟨T, 3, none⟩) hTy (.pointer (some ⟨e.b, 0, none⟩))
        · rw [la_snoc]
          exact (((he.set 5 (.pointer (some ⟨y.b, 0, none⟩))).set 6 (.pointer none)).setOther (a := ⟨y.b, 6, none⟩) hey' (.pointer (some ⟨e.b, 0, none⟩))).setOther (a := ⟨T, 3, none⟩) hTe (.pointer (some ⟨e.b, 0, none⟩))
      · exact ((((Trn.refl _ w).set (p := ⟨e.b, 5, none⟩) (by simp) _).set (p := ⟨e.b, 6, none⟩) (by simp) _).set (p := ⟨y.b, 6, none⟩) (by simp) _).set (p := ⟨T, 3, none⟩) (by simp) _
    obtain ⟨eb, ek, ⟨ev1, ev2, ev3, ev4⟩⟩ := e
    obtain ⟨yb, yk, ⟨yv1, yv2, yv3, yv4⟩⟩ := y
    simp only at hTe hTe' e2 e3 g2 g3 HP hTy hTy' hey hey' c3 y3 k3
    clear h he hne hnod2 hcl hcy hby hle hlT hly
    go_enter Try.func56, Try.ntmps56
    go_wp2_with fail
    go_end0
    obtain ⟨W, rfl, h1, h2⟩ := HP.out
    exact ⟨rfl, h1, h2⟩
theorem unlink_nn {x : Nd} (h : Rg w T a0 a1 ([] ++ x :: [])) : Calls Try.prog 61 #[tP T, tP x.b] w fun q w' => q = .returned (.tuple #[]) ∧ Rg w' T a0 a1 ([] ++ []) ∧ BlkT w' x.b tE (ndC x none none) ∧ Trn (T :: ([] ++ x :: []).map (fun q : Nd => q.b)) w w' := by
  have hn := h.nod
  rw [List.nodup_cons] at hn
  obtain ⟨hnT, hn2⟩ := hn
  have hxT : x.b ≠ T := fun e => hnT (by rw [← e]; simp)
  have hxT' : T ≠ x.b := fun e => hxT e.symm
  rw [List.map_append, List.map_cons] at hn2
  obtain ⟨hnl, hnr, hnd⟩ := List.nodup_append.1 hn2
  rw [List.nodup_cons] at hnr
  obtain ⟨hcl, hbx, hcr⟩ := (chn_app (x :: []) none [] none).1 h.chn
  have x2 : w.cell? ⟨x.b, 5, none⟩ = some (.pointer none) := hbx.at rfl
  have x3 : w.cell? ⟨x.b, 6, none⟩ = some (.pointer none) := hbx.at rfl
  have t2 : w.cell? ⟨T, 2, none⟩ = some (pt (hd ([] ++ x :: []) none)) := h.tbl.at rfl
  have t3 : w.cell? ⟨T, 3, none⟩ = some (pt (la none ([] ++ x :: []))) := h.tbl.at rfl
  have f2 := h.tbl.free 2
  have f3 := h.tbl.free 3
  have hnod3 : (T :: ([] ++ []).map (fun q : Nd => q.b)).Nodup := by
    rw [List.nodup_cons, List.map_append]
    refine ⟨fun hq => hnT ?_, List.nodup_append.2 ⟨hnl, hnr.2, fun a ha b hb => hnd a ha b (List.mem_cons_of_mem _ hb)⟩⟩
    rw [List.map_append, List.map_cons]
    rcases List.mem_append.1 hq with hq | hq
    · exact List.mem_append_left _ hq
    · exact List.mem_append_right _ (List.mem_cons_of_mem _ hq)
  have HP : Hid (∃ W, W = (w.setCell ⟨T, 2, none⟩ (.pointer none)).setCell ⟨T, 3, none⟩ (.pointer none) ∧ Rg W T a0 a1 ([] ++ []) ∧ BlkT W x.b tE (ndC x none none) ∧ Trn (T :: ([] ++ x :: []).map (fun q : Nd => q.b)) w W) := by
    refine Lib.hid ?_
    refine ⟨_, rfl, ⟨?_, ?_, hnod3⟩, ?_, ?_⟩
    · have b1 := (h.tbl.set 2 (.pointer none)).set 3 (.pointer none)
      exact b1
    · refine (chn_app [] none [] none).2 ⟨?_, ?_⟩
      · trivial
      · trivial
    · exact (hbx.setOther (a := ⟨T, 2, none⟩) hxT' (.pointer none)).setOther (a := ⟨T, 3, none⟩) hxT' (.pointer none)
    · exact (((Trn.refl _ w).set (p := ⟨T, 2, none⟩) (by simp) _).set (p := ⟨T, 3, none⟩) (by simp) _)
  obtain ⟨xb, xk, ⟨xv1, xv2, xv3, xv4⟩⟩ := x
  simp only at *
  clear h hnT hn2 hnl hnr hnd hcl hbx hcr hnod3
  go_enter Try.func61, Try.ntmps61
  go_wp2_with fail
  go_end0
  obtain ⟨W, rfl, h1, h2, h3⟩ := HP.out
  exact ⟨rfl, h1, h2, h3⟩
theorem unlink_nz {x : Nd} {z : Nd} {r : List Nd} (h : Rg w T a0 a1 ([] ++ x :: (z :: r))) : Calls Try.prog 61 #[tP T, tP x.b] w fun q w' => q = .returned (.tuple #[]) ∧ Rg w' T a0 a1 ([] ++ (z :: r)) ∧ BlkT w' x.b tE (ndC x none (some z.b)) ∧ Trn (T :: ([] ++ x :: (z :: r)).map (fun q : Nd => q.b)) w w' := by
  have hn := h.nod
  rw [List.nodup_cons] at hn
  obtain ⟨hnT, hn2⟩ := hn
  have hxT : x.b ≠ T := fun e => hnT (by rw [← e]; simp)
  have hxT' : T ≠ x.b := fun e => hxT e.symm
  have hzT : z.b ≠ T := fun e => hnT (by rw [← e]; simp)
  have hzT' : T ≠ z.b := fun e => hzT e.symm
  rw [List.map_append, List.map_cons] at hn2
  obtain ⟨hnl, hnr, hnd⟩ := List.nodup_append.1 hn2
  rw [List.nodup_cons] at hnr
  have hzx : z.b ≠ x.b := fun e => hnr.1 (by rw [← e]; simp)
  have hzx' : x.b ≠ z.b := fun e => hzx e.symm
  obtain ⟨hcl, hbx, hcr⟩ := (chn_app (x :: (z :: r)) none [] none).1 h.chn
  obtain ⟨hbz, hcr'⟩ := hcr
  have z2 : w.cell? ⟨z.b, 5, none⟩ = some (.pointer (some ⟨x.b, 0, none⟩)) := hbz.at rfl
  have j2 := hbz.free 5
  have hrT : ∀ q ∈ r, q.b ≠ T := fun q hq e => hnT (by rw [← e]; exact List.mem_map.2 ⟨q, by simp [hq], rfl⟩)
  have hrz : ∀ q ∈ r, q.b ≠ z.b := by
    have := hnr.2
    rw [List.map_cons, List.nodup_cons] at this
    exact fun q hq e => this.1 (by rw [← e]; exact List.mem_map.2 ⟨q, hq, rfl⟩)
  have x2 : w.cell? ⟨x.b, 5, none⟩ = some (.pointer none) := hbx.at rfl
  have x3 : w.cell? ⟨x.b, 6, none⟩ = some (.pointer (some ⟨z.b, 0, none⟩)) := hbx.at rfl
  have t2 : w.cell? ⟨T, 2, none⟩ = some (pt (hd ([] ++ x :: (z :: r)) none)) := h.tbl.at rfl
  have t3 : w.cell? ⟨T, 3, none⟩ = some (pt (la none ([] ++ x :: (z :: r)))) := h.tbl.at rfl
  have f2 := h.tbl.free 2
  have f3 := h.tbl.free 3
  have hnod3 : (T :: ([] ++ (z :: r)).map (fun q : Nd => q.b)).Nodup := by
    rw [List.nodup_cons, List.map_append]
    refine ⟨fun hq => hnT ?_, List.nodup_append.2 ⟨hnl, hnr.2, fun a ha b hb => hnd a ha b (List.mem_cons_of_mem _ hb)⟩⟩
    rw [List.map_append, List.map_cons]
    rcases List.mem_append.1 hq with hq | hq
    · exact List.mem_append_left _ hq
    · exact List.mem_append_right _ (List.mem_cons_of_mem _ hq)
  have HF : Hid (∀ W1, W1 = (w.setCell ⟨T, 2, none⟩ (.pointer (some ⟨z.b, 0, none⟩))) → W1.cell? ⟨x.b, 5, none⟩ = some (.pointer none) ∧ W1.cell? ⟨x.b, 6, none⟩ = some (.pointer (some ⟨z.b, 0, none⟩)) ∧ W1.cell? ⟨z.b, 5, none⟩ = some (.pointer (some ⟨x.b, 0, none⟩)) ∧ W1.frozen? ⟨z.b, 5, none⟩ = false) := by
    refine Lib.hid ?_
    rintro W1 rfl
    exact ⟨(hbx.setOther (a := ⟨T, 2, none⟩) hxT' (.pointer (some ⟨z.b, 0, none⟩))).at rfl, (hbx.setOther (a := ⟨T, 2, none⟩) hxT' (.pointer (some ⟨z.b, 0, none⟩))).at rfl, (hbz.setOther (a := ⟨T, 2, none⟩) hzT' (.pointer (some ⟨z.b, 0, none⟩))).at rfl, (hbz.setOther (a := ⟨T, 2, none⟩) hzT' (.pointer (some ⟨z.b, 0, none⟩))).free 5⟩
  have HP : Hid (∀ W1, W1 = (w.setCell ⟨T, 2, none⟩ (.pointer (some ⟨z.b, 0, none⟩))) → ∃ W, W = W1.drew.setCell ⟨z.b, 5, none⟩ (.pointer none) ∧ Rg W T a0 a1 ([] ++ (z :: r)) ∧ BlkT W x.b tE (ndC x none (some z.b)) ∧ Trn (T :: ([] ++ x :: (z :: r)).map (fun q : Nd => q.b)) w W) := by
    refine Lib.hid ?_
    rintro W1 rfl
    refine ⟨_, rfl, ⟨?_, ?_, hnod3⟩, ?_, ?_⟩
    · have b1 := (h.tbl.set 2 (.pointer (some ⟨z.b, 0, none⟩))).drew.setOther (a := ⟨z.b, 5, none⟩) hzT (.pointer none)
      rw [la_app (x :: z :: r)] at b1
      rw [la_app (z :: r)]
      exact b1
    · refine (chn_app (z :: r) none [] none).2 ⟨?_, ?_⟩
      · trivial
      · refine ⟨?_, ?_⟩
        · exact (hbz.setOther (a := ⟨T, 2, none⟩) hzT' (.pointer (some ⟨z.b, 0, none⟩))).drew.set 5 (.pointer none)
        · exact chn_set (a := ⟨z.b, 5, none⟩) (chn_drew (chn_set (a := ⟨T, 2, none⟩) hcr' hrT _)) hrz _
    · exact (hbx.setOther (a := ⟨T, 2, none⟩) hxT' (.pointer (some ⟨z.b, 0, none⟩))).drew.setOther (a := ⟨z.b, 5, none⟩) hzx (.pointer none)
    · exact (((Trn.refl _ w).set (p := ⟨T, 2, none⟩) (by simp) _).drew.set (p := ⟨z.b, 5, none⟩) (by simp) _)
  obtain ⟨xb, xk, ⟨xv1, xv2, xv3, xv4⟩⟩ := x
  obtain ⟨zb, zk, ⟨zv1, zv2, zv3, zv4⟩⟩ := z
  simp only at *
  clear h hnT hn2 hnl hnr hnd hcl hbx hnod3 hbz hcr' hrT hrz
  go_enter Try.func61, Try.ntmps61
  go_wp2_with fail
  obtain ⟨W1, hW1⟩ : ∃ W1, W1 = (w.setCell ⟨T, 2, none⟩ (.pointer (some ⟨zb, 0, none⟩))) := ⟨_, rfl⟩
  have hF := HF.out W1 hW1
  have hP := HP.out W1 hW1
  rw [← hW1]
  clear hW1 x2 x3 z2 j2
  obtain ⟨x2, x3, z2, j2⟩ := hF
  have HP2 := Lib.hid hP; clear hP HP HF
  go_still_tail 10, (by kernel_rfl)
  change wpList _ _ _ _ _ W1.drew
  go_wp2_with fail
  go_end0
  obtain ⟨W, rfl, h1, h2, h3⟩ := HP2.out
  exact ⟨rfl, h1, h2, h3⟩
theorem unlink_yn {y x : Nd} {l : List Nd} (h : Rg w T a0 a1 ((l ++ [y]) ++ x :: [])) : Calls Try.prog 61 #[tP T, tP x.b] w fun q w' => q = .returned (.tuple #[]) ∧ Rg w' T a0 a1 ((l ++ [y]) ++ []) ∧ BlkT w' x.b tE (ndC x (some y.b) none) ∧ Trn (T :: ((l ++ [y]) ++ x :: []).map (fun q : Nd => q.b)) w w' := by
  have hn := h.nod
  rw [List.nodup_cons] at hn
  obtain ⟨hnT, hn2⟩ := hn
  have hxT : x.b ≠ T := fun e => hnT (by rw [← e]; simp)
  have hxT' : T ≠ x.b := fun e => hxT e.symm
  have hyT : y.b ≠ T := fun e => hnT (by rw [← e]; simp)
  have hyT' : T ≠ y.b := fun e => hyT e.symm
  rw [List.map_append, List.map_cons] at hn2
  obtain ⟨hnl, hnr, hnd⟩ := List.nodup_append.1 hn2
  rw [List.nodup_cons] at hnr
  have hyx : y.b ≠ x.b := hnd y.b (by simp) x.b (by simp)
  have hyx' : x.b ≠ y.b := fun e => hyx e.symm
  obtain ⟨hcl, hbx, hcr⟩ := (chn_app (x :: []) none (l ++ [y]) none).1 h.chn
  rw [la_snoc] at hbx
  obtain ⟨hcl', hby, _⟩ := (chn_app [y] (hd (x :: []) none) l none).1 hcl
  have hby' : BlkT w y.b tE (ndC y (la none l) (some x.b)) := hby
  have y3 : w.cell? ⟨y.b, 6, none⟩ = some (.pointer (some ⟨x.b, 0, none⟩)) := hby'.at rfl
  have k3 := hby'.free 6
  have hlT : ∀ q ∈ l, q.b ≠ T := fun q hq e => hnT (by rw [← e]; exact List.mem_map.2 ⟨q, by simp [hq], rfl⟩)
  have hly : ∀ q ∈ l, q.b ≠ y.b := by
    rw [List.map_append] at hnl
    exact fun q hq => (List.nodup_append.1 hnl).2.2 q.b (List.mem_map.2 ⟨q, hq, rfl⟩) y.b (by simp)
  have x2 : w.cell? ⟨x.b, 5, none⟩ = some (.pointer (some ⟨y.b, 0, none⟩)) := hbx.at rfl
  have x3 : w.cell? ⟨x.b, 6, none⟩ = some (.pointer none) := hbx.at rfl
  have t2 : w.cell? ⟨T, 2, none⟩ = some (pt (hd ((l ++ [y]) ++ x :: []) none)) := h.tbl.at rfl
  have t3 : w.cell? ⟨T, 3, none⟩ = some (pt (la none ((l ++ [y]) ++ x :: []))) := h.tbl.at rfl
  have f2 := h.tbl.free 2
  have f3 := h.tbl.free 3
  have hnod3 : (T :: ((l ++ [y]) ++ []).map (fun q : Nd => q.b)).Nodup := by
    rw [List.nodup_cons, List.map_append]
    refine ⟨fun hq => hnT ?_, List.nodup_append.2 ⟨hnl, hnr.2, fun a ha b hb => hnd a ha b (List.mem_cons_of_mem _ hb)⟩⟩
    rw [List.map_append, List.map_cons]
    rcases List.mem_append.1 hq with hq | hq
    · exact List.mem_append_left _ hq
    · exact List.mem_append_right _ (List.mem_cons_of_mem _ hq)
  have HP : Hid (∃ W, W = (w.drew.setCell ⟨y.b, 6, none⟩ (.pointer none)).setCell ⟨T, 3, none⟩ (.pointer (some ⟨y.b, 0, none⟩)) ∧ Rg W T a0 a1 ((l ++ [y]) ++ []) ∧ BlkT W x.b tE (ndC x (some y.b) none) ∧ Trn (T :: ((l ++ [y]) ++ x :: []).map (fun q : Nd => q.b)) w W) := by
    refine Lib.hid ?_
    refine ⟨_, rfl, ⟨?_, ?_, hnod3⟩, ?_, ?_⟩
    · have b1 := (h.tbl.drew.setOther (a := ⟨y.b, 6, none⟩) hyT (.pointer none)).set 3 (.pointer (some ⟨y.b, 0, none⟩))
      rw [hd_app (l ++ [y]), hd_app l [y]] at b1
      rw [hd_app (l ++ [y]), hd_app l [y]]
      rw [List.append_nil, la_snoc]
      exact b1
    · refine (chn_app [] none (l ++ [y]) none).2 ⟨?_, ?_⟩
      · refine (chn_app [y] (hd [] none) l none).2 ⟨?_, ?_, trivial⟩
        · exact chn_set (a := ⟨T, 3, none⟩) (chn_set (a := ⟨y.b, 6, none⟩) (chn_drew hcl') hly _) hlT _
        · exact (hby'.drew.set 6 (.pointer none)).setOther (a := ⟨T, 3, none⟩) hyT' (.pointer (some ⟨y.b, 0, none⟩))
      · trivial
    · exact (hbx.drew.setOther (a := ⟨y.b, 6, none⟩) hyx (.pointer none)).setOther (a := ⟨T, 3, none⟩) hxT' (.pointer (some ⟨y.b, 0, none⟩))
    · exact (((Trn.refl _ w).drew.set (p := ⟨y.b, 6, none⟩) (by simp) _).set (p := ⟨T, 3, none⟩) (by simp) _)
  obtain ⟨xb, xk, ⟨xv1, xv2, xv3, xv4⟩⟩ := x
  obtain ⟨yb, yk, ⟨yv1, yv2, yv3, yv4⟩⟩ := y
  simp only at *
  clear h hnT hn2 hnl hnr hnd hcl hbx hcr hnod3 hcl' hby hby' hlT hly
  go_enter Try.func61, Try.ntmps61
  go_wp2_with fail
  go_still_tail 10, (by kernel_rfl)
  change wpList _ _ _ _ _ w.drew
  go_wp2_with fail
  go_end0
  obtain ⟨W, rfl, h1, h2, h3⟩ := HP.out
  exact ⟨rfl, h1, h2, h3⟩
theorem unlink_yz {y x : Nd} {l : List Nd} {z : Nd} {r : List Nd} (h : Rg w T a0 a1 ((l ++ [y]) ++ x :: (z :: r))) : Calls Try.prog 61 #[tP T, tP x.b] w fun q w' => q = .returned (.tuple #[]) ∧ Rg w' T a0 a1 ((l ++ [y]) ++ (z :: r)) ∧ BlkT w' x.b tE (ndC x (some y.b) (some z.b)) ∧ Trn (T :: ((l ++ [y]) ++ x :: (z :: r)).map (fun q : Nd => q.b)) w w' := by
  have hn := h.nod
  rw [List.nodup_cons] at hn
  obtain ⟨hnT, hn2⟩ := hn
  have hxT : x.b ≠ T := fun e => hnT (by rw [← e]; simp)
  have hxT' : T ≠ x.b := fun e => hxT e.symm
  have hyT : y.b ≠ T := fun e => hnT (by rw [← e]; simp)
  have hyT' : T ≠ y.b := fun e => hyT e.symm
  have hzT : z.b ≠ T := fun e => hnT (by rw [← e]; simp)
  have hzT' : T ≠ z.b := fun e => hzT e.symm
  rw [List.map_append, List.map_cons] at hn2
  obtain ⟨hnl, hnr, hnd⟩ := List.nodup_append.1 hn2
  rw [List.nodup_cons] at hnr
  have hyx : y.b ≠ x.b := hnd y.b (by simp) x.b (by simp)
  have hyx' : x.b ≠ y.b := fun e => hyx e.symm
  have hzx : z.b ≠ x.b := fun e => hnr.1 (by rw [← e]; simp)
  have hzx' : x.b ≠ z.b := fun e => hzx e.symm
  have hyz : y.b ≠ z.b := hnd y.b (by simp) z.b (by simp)
  have hyz' : z.b ≠ y.b := fun e => hyz e.symm
  obtain ⟨hcl, hbx, hcr⟩ := (chn_app (x :: (z :: r)) none (l ++ [y]) none).1 h.chn
  rw [la_snoc] at hbx
  obtain ⟨hcl', hby, _⟩ := (chn_app [y] (hd (x :: (z :: r)) none) l none).1 hcl
  have hby' : BlkT w y.b tE (ndC y (la none l) (some x.b)) := hby
  have y3 : w.cell? ⟨y.b, 6, none⟩ = some (.pointer (some ⟨x.b, 0, none⟩)) := hby'.at rfl
  have k3 := hby'.free 6
  have hlT : ∀ q ∈ l, q.b ≠ T := fun q hq e => hnT (by rw [← e]; exact List.mem_map.2 ⟨q, by simp [hq], rfl⟩)
  have hly : ∀ q ∈ l, q.b ≠ y.b := by
    rw [List.map_append] at hnl
    exact fun q hq => (List.nodup_append.1 hnl).2.2 q.b (List.mem_map.2 ⟨q, hq, rfl⟩) y.b (by simp)
  have hlz : ∀ q ∈ l, q.b ≠ z.b := fun q hq => hnd q.b (List.mem_map.2 ⟨q, by simp [hq], rfl⟩) z.b (by simp)
  obtain ⟨hbz, hcr'⟩ := hcr
  have z2 : w.cell? ⟨z.b, 5, none⟩ = some (.pointer (some ⟨x.b, 0, none⟩)) := hbz.at rfl
  have j2 := hbz.free 5
  have hrT : ∀ q ∈ r, q.b ≠ T := fun q hq e => hnT (by rw [← e]; exact List.mem_map.2 ⟨q, by simp [hq], rfl⟩)
  have hrz : ∀ q ∈ r, q.b ≠ z.b := by
    have := hnr.2
    rw [List.map_cons, List.nodup_cons] at this
    exact fun q hq e => this.1 (by rw [← e]; exact List.mem_map.2 ⟨q, hq, rfl⟩)
  have hry : ∀ q ∈ r, q.b ≠ y.b := fun q hq e => hnd y.b (by simp) q.b (by rw [List.mem_cons]; right; exact List.mem_map.2 ⟨q, by simp [hq], rfl⟩) e.symm
  have x2 : w.cell? ⟨x.b, 5, none⟩ = some (.pointer (some ⟨y.b, 0, none⟩)) := hbx.at rfl
  have x3 : w.cell? ⟨x.b, 6, none⟩ = some (.pointer (some ⟨z.b, 0, none⟩)) := hbx.at rfl
  have t2 : w.cell? ⟨T, 2, none⟩ = some (pt (hd ((l ++ [y]) ++ x :: (z :: r)) none)) := h.tbl.at rfl
  have t3 : w.cell? ⟨T, 3, none⟩ = some (pt (la none ((l ++ [y]) ++ x :: (z :: r)))) := h.tbl.at rfl
  have f2 := h.tbl.free 2
  have f3 := h.tbl.free 3
  have hnod3 : (T :: ((l ++ [y]) ++ (z :: r)).map (fun q : Nd => q.b)).Nodup := by
    rw [List.nodup_cons, List.map_append]
    refine ⟨fun hq => hnT ?_, List.nodup_append.2 ⟨hnl, hnr.2, fun a ha b hb => hnd a ha b (List.mem_cons_of_mem _ hb)⟩⟩
    rw [List.map_append, List.map_cons]
    rcases List.mem_append.1 hq with hq | hq
    · exact List.mem_append_left _ hq
    · exact List.mem_append_right _ (List.mem_cons_of_mem _ hq)
  have HF : Hid (∀ W1, W1 = (w.drew.setCell ⟨y.b, 6, none⟩ (.pointer (some ⟨z.b, 0, none⟩))) → W1.cell? ⟨x.b, 5, none⟩ = some (.pointer (some ⟨y.b, 0, none⟩)) ∧ W1.cell? ⟨x.b, 6, none⟩ = some (.pointer (some ⟨z.b, 0, none⟩)) ∧ W1.cell? ⟨z.b, 5, none⟩ = some (.pointer (some ⟨x.b, 0, none⟩)) ∧ W1.frozen? ⟨z.b, 5, none⟩ = false) := by
    refine Lib.hid ?_
    rintro W1 rfl
    exact ⟨(hbx.drew.setOther (a := ⟨y.b, 6, none⟩) hyx (.pointer (some ⟨z.b, 0, none⟩))).at rfl, (hbx.drew.setOther (a := ⟨y.b, 6, none⟩) hyx (.pointer (some ⟨z.b, 0, none⟩))).at rfl, (hbz.drew.setOther (a := ⟨y.b, 6, none⟩) hyz (.pointer (some ⟨z.b, 0, none⟩))).at rfl, (hbz.drew.setOther (a := ⟨y.b, 6, none⟩) hyz (.pointer (some ⟨z.b, 0, none⟩))).free 5⟩
  have HP : Hid (∀ W1, W1 = (w.drew.setCell ⟨y.b, 6, none⟩ (.pointer (some ⟨z.b, 0, none⟩))) → ∃ W, W = W1.drew.setCell ⟨z.b, 5, none⟩ (.pointer (some ⟨y.b, 0, none⟩)) ∧ Rg W T a0 a1 ((l ++ [y]) ++ (z :: r)) ∧ BlkT W x.b tE (ndC x (some y.b) (some z.b)) ∧ Trn (T :: ((l ++ [y]) ++ x :: (z :: r)).map (fun q : Nd => q.b)) w W) := by
    refine Lib.hid ?_
    rintro W1 rfl
    refine ⟨_, rfl, ⟨?_, ?_, hnod3⟩, ?_, ?_⟩
    · have b1 := (h.tbl.drew.setOther (a := ⟨y.b, 6, none⟩) hyT (.pointer (some ⟨z.b, 0, none⟩))).drew.setOther (a := ⟨z.b, 5, none⟩) hzT (.pointer (some ⟨y.b, 0, none⟩))
      rw [hd_app (l ++ [y]), hd_app l [y]] at b1
      rw [hd_app (l ++ [y]), hd_app l [y]]
      rw [la_app (x :: z :: r)] at b1
      rw [la_app (z :: r)]
      exact b1
    · refine (chn_app (z :: r) none (l ++ [y]) none).2 ⟨?_, ?_⟩
      · refine (chn_app [y] (hd (z :: r) none) l none).2 ⟨?_, ?_, trivial⟩
        · exact chn_set (a := ⟨z.b, 5, none⟩) (chn_drew (chn_set (a := ⟨y.b, 6, none⟩) (chn_drew hcl') hly _)) hlz _
        · exact (hby'.drew.set 6 (.pointer (some ⟨z.b, 0, none⟩))).drew.setOther (a := ⟨z.b, 5, none⟩) hyz' (.pointer (some ⟨y.b, 0, none⟩))
      · rw [la_snoc]
        refine ⟨?_, ?_⟩
        · exact (hbz.drew.setOther (a := ⟨y.b, 6, none⟩) hyz (.pointer (some ⟨z.b, 0, none⟩))).drew.set 5 (.pointer (some ⟨y.b, 0, none⟩))
        · exact chn_set (a := ⟨z.b, 5, none⟩) (chn_drew (chn_set (a := ⟨y.b, 6, none⟩) (chn_drew hcr') hry _)) hrz _
    · exact (hbx.drew.setOther (a := ⟨y.b, 6, none⟩) hyx (.pointer (some ⟨z.b, 0, none⟩))).drew.setOther (a := ⟨z.b, 5, none⟩) hzx (.pointer (some ⟨y.b, 0, none⟩))
    · exact (((Trn.refl _ w).drew.set (p := ⟨y.b, 6, none⟩) (by simp) _).drew.set (p := ⟨z.b, 5, none⟩) (by simp) _)
  obtain ⟨xb, xk, ⟨xv1, xv2, xv3, xv4⟩⟩ := x
  obtain ⟨yb, yk, ⟨yv1, yv2, yv3, yv4⟩⟩ := y
  obtain ⟨zb, zk, ⟨zv1, zv2, zv3, zv4⟩⟩ := z
  simp only at *
  clear h hnT hn2 hnl hnr hnd hcl hbx hnod3 hcl' hby hby' hlT hly hbz hcr' hrT hrz
  clear hlz hry
  go_enter Try.func61, Try.ntmps61
  go_wp2_with fail
  go_still_tail 10, (by kernel_rfl)
  change wpList _ _ _ _ _ w.drew
  go_wp2_with fail
  obtain ⟨W1, hW1⟩ : ∃ W1, W1 = ((w.setCell ⟨yb, 6, none⟩ (.pointer (some ⟨zb, 0, none⟩))).drew) := ⟨_, rfl⟩
  have hF := HF.out W1 hW1
  have hP := HP.out W1 hW1
  rw [← hW1]
  clear hW1 x2 x3 z2 j2
  obtain ⟨x2, x3, z2, j2⟩ := hF
  have HP2 := Lib.hid hP; clear hP HP HF
  go_still_tail 10, (by kernel_rfl)
  change wpList _ _ _ _ _ W1.drew
  go_wp2_with fail
  go_end0
  obtain ⟨W, rfl, h1, h2, h3⟩ := HP2.out
  exact ⟨rfl, h1, h2, h3⟩
theorem unlink_any {l r : List Nd} {x : Nd} (h : Rg w T a0 a1 (l ++ x :: r)) : Calls Try.prog 61 #[tP T, tP x.b] w fun q w' => q = .returned (.tuple #[]) ∧ Rg w' T a0 a1 (l ++ r) ∧ (∃ p n, BlkT w' x.b tE (ndC x p n)) ∧ Trn (T :: (l ++ x :: r).map (·.b)) w w' := by
  rcases List.eq_nil_or_concat l with rfl | ⟨l', y, rfl⟩
  · cases r with
    | nil => exact (unlink_nn h).mono fun q w' ⟨h1, h2, h3, h4⟩ => ⟨h1, h2, ⟨_, _, h3⟩, h4⟩
    | cons z r => exact (unlink_nz h).mono fun q w' ⟨h1, h2, h3, h4⟩ => ⟨h1, h2, ⟨_, _, h3⟩, h4⟩
  · rw [List.concat_eq_append] at h ⊢
    cases r with
    | nil => exact (unlink_yn h).mono fun q w' ⟨h1, h2, h3, h4⟩ => ⟨h1, h2, ⟨_, _, h3⟩, h4⟩
    | cons z r => exact (unlink_yz h).mono fun q w' ⟨h1, h2, h3, h4⟩ => ⟨h1, h2, ⟨_, _, h3⟩, h4⟩
end
end Go.Proofs.Ythpgdojjecdlcaa
