/- The statement NonceOnce's own text, walked. -/
import Derived.Test.YthpgdojjecdlcaaNnOps7
import Derived.Test.YthpgdojjecdlcaaOwnT
import Derived.Deep.DeepCutAuto
import Derived.Deep.CutBlock
set_option maxRecDepth 100000
namespace Go.Proofs.Ythpgdojjecdlcaa
open Go.RowKit Go.Shelf
/-- Between the rounds. -/
structure WQ (w : World) (B0 S T m K g1 g2 g3 : Nat) (f : NF) (l : PLn) (GS : List (List UInt8)) (sp : List UInt8 → Bool) (ct : List UInt8 → Int) (n2 n3 : Nat) (N : Int) (v : Value) (wr : World) : Prop where
  oi : OI f l GS sp ct N
  ns : NS wr B0 S T m K f l
  m1 : MpB wr g1 (fun k => GS.contains k) GS.length
  m2 : MpB wr g2 sp n2
  m3 : MpU wr g3 ct n3
  ow : OwnT wr B0 v GS
  lo : Below w.heap.size w wr
section
variable {w wr wr' : World} {B0 S T m K g1 g2 g3 n2 n3 : Nat} {f f' : NF} {l l' : PLn} {GS : List (List UInt8)} {sp : List UInt8 → Bool} {ct : List UInt8 → Int} {N : Int} {v : Value}
theorem WQ.keep (h : WQ w B0 S T m K g1 g2 g3 f l GS sp ct n2 n3 N v wr) (hb : Below wr.heap.size wr wr') : WQ w B0 S T m K g1 g2 g3 f l GS sp ct n2 n3 N v wr' :=
  ⟨h.oi, h.ns.keep hb, h.m1.at (hb.block _ h.m1.isMap.lt), h.m2.at (hb.block _ h.m2.isMap.lt), h.m3.at (hb.block _ h.m3.isMap.lt), h.ow.below hb, h.lo.trans (hb.mono h.lo.size)⟩
theorem WQ.later (h : WQ w B0 S T m K g1 g2 g3 f l GS sp ct n2 n3 N v wr) {N' : Int} (hn : N ≤ N') : WQ w B0 S T m K g1 g2 g3 f l GS sp ct n2 n3 N' v wr :=
  ⟨h.oi.later hn, h.ns, h.m1, h.m2, h.m3, h.ow, h.lo⟩
/-- An operation of the Store. -/
theorem WQ.op (h : WQ w B0 S T m K g1 g2 g3 f l GS sp ct n2 n3 N v wr) (hB : w.heap.size ≤ B0) (hd : g1 ≠ m ∧ g2 ≠ m ∧ g3 ≠ m) (hn : NS wr' B0 S T m K f' l') (hf : FrN B0 m wr wr') (ho : OI f' l' GS sp ct N) : WQ w B0 S T m K g1 g2 g3 f' l' GS sp ct n2 n3 N v wr' :=
  ⟨ho, hn, h.m1.at (hf.map h.m1.isMap hd.1), h.m2.at (hf.map h.m2.isMap hd.2.1), h.m3.at (hf.map h.m3.isMap hd.2.2), hf.row h.ns h.ow (by decide), h.lo.trans (hf.low.mono hB)⟩
/-- What is the same for the three maps: apart, none of them the table's, all of them new. -/
structure G3 (w : World) (B0 m g1 g2 g3 : Nat) : Prop where
  b : w.heap.size ≤ B0
  m : g1 ≠ m ∧ g2 ≠ m ∧ g3 ≠ m
  d : g1 ≠ g2 ∧ g1 ≠ g3 ∧ g2 ≠ g3
  n : w.heap.size ≤ g1 ∧ w.heap.size ≤ g2 ∧ w.heap.size ≤ g3
theorem WQ.turn (h : WQ w B0 S T m K g1 g2 g3 f l GS sp ct n2 n3 N v wr) {b : Nat} (hg : wr.grownBy wr' (some b)) (hb : isMap wr b) (hbm : b ≠ m) (hbn : w.heap.size ≤ b) :
    NS wr' B0 S T m K f l ∧ OwnT wr' B0 v GS ∧ Below w.heap.size w wr' ∧ (∀ g, isMap wr g → g ≠ b → wr'.heap[g]? = wr.heap[g]?) :=
  ⟨h.ns.turned hg hb hbm, h.ow.kept hg (row_nmap h.ow hb), h.lo.grown hg h.lo.size (fun k hk => by cases hk; exact hbn), fun g h1 h2 => hg.block g h1.lt (fun e => h2 (Option.some.inj e))⟩
/-- The second map turned: a nonce was spent. -/
theorem WQ.spent (h : WQ w B0 S T m K g1 g2 g3 f l GS sp ct n2 n3 N v wr) (g : G3 w B0 m g1 g2 g3) {n : List UInt8} {k2 : Nat} (hg : wr.grownBy wr' (some g2)) (hm : MpB wr' g2 (upd sp n true) k2) (ho : OI f l GS (upd sp n true) ct N) : WQ w B0 S T m K g1 g2 g3 f l GS (upd sp n true) ct k2 n3 N v wr' := by
  obtain ⟨a, b, c, d⟩ := h.turn hg h.m2.isMap g.m.2.1 g.n.2.1
  exact ⟨ho, a, h.m1.at (d _ h.m1.isMap g.d.1), hm, h.m3.at (d _ h.m3.isMap g.d.2.2.symm), b, c⟩
/-- The third map turned: a nonce was used. -/
theorem WQ.used (h : WQ w B0 S T m K g1 g2 g3 f l GS sp ct n2 n3 N v wr) (g : G3 w B0 m g1 g2 g3) {n : List UInt8} {q : Int} {k3 : Nat} (hg : wr.grownBy wr' (some g3)) (hm : MpU wr' g3 (upd ct n q) k3) (ho : OI f l GS sp (upd ct n q) N) : WQ w B0 S T m K g1 g2 g3 f l GS sp (upd ct n q) n2 k3 N v wr' := by
  obtain ⟨a, b, c, d⟩ := h.turn hg h.m3.isMap g.m.2.2 g.n.2.2
  exact ⟨ho, a, h.m1.at (d _ h.m1.isMap g.d.2.1), h.m2.at (d _ h.m2.isMap g.d.2.2), hm, b, c⟩
theorem contains_snoc (GS : List (List UInt8)) (n : List UInt8) : upd (fun k => GS.contains k) n true = fun k => (GS ++ [n]).contains k := by
  funext k
  unfold upd
  by_cases h : k = n
  · rw [if_pos h, h]; simp
  · rw [if_neg h]
    simp [h]
/-- A nonce was given out and noted in the first map; it is appended to the row of all. -/
theorem issued {w5 w6 : World} {D : DataW Unit} {nn : List UInt8} (gg : G3 w B0 m g1 g2 g3) (h : NS w5 B0 S T m K f l ∧ MpB w5 g1 (fun k => GS.contains k) GS.length ∧ MpB w5 g2 sp n2 ∧ MpU w5 g3 ct n3 ∧ OwnT w5 B0 v GS ∧ Below w.heap.size w w5)
    (hD : w5.ownsMap Try.prog 9 rdB g1 100000 D) (hI : ∀ k z, D.atKey (.string k) z = if (fun k => GS.contains k) k = true then .lit (.bool true) else z) (hs : Maps.size D = GS.length) (h60 : GS.length ≤ 60) (hn : GS.contains nn = false) (ho : OI f l (GS ++ [nn]) sp ct N)
    (hD6 : w6.ownsMap Try.prog 9 rdB g1 (100000 + 1) (D.put (.string nn) (.lit (.bool true)))) (hg : w5.grownBy w6 (some g1)) :
    OwnT (w6.alloc (.cells #[strT nn] 9)) B0 v GS ∧ (w6.alloc (.cells #[strT nn] 9)).cell? ⟨w6.heap.size, 0, none⟩ = some (strT nn) ∧ B0 ≤ (w6.alloc (.cells #[strT nn] 9)).heap.size ∧
    (∀ v' w7, OwnT w7 B0 v' (GS ++ [nn]) → (w6.alloc (.cells #[strT nn] 9)).grownBy w7 v.ownBlock → WQ w B0 S T m K g1 g2 g3 f l (GS ++ [nn]) sp ct n2 n3 N v' w7) := by
  obtain ⟨x1, x2, x3, x4, x5, x6⟩ := h
  have im : ∀ g, isMap w5 g → g ≠ g1 → w6.heap[g]? = w5.heap[g]? := fun g k1 k2 => hg.block g k1.lt (fun e => k2 (Option.some.inj e))
  have hm6 := MpB.put ⟨D, hD, hD6, hI, hs⟩ (by omega)
  rw [contains_snoc, show (if GS.contains nn = true then GS.length else GS.length + 1) = GS.length + 1 by rw [hn]; rfl] at hm6
  have y1 := x1.turned hg x2.isMap gg.m.1
  have y3 := x3.at (im _ x3.isMap gg.d.1.symm)
  have y4 := x4.at (im _ x4.isMap gg.d.2.1.symm)
  have y5 : OwnT w6 B0 v GS := x5.kept hg (row_nmap x5 x2.isMap)
  have y6 := x6.grown hg x6.size (fun k hk => by cases hk; exact gg.n.1)
  have hBA : Below w6.heap.size w6 (w6.alloc (.cells #[strT nn] 9)) := (Below.refl _ _).alloc (Nat.le_refl _) _
  have hbs := hBA.size
  have hrow := y5.below hBA
  have hrc := row_cells hrow (by decide)
  have hbl := y1.tb.base_le
  refine ⟨hrow, ?_, by omega, fun v' w7 hv hg7 => ?_⟩
  · have : BlkT (w6.alloc (.cells #[strT nn] 9)) w6.heap.size 9 [strT nn] := heap_alloc_new w6 _
    exact this.at rfl
  · have im7 : ∀ g, isMap w6 g → w7.heap[g]? = w6.heap[g]? := fun g k1 => (hg7.block g (by have := k1.lt; omega) (fun e => by
      obtain ⟨c1, t1, z1, k2, _⟩ := hrc g e.symm
      obtain ⟨es, cl, k3⟩ := k1
      rw [(hBA.block g (Array.getElem?_eq_some_iff.1 k3).1).trans k3] at k2
      cases k2)).trans (hBA.block g k1.lt)
    refine ⟨ho, (y1.keep hBA).grown hg7 hrc, ?_, y3.at (im7 _ y3.isMap), y4.at (im7 _ y4.isMap), hv, (y6.trans (hBA.mono y6.size)).grown hg7 (by have := y6.size; omega) (fun k hk => by have := (World.ownsRow.lt hrow k hk).1; have := gg.b; omega)⟩
    rw [List.length_append]
    exact hm6.at (im7 _ hm6.isMap)
end
set_option maxHeartbeats 8000000 in
theorem nonceOnce_law (ua ub : Int) (B : Nat) (v : Value) (ls : List OpN) (w : World) (h1 : 0 ≤ ua ∧ ua ≤ 255) (h2 : 0 ≤ ub ∧ ub ≤ 65535) (hv : NOps w B v ls) (hB : B ≤ w.heap.size) :
    Calls Try.prog 4 #[.int .u8 ua, .int .u16 ub, v] w fun e w' => e = .returned (.bool true) ∧ Below w.heap.size w w' := by
  obtain ⟨K, hK⟩ : ∃ K : Nat, (K : Int) = 1 + ua % 6 := ⟨(1 + ua % 6).toNat, by omega⟩
  obtain ⟨wd, hwd⟩ : ∃ wd : Int, wd = 1 + ub % 300 := ⟨_, rfl⟩
  have hK1 : 1 ≤ K := by omega
  have hK2 : K ≤ 6 := by omega
  have hw1 : 1 ≤ wd := by omega
  have hw2 : wd ≤ 300 := by omega
  have hm1 : 0 ≤ ua % 6 ∧ ua % 6 < 6 := by omega
  have hm2 : 0 ≤ ub % 300 ∧ ub % 300 < 300 := by omega
  have HK := Lib.hid hK; clear hK
  have HWD := Lib.hid hwd; clear hwd
  have HV := Lib.hid hv
  obtain ⟨A, c, rfl, hc1, hc2, _⟩ := hv
  have hmkB := fun W => run_makeMap (P := Try.prog) tMB W
  have hmkU := fun W => run_makeMap (P := Try.prog) tMU W
  go_enter Try.func4, Try.ntmps4
  go_wp2_with fail
  refine (awake12 w).mono ?_
  rintro e w1 ⟨rfl, hB1⟩
  have HB1 := Lib.hid hB1; clear hB1
  go_wp2_with fail
  rw [← HK.out, ← HWD.out]
  refine (new_ns K wd w1 hK1 (by omega) hw1 (by omega)).mono ?_
  rintro e w2 ⟨S, T, m, rfl, h2, hb2⟩
  have H2 := Lib.hid h2
  have HB2 := Lib.hid (HB1.out.trans (hb2.mono HB1.out.size))
  clear h2 hb2
  go_wp2_with fail
  clear hmkB hmkU
  obtain ⟨W3, hW3⟩ : ∃ W3, W3 = ((w2.alloc (.map #[] 0)).alloc (.map #[] 0)).alloc (.map #[] 0) := ⟨_, rfl⟩
  have HQ0 : Hid (G3 w w1.heap.size m w2.heap.size (w2.heap.size + 1) (w2.heap.size + 2) ∧ WQ w w1.heap.size S T m K w2.heap.size (w2.heap.size + 1) (w2.heap.size + 2) ⟨wd, 0, 0, 0, false⟩ [] [] (fun _ => false) (fun _ => 0) 0 0 0 (.slice none 0 0) W3) := Lib.hid (by
    have hm2 := H2.out.mapM.lt
    have hz := HB2.out.size
    have hB3 : Below w2.heap.size w2 W3 := by rw [hW3]; exact (((Below.refl _ w2).alloc (Nat.le_refl _) _).alloc (by simp) _).alloc (by simp; omega) _
    have k1 : MpB (w2.alloc (.map #[] 0)) w2.heap.size (fun _ => false) 0 := ⟨.map [], (World.ownsMap_made w2 Try.prog 9 rdB).mono (by omega), fun k z => rfl, rfl⟩
    have k2 : MpB ((w2.alloc (.map #[] 0)).alloc (.map #[] 0)) (w2.heap.size + 1) (fun _ => false) 0 := by
      have := (World.ownsMap_made (w2.alloc (.map #[] 0)) Try.prog 9 rdB).mono (n' := 100000) (by omega)
      rw [World.size_alloc] at this
      exact ⟨.map [], this, fun k z => rfl, rfl⟩
    have k3 : MpU W3 (w2.heap.size + 2) (fun _ => 0) 0 := by
      have := (World.ownsMap_made ((w2.alloc (.map #[] 0)).alloc (.map #[] 0)) Try.prog 9 rdU).mono (n' := 100000) (by omega)
      rw [World.size_alloc, World.size_alloc] at this
      rw [hW3]
      exact ⟨.map [], this, fun k => rfl, Nat.le_refl _⟩
    refine ⟨⟨HB1.out.size, by omega, by omega, by omega⟩, OI.start wd, H2.out.keep hB3, ?_, ?_, k3, OwnT.nil _ _, HB2.out.trans (hB3.mono hz)⟩
    · rw [hW3]
      refine (k1.at ?_)
      exact (Below.heap_alloc _ _ _ (by simp; omega)).trans (Below.heap_alloc _ _ _ (by simp))
    · rw [hW3]
      exact k2.at (Below.heap_alloc _ _ _ (by simp)))
  rw [← hW3]
  clear hW3
  obtain ⟨g1, hg1⟩ : ∃ g1, g1 = w2.heap.size := ⟨_, rfl⟩
  obtain ⟨g2, hg2⟩ : ∃ g2, g2 = w2.heap.size + 1 := ⟨_, rfl⟩
  obtain ⟨g3, hg3⟩ : ∃ g3, g3 = w2.heap.size + 2 := ⟨_, rfl⟩
  obtain ⟨B0, hB0⟩ : ∃ B0, B0 = w1.heap.size := ⟨_, rfl⟩
  rw [← hg3, ← hg2, ← hg1, ← hB0] at HQ0
  rw [show w2.heap.size + 1 + 1 = g3 from by omega, ← hg2, ← hg1]
  clear hg1 hg2 hg3 hB0 H2 HB2
  have HG3 := Lib.hid HQ0.out.1
  have HWS := Lib.hid HQ0.out.2
  clear HQ0
  go_loopw [12, 13, 41] (fun s12 s13 i wr => ∃ (j : Nat) (f : NF) (l : PLn) (GS : List (List UInt8)) (sp : List UInt8 → Bool) (ct : List UInt8 → Int) (n2 n3 : Nat) (N : Int), i = .int .i64 (j : Int) ∧ j ≤ ls.length ∧ j ≤ 60 ∧ GS.length ≤ j ∧ n2 ≤ j ∧ n3 ≤ j ∧ s13 = u64v N ∧ 0 ≤ N ∧ N ≤ 99 * (j : Int) ∧ WQ w B0 S T m K g1 g2 g3 f l GS sp ct n2 n3 N s12 wr) (fun _ _ i _ => ls.length - (intOf i).toNat)
  case atStart => exact ⟨0, _, _, [], _, _, 0, 0, 0, rfl, by omega, by omega, by simp, by omega, by omega, rfl, by omega, by omega, HWS.out⟩
  case round =>
    clear HWS
    obtain ⟨j, f, l, GS, sp, ct, n2, n3, N, rfl, hjl, hj60, hGj, hn2, hn3, rfl, hN0, hN1, hWQ⟩ := hrel
    have HWQ := Lib.hid hWQ
    obtain ⟨As, cs, rfl, hcs1, hcs2⟩ := enRow_form hWQ.ow
    unfold maxLen at hcs2
    by_cases hlt : j < ls.length
    · obtain ⟨b, o, rfl, hb, hcell, hok⟩ : ∃ b o, A = some ⟨b, o, none⟩ ∧ b < B ∧ (∀ k v, (opC ls[j])[k]? = some v → w.cell? ⟨b, o + j * 7 + k, none⟩ = some v) ∧ ls[j].ok := by
        obtain ⟨A', c', e, _, _, h3⟩ := HV.out
        obtain ⟨b, o, rfl, hb, hbs⟩ := h3 (by omega)
        cases e
        exact ⟨b, o, rfl, hb, (hbs j hlt).1, (hbs j hlt).2⟩
      obtain ⟨⟨od, ox, owh, oow, oc, ot, obk⟩, hop⟩ : ∃ q, q = ls[j] := ⟨_, rfl⟩
      rw [← hop] at hcell hok
      clear hop
      obtain ⟨⟨d0, d1⟩, hx, ⟨wh0, wh1⟩, ⟨oc0, oc1⟩, ⟨ot0, ot1⟩, _⟩ := hok
      simp only at d0 d1 hx wh0 wh1 oc0 oc1 ot0 ot1
      have hcw : ∀ k v, (opC ⟨od, ox, owh, oow, oc, ot, obk⟩)[k]? = some v → wr.cell? ⟨b, o + j * 7 + k, none⟩ = some v := fun k v hk => (hWQ.lo.cell (p := ⟨b, o + j * 7 + k, none⟩) (by show b < w.heap.size; omega)).trans (hcell k v hk)
      have c0 : wr.cell? ⟨b, o + j * 7, none⟩ = some (.int .u8 od) := hcw 0 _ rfl
      have c1 : wr.cell? ⟨b, o + j * 7 + 1, none⟩ = some (strT ox) := hcw 1 _ rfl
      have c2 : wr.cell? ⟨b, o + j * 7 + 2, none⟩ = some (.int .u8 owh) := hcw 2 _ rfl
      have c3 : wr.cell? ⟨b, o + j * 7 + 3, none⟩ = some (.bool oow) := hcw 3 _ rfl
      have c4 : wr.cell? ⟨b, o + j * 7 + 4, none⟩ = some (.int .u32 oc) := hcw 4 _ rfl
      have c5 : wr.cell? ⟨b, o + j * 7 + 5, none⟩ = some (.int .u32 ot) := hcw 5 _ rfl
      have c6 : wr.cell? ⟨b, o + j * 7 + 6, none⟩ = some (.int .u8 obk) := hcw 6 _ rfl
      clear hcell hcw hWQ
      obtain ⟨W, hW⟩ : ∃ W, W = wr.alloc (.cells #[.int .u8 od, strT ox, .int .u8 owh, .bool oow, .int .u32 oc, .int .u32 ot, .int .u8 obk] 42) := ⟨_, rfl⟩
      have hBW : Below wr.heap.size wr W := by rw [hW]; exact (Below.refl _ wr).alloc (Nat.le_refl _) _
      have hP : BlkT W wr.heap.size 42 [.int .u8 od, strT ox, .int .u8 owh, .bool oow, .int .u32 oc, .int .u32 ot, .int .u8 obk] := by rw [hW]; exact heap_alloc_new wr _
      have HBW := Lib.hid hBW; have HP := Lib.hid hP
      clear hBW hP
      by_cases h60 : j < 60
      · have HCT := Lib.hid (fun W => cutText_any ox 50 W hx (by omega) (by omega))
        obtain ⟨n0, hn0⟩ : ∃ n0, n0 = ox.take (50 : Int).toNat := ⟨_, rfl⟩
        have hn0l : n0.length ≤ 50 := by rw [hn0, List.length_take]; omega
        rw [← hn0] at HCT
        obtain ⟨N2, hN2⟩ : ∃ N2, N2 = N + ot % 100 := ⟨_, rfl⟩
        have hN20 : 0 ≤ N2 ∧ N ≤ N2 ∧ N2 ≤ 99 * ((j : Int) + 1) := by omega
        have HN2 := Lib.hid hN2
        clear hn0 hN2
        go_wp2_with fail
        rw [← hW, ← HN2.out]
        refine (HCT.out W).mono ?_
        rintro e W' ⟨rfl, hWW⟩
        subst hWW
        have HQ := Lib.hid ((HWQ.out.keep HBW.out).later hN20.2.1)
        have p0 : W.cell? ⟨wr.heap.size, 0, none⟩ = some (.int .u8 od) := HP.out.at rfl
        have p1 : W.cell? ⟨wr.heap.size, 1, none⟩ = some (strT ox) := HP.out.at rfl
        have p2 : W.cell? ⟨wr.heap.size, 2, none⟩ = some (.int .u8 owh) := HP.out.at rfl
        have p3 : W.cell? ⟨wr.heap.size, 3, none⟩ = some (.bool oow) := HP.out.at rfl
        have p4 : W.cell? ⟨wr.heap.size, 4, none⟩ = some (.int .u32 oc) := HP.out.at rfl
        obtain ⟨P, hPp⟩ : ∃ P, P = wr.heap.size := ⟨_, rfl⟩
        rw [← hPp] at HP p0 p1 p2 p3 p4 ⊢
        clear hW hPp c0 c1 c2 c3 c4 c5 c6 HBW HWQ
        have HN1 := Lib.hid hn0l
        go_upto_region 15 with fail
        go_cut [63] (fun s63 wx => W = wx ∧ s63 = .bool (oow && decide (0 < GS.length)))
        case first =>
          cases oow with
          | false =>
            go_wp2_with fail
            go_meet
            exact ⟨rfl, rfl⟩
          | true =>
            by_cases hG : 0 < GS.length
            · have hdG : decide (0 < GS.length) = true := decide_eq_true hG
              clear hG
              go_wp2_with fail
              go_meet
              exact ⟨rfl, by rw [hdG]; rfl⟩
            · have hdG : decide (0 < GS.length) = false := decide_eq_false hG
              clear hG
              go_wp2_with fail
              go_meet
              exact ⟨rfl, by rw [hdG]; rfl⟩
        case rest =>
          obtain ⟨rfl, rfl⟩ := hcut
          obtain ⟨bq, hbq⟩ : ∃ bq, bq = (oow && decide (0 < GS.length)) := ⟨_, rfl⟩
          rw [← hbq]
          have HBQ := Lib.hid hbq
          clear hbq
          go_upto_if 63 with fail
          go_cut [16] (fun s16 wx => W = wx ∧ ∃ n : List UInt8, s16 = strT n ∧ n.length ≤ 100)
          case first =>
            cases bq with
            | false =>
              go_wp2_with fail
              go_meet
              exact ⟨rfl, n0, rfl, by omega⟩
            | true =>
              have hG : 0 < GS.length := by
                have := HBQ.out.symm
                rw [Bool.and_eq_true, decide_eq_true_eq] at this
                exact this.2
              rcases HQ.out.ow.form with ⟨e, e2⟩ | ⟨g, cap, e, _, _, _, _, hgc⟩
              · rw [e2] at hG; simp at hG
              · cases e
                obtain ⟨Q, hQ⟩ : ∃ Q : Nat, owh % (GS.length : Int) = (Q : Int) := ⟨(owh % (GS.length : Int)).toNat, by have := Int.emod_nonneg owh (b := (GS.length : Int)) (by omega); omega⟩
                have hQl : Q < GS.length := by have := Int.emod_lt_of_pos owh (b := (GS.length : Int)) (by omega); omega
                have hcg := hgc Q hQl
                obtain ⟨n, hnn⟩ : ∃ n, n = GS[Q] := ⟨_, rfl⟩
                have hn : n.length ≤ 100 := by rw [hnn]; exact (HQ.out.oi.gs _ (List.getElem_mem hQl)).1
                rw [← hnn] at hcg
                clear hgc hnn
                go_wp2_with fail
                go_meet
                exact ⟨rfl, n, rfl, hn⟩
          case rest =>
            obtain ⟨rfl, n, rfl, hn⟩ := hcut
            by_cases e4 : od % 10 = 4
            · have b4 : (od % 10 == 4) = true := beq_iff_eq.2 e4
              clear e4
              go_wp2_with fail
              refine (spend_ns HQ.out.ns n N2 (by omega) (by omega) (by omega) (HQ.out.oi.ok (by omega))).mono ?_
              rintro e w5 ⟨rfl, h5, f5⟩
              rcases HQ.out.oi.spend n N2 with ⟨c', hc', hne⟩ | ⟨l', hc', q1, q2, q3, q4⟩
              · rw [hc'] at h5 ⊢
                have HQ6 := Lib.hid (HQ.out.op HG3.out.b HG3.out.m h5 f5 HQ.out.oi)
                have hce : (c' == 0) = false := beq_eq_false_iff_ne.2 hne
                clear h5 f5 hc' hne
                go_wp2_with fail
                go_roundw
                case rel => exact ⟨j + 1, _, _, _, _, _, _, _, N2, by go_num, by omega, by omega, by omega, by omega, by omega, rfl, by omega, by omega, HQ6.out⟩
                case measure => simp [intOf]; omega
              · rw [hc'] at h5 ⊢
                have HQ5 : Hid (NS w5 B0 S T m K f l' ∧ MpB w5 g1 (fun k => GS.contains k) GS.length ∧ MpB w5 g2 sp n2 ∧ MpU w5 g3 ct n3 ∧ OwnT w5 B0 (.slice As GS.length cs) GS ∧ Below w.heap.size w w5) := Lib.hid (by
                  have hd := HG3.out.m
                  exact ⟨h5, HQ.out.m1.at (f5.map HQ.out.m1.isMap hd.1), HQ.out.m2.at (f5.map HQ.out.m2.isMap hd.2.1), HQ.out.m3.at (f5.map HQ.out.m3.isMap hd.2.2), f5.row HQ.out.ns HQ.out.ow (by decide), HQ.out.lo.trans (f5.low.mono HG3.out.b)⟩)
                have k1 := HQ5.out.2.2.1.look n (by omega)
                have k2 := HQ5.out.2.2.2.1.look n (by omega)
                have k3 := HQ5.out.2.1.look n (by omega)
                rw [q1] at k1
                rw [show GS.contains n = true by simpa using q3] at k3
                have d2 : decide (0 < ct n) = false := decide_eq_false q2
                have HQ4 := Lib.hid q4
                obtain ⟨D, hD, hI, hs⟩ := HQ5.out.2.2.1
                have HD := Lib.hid hD; have HI := Lib.hid hI; have HS := Lib.hid hs
                clear h5 f5 hc' q1 q2 q3 q4 hD hI hs
                go_wp2_with (at_mapUpdate; refine wpList_mapUpdate_in _ rfl (.tmp 119) (.tmp 120) (.const (.bool true)) tMB rfl 9 4 (Maps.string_keyed Try.underlying9) Try.underlying46 rdB g2 100000 D rfl HD.out (by unfold maxLen; omega) (strT n) (.bool true) (.string n) rfl rfl (keyS n (by omega)) _ [] rfl ?_; intro w6 hD6 hturn; have HD6 := Lib.hid hD6; have HG6 := Lib.hid hturn.grown; clear hD6 hturn)
                have hm6 := MpB.put ⟨D, HD.out, HD6.out, HI.out, HS.out⟩ (by omega)
                have HQ6 : Hid (WQ w B0 S T m K g1 g2 g3 f l' GS (upd sp n true) ct _ n3 N2 (.slice As GS.length cs) w6) := Lib.hid (by
                  obtain ⟨x1, x2, x3, x4, x5, x6⟩ := HQ5.out
                  have gg := HG3.out
                  have im : ∀ g, isMap w5 g → g ≠ g2 → w6.heap[g]? = w5.heap[g]? := fun g k1 k2 => HG6.out.block g k1.lt (fun e => k2 (Option.some.inj e))
                  exact ⟨HQ4.out, x1.turned HG6.out x3.isMap gg.m.2.1, x2.at (im _ x2.isMap gg.d.1), hm6, x4.at (im _ x4.isMap gg.d.2.2.symm), x5.kept HG6.out (row_nmap x5 x3.isMap), x6.grown HG6.out x6.size (fun k hk => by cases hk; exact gg.n.2.1)⟩)
                have hn6 : (if sp n = true then n2 else n2 + 1) ≤ j + 1 := by split <;> omega
                clear hm6
                go_wp2_with fail
                go_roundw
                case rel => exact ⟨j + 1, _, _, _, _, _, _, _, N2, by go_num, by omega, by omega, by omega, hn6, by omega, rfl, by omega, by omega, HQ6.out⟩
                case measure => simp [intOf]; omega
            · have b4 : (od % 10 == 4) = false := beq_eq_false_iff_ne.2 e4
              clear e4
              by_cases e5 : od % 10 = 5
              · have b5 : (od % 10 == 5) = true := beq_iff_eq.2 e5
                clear e5
                go_wp2_with fail
                refine (spend_ns HQ.out.ns n N2 (by omega) (by omega) (by omega) (HQ.out.oi.ok (by omega))).mono ?_
                rintro e w5 ⟨rfl, h5, f5⟩
                rcases HQ.out.oi.spend n N2 with ⟨c', hc', hne⟩ | ⟨l', hc', q1, q2, q3, q4⟩
                · rw [hc'] at h5 ⊢
                  have HQ6 := Lib.hid (HQ.out.op HG3.out.b HG3.out.m h5 f5 HQ.out.oi)
                  have hce : (c' == 0) = false := beq_eq_false_iff_ne.2 hne
                  clear h5 f5 hc' hne
                  go_wp2_with fail
                  go_roundw
                  case rel => exact ⟨j + 1, _, _, _, _, _, _, _, N2, by go_num, by omega, by omega, by omega, by omega, by omega, rfl, by omega, by omega, HQ6.out⟩
                  case measure => simp [intOf]; omega
                · rw [hc'] at h5 ⊢
                  have HQ5 : Hid (NS w5 B0 S T m K f l' ∧ MpB w5 g1 (fun k => GS.contains k) GS.length ∧ MpB w5 g2 sp n2 ∧ MpU w5 g3 ct n3 ∧ OwnT w5 B0 (.slice As GS.length cs) GS ∧ Below w.heap.size w w5) := Lib.hid (by
                    have hd := HG3.out.m
                    exact ⟨h5, HQ.out.m1.at (f5.map HQ.out.m1.isMap hd.1), HQ.out.m2.at (f5.map HQ.out.m2.isMap hd.2.1), HQ.out.m3.at (f5.map HQ.out.m3.isMap hd.2.2), f5.row HQ.out.ns HQ.out.ow (by decide), HQ.out.lo.trans (f5.low.mono HG3.out.b)⟩)
                  have k1 := HQ5.out.2.2.1.look n (by omega)
                  have k2 := HQ5.out.2.2.2.1.look n (by omega)
                  have k3 := HQ5.out.2.1.look n (by omega)
                  rw [q1] at k1
                  rw [show GS.contains n = true by simpa using q3] at k3
                  have d2 : decide (0 < ct n) = false := decide_eq_false q2
                  have HQ4 := Lib.hid q4
                  obtain ⟨D, hD, hI, hs⟩ := HQ5.out.2.2.1
                  have HD := Lib.hid hD; have HI := Lib.hid hI; have HS := Lib.hid hs
                  clear h5 f5 hc' q1 q2 q3 q4 hD hI hs
                  go_wp2_with (at_mapUpdate; refine wpList_mapUpdate_in _ rfl (.tmp 119) (.tmp 120) (.const (.bool true)) tMB rfl 9 4 (Maps.string_keyed Try.underlying9) Try.underlying46 rdB g2 100000 D rfl HD.out (by unfold maxLen; omega) (strT n) (.bool true) (.string n) rfl rfl (keyS n (by omega)) _ [] rfl ?_; intro w6 hD6 hturn; have HD6 := Lib.hid hD6; have HG6 := Lib.hid hturn.grown; clear hD6 hturn)
                  have hm6 := MpB.put ⟨D, HD.out, HD6.out, HI.out, HS.out⟩ (by omega)
                  have HQ6 : Hid (WQ w B0 S T m K g1 g2 g3 f l' GS (upd sp n true) ct _ n3 N2 (.slice As GS.length cs) w6) := Lib.hid (by
                    obtain ⟨x1, x2, x3, x4, x5, x6⟩ := HQ5.out
                    have gg := HG3.out
                    have im : ∀ g, isMap w5 g → g ≠ g2 → w6.heap[g]? = w5.heap[g]? := fun g k1 k2 => HG6.out.block g k1.lt (fun e => k2 (Option.some.inj e))
                    exact ⟨HQ4.out, x1.turned HG6.out x3.isMap gg.m.2.1, x2.at (im _ x2.isMap gg.d.1), hm6, x4.at (im _ x4.isMap gg.d.2.2.symm), x5.kept HG6.out (row_nmap x5 x3.isMap), x6.grown HG6.out x6.size (fun k hk => by cases hk; exact gg.n.2.1)⟩)
                  have hn6 : (if sp n = true then n2 else n2 + 1) ≤ j + 1 := by split <;> omega
                  clear hm6
                  go_wp2_with fail
                  go_roundw
                  case rel => exact ⟨j + 1, _, _, _, _, _, _, _, N2, by go_num, by omega, by omega, by omega, hn6, by omega, rfl, by omega, by omega, HQ6.out⟩
                  case measure => simp [intOf]; omega
              · have b5 : (od % 10 == 5) = false := beq_eq_false_iff_ne.2 e5
                clear e5
                by_cases e6 : od % 10 = 6
                · have b6 : (od % 10 == 6) = true := beq_iff_eq.2 e6
                  clear e6
                  go_wp2_with fail
                  refine (use_ns HQ.out.ns n oc N2 (by omega) (by omega) (by omega) oc0 (HQ.out.oi.ok (by omega))).mono ?_
                  rintro e w5 ⟨rfl, h5, f5⟩
                  rcases HQ.out.oi.use n oc N2 with ⟨c', hc', hne⟩ | ⟨l', hc', q1, q2, q3, q4⟩
                  · rw [hc'] at h5 ⊢
                    have HQ6 := Lib.hid (HQ.out.op HG3.out.b HG3.out.m h5 f5 HQ.out.oi)
                    have hce : (c' == 0) = false := beq_eq_false_iff_ne.2 hne
                    clear h5 f5 hc' hne
                    go_wp2_with fail
                    go_roundw
                    case rel => exact ⟨j + 1, _, _, _, _, _, _, _, N2, by go_num, by omega, by omega, by omega, by omega, by omega, rfl, by omega, by omega, HQ6.out⟩
                    case measure => simp [intOf]; omega
                  · rw [hc'] at h5 ⊢
                    have HQ5 : Hid (NS w5 B0 S T m K f l' ∧ MpB w5 g1 (fun k => GS.contains k) GS.length ∧ MpB w5 g2 sp n2 ∧ MpU w5 g3 ct n3 ∧ OwnT w5 B0 (.slice As GS.length cs) GS ∧ Below w.heap.size w w5) := Lib.hid (by
                      have hd := HG3.out.m
                      exact ⟨h5, HQ.out.m1.at (f5.map HQ.out.m1.isMap hd.1), HQ.out.m2.at (f5.map HQ.out.m2.isMap hd.2.1), HQ.out.m3.at (f5.map HQ.out.m3.isMap hd.2.2), f5.row HQ.out.ns HQ.out.ow (by decide), HQ.out.lo.trans (f5.low.mono HG3.out.b)⟩)
                    have pp4 : w5.cell? ⟨P, 4, none⟩ = some (.int .u32 oc) := BlkT.at (f5.kp P _ HP.out (Oth.cells (by decide)) (HP.out.nmap HQ.out.ns.mapM)) rfl
                    have k1 := HQ5.out.2.2.1.look n (by omega)
                    have k2 := HQ5.out.2.2.2.1.look n (by omega)
                    have k3 := HQ5.out.2.1.look n (by omega)
                    rw [q1] at k1
                    rw [show GS.contains n = true by simpa using q3] at k3
                    have d2 : decide (oc ≤ ct n) = false := decide_eq_false q2
                    have HQ4 := Lib.hid q4
                    obtain ⟨D, hD, hI, hs⟩ := HQ5.out.2.2.2.1
                    have HD := Lib.hid hD; have HI := Lib.hid hI; have HS := Lib.hid hs
                    clear h5 f5 hc' q1 q2 q3 q4 hD hI hs
                    go_wp2_with (at_mapUpdate; refine wpList_mapUpdate_in _ rfl (.tmp 148) (.tmp 149) (.tmp 151) tMU rfl 9 40 (Maps.string_keyed Try.underlying9) Try.underlying47 rdU g3 100000 D rfl HD.out (by unfold maxLen; omega) (strT n) (.int .u32 oc) (.string n) rfl rfl (keyS n (by omega)) _ [] rfl ?_; intro w6 hD6 hturn; have HD6 := Lib.hid hD6; have HG6 := Lib.hid hturn.grown; clear hD6 hturn)
                    have hm6 := MpU.put ⟨D, HD.out, HD6.out, HI.out, HS.out⟩ (by omega)
                    have HQ6 : Hid (WQ w B0 S T m K g1 g2 g3 f l' GS sp (upd ct n oc) n2 _ N2 (.slice As GS.length cs) w6) := Lib.hid (by
                      obtain ⟨x1, x2, x3, x4, x5, x6⟩ := HQ5.out
                      have gg := HG3.out
                      have im : ∀ g, isMap w5 g → g ≠ g3 → w6.heap[g]? = w5.heap[g]? := fun g k1 k2 => HG6.out.block g k1.lt (fun e => k2 (Option.some.inj e))
                      exact ⟨HQ4.out, x1.turned HG6.out x4.isMap gg.m.2.2, x2.at (im _ x2.isMap gg.d.2.1), x3.at (im _ x3.isMap gg.d.2.2), hm6, x5.kept HG6.out (row_nmap x5 x4.isMap), x6.grown HG6.out x6.size (fun k hk => by cases hk; exact gg.n.2.2)⟩)
                    clear hm6
                    go_wp2_with fail
                    go_roundw
                    case rel => exact ⟨j + 1, _, _, _, _, _, _, _, N2, by go_num, by omega, by omega, by omega, by omega, by omega, rfl, by omega, by omega, HQ6.out⟩
                    case measure => simp [intOf]; omega
                · have b6 : (od % 10 == 6) = false := beq_eq_false_iff_ne.2 e6
                  clear e6
                  by_cases e7 : od % 10 = 7
                  · have b7 : (od % 10 == 7) = true := beq_iff_eq.2 e7
                    clear e7
                    go_wp2_with fail
                    refine (use_ns HQ.out.ns n oc N2 (by omega) (by omega) (by omega) oc0 (HQ.out.oi.ok (by omega))).mono ?_
                    rintro e w5 ⟨rfl, h5, f5⟩
                    rcases HQ.out.oi.use n oc N2 with ⟨c', hc', hne⟩ | ⟨l', hc', q1, q2, q3, q4⟩
                    · rw [hc'] at h5 ⊢
                      have HQ6 := Lib.hid (HQ.out.op HG3.out.b HG3.out.m h5 f5 HQ.out.oi)
                      have hce : (c' == 0) = false := beq_eq_false_iff_ne.2 hne
                      clear h5 f5 hc' hne
                      go_wp2_with fail
                      go_roundw
                      case rel => exact ⟨j + 1, _, _, _, _, _, _, _, N2, by go_num, by omega, by omega, by omega, by omega, by omega, rfl, by omega, by omega, HQ6.out⟩
                      case measure => simp [intOf]; omega
                    · rw [hc'] at h5 ⊢
                      have HQ5 : Hid (NS w5 B0 S T m K f l' ∧ MpB w5 g1 (fun k => GS.contains k) GS.length ∧ MpB w5 g2 sp n2 ∧ MpU w5 g3 ct n3 ∧ OwnT w5 B0 (.slice As GS.length cs) GS ∧ Below w.heap.size w w5) := Lib.hid (by
                        have hd := HG3.out.m
                        exact ⟨h5, HQ.out.m1.at (f5.map HQ.out.m1.isMap hd.1), HQ.out.m2.at (f5.map HQ.out.m2.isMap hd.2.1), HQ.out.m3.at (f5.map HQ.out.m3.isMap hd.2.2), f5.row HQ.out.ns HQ.out.ow (by decide), HQ.out.lo.trans (f5.low.mono HG3.out.b)⟩)
                      have pp4 : w5.cell? ⟨P, 4, none⟩ = some (.int .u32 oc) := BlkT.at (f5.kp P _ HP.out (Oth.cells (by decide)) (HP.out.nmap HQ.out.ns.mapM)) rfl
                      have k1 := HQ5.out.2.2.1.look n (by omega)
                      have k2 := HQ5.out.2.2.2.1.look n (by omega)
                      have k3 := HQ5.out.2.1.look n (by omega)
                      rw [q1] at k1
                      rw [show GS.contains n = true by simpa using q3] at k3
                      have d2 : decide (oc ≤ ct n) = false := decide_eq_false q2
                      have HQ4 := Lib.hid q4
                      obtain ⟨D, hD, hI, hs⟩ := HQ5.out.2.2.2.1
                      have HD := Lib.hid hD; have HI := Lib.hid hI; have HS := Lib.hid hs
                      clear h5 f5 hc' q1 q2 q3 q4 hD hI hs
                      go_wp2_with (at_mapUpdate; refine wpList_mapUpdate_in _ rfl (.tmp 148) (.tmp 149) (.tmp 151) tMU rfl 9 40 (Maps.string_keyed Try.underlying9) Try.underlying47 rdU g3 100000 D rfl HD.out (by unfold maxLen; omega) (strT n) (.int .u32 oc) (.string n) rfl rfl (keyS n (by omega)) _ [] rfl ?_; intro w6 hD6 hturn; have HD6 := Lib.hid hD6; have HG6 := Lib.hid hturn.grown; clear hD6 hturn)
                      have hm6 := MpU.put ⟨D, HD.out, HD6.out, HI.out, HS.out⟩ (by omega)
                      have HQ6 : Hid (WQ w B0 S T m K g1 g2 g3 f l' GS sp (upd ct n oc) n2 _ N2 (.slice As GS.length cs) w6) := Lib.hid (by
                        obtain ⟨x1, x2, x3, x4, x5, x6⟩ := HQ5.out
                        have gg := HG3.out
                        have im : ∀ g, isMap w5 g → g ≠ g3 → w6.heap[g]? = w5.heap[g]? := fun g k1 k2 => HG6.out.block g k1.lt (fun e => k2 (Option.some.inj e))
                        exact ⟨HQ4.out, x1.turned HG6.out x4.isMap gg.m.2.2, x2.at (im _ x2.isMap gg.d.2.1), x3.at (im _ x3.isMap gg.d.2.2), hm6, x5.kept HG6.out (row_nmap x5 x4.isMap), x6.grown HG6.out x6.size (fun k hk => by cases hk; exact gg.n.2.2)⟩)
                      clear hm6
                      go_wp2_with fail
                      go_roundw
                      case rel => exact ⟨j + 1, _, _, _, _, _, _, _, N2, by go_num, by omega, by omega, by omega, by omega, by omega, rfl, by omega, by omega, HQ6.out⟩
                      case measure => simp [intOf]; omega
                  · have b7 : (od % 10 == 7) = false := beq_eq_false_iff_ne.2 e7
                    clear e7
                    by_cases e8 : od % 10 = 8
                    · have b8 : (od % 10 == 8) = true := beq_iff_eq.2 e8
                      clear e8
                      go_wp2_with fail
                      refine (sweep_ns HQ.out.ns N2 (by omega) (by omega) (HQ.out.oi.ok (by omega))).mono ?_
                      rintro e w5 ⟨rfl, h5, f5⟩
                      have HQ6 := Lib.hid (HQ.out.op HG3.out.b HG3.out.m h5 f5 (HQ.out.oi.sweep N2))
                      clear h5 f5
                      go_wp2_with fail
                      go_roundw
                      case rel => exact ⟨j + 1, _, _, _, _, _, _, _, N2, by go_num, by omega, by omega, by omega, by omega, by omega, rfl, by omega, by omega, HQ6.out⟩
                      case measure => simp [intOf]; omega
                    · have b8 : (od % 10 == 8) = false := beq_eq_false_iff_ne.2 e8
                      clear e8
                      go_wp2_with fail
                      refine (HCT.out W).mono ?_
                      rintro e W' ⟨rfl, hWW⟩
                      subst hWW
                      go_wp2_with fail
                      have hcnt := HQ.out.ns.tb.cnt.1
                      rcases HQ.out.oi.issue (K := K) (by omega) hcnt hK1 (by omega) n0 with ⟨c', hc', hne⟩ | ⟨nn, f', l', hc', q1, q2, q3⟩
                      · refine (issue_eq HQ.out.ns N2 hc' (by omega) (by omega) (by omega) (HQ.out.oi.ok (by omega)) hK1 (by rw [HQ.out.oi.se]; omega) (by rw [HQ.out.oi.se]; omega)).mono ?_
                        rintro e w5 ⟨rfl, h5, f5⟩
                        have HQ6 := Lib.hid (HQ.out.op HG3.out.b HG3.out.m h5 f5 HQ.out.oi)
                        have hce : (c' == 0) = false := beq_eq_false_iff_ne.2 hne
                        clear h5 f5 hc' hne
                        go_wp2_with fail
                        go_roundw
                        case rel => exact ⟨j + 1, _, _, _, _, _, _, _, N2, by go_num, by omega, by omega, by omega, by omega, by omega, rfl, by omega, by omega, HQ6.out⟩
                        case measure => simp [intOf]; omega
                      · refine (issue_eq HQ.out.ns N2 hc' (by omega) (by omega) (by omega) (HQ.out.oi.ok (by omega)) hK1 (by rw [HQ.out.oi.se]; omega) (by rw [HQ.out.oi.se]; omega)).mono ?_
                        rintro e w5 ⟨rfl, h5, f5⟩
                        have HQ5 : Hid (NS w5 B0 S T m K f' l' ∧ MpB w5 g1 (fun k => GS.contains k) GS.length ∧ MpB w5 g2 sp n2 ∧ MpU w5 g3 ct n3 ∧ OwnT w5 B0 (.slice As GS.length cs) GS ∧ Below w.heap.size w w5) := Lib.hid (by
                          have hd := HG3.out.m
                          exact ⟨h5, HQ.out.m1.at (f5.map HQ.out.m1.isMap hd.1), HQ.out.m2.at (f5.map HQ.out.m2.isMap hd.2.1), HQ.out.m3.at (f5.map HQ.out.m3.isMap hd.2.2), f5.row HQ.out.ns HQ.out.ow (by decide), HQ.out.lo.trans (f5.low.mono HG3.out.b)⟩)
                        have k3 := HQ5.out.2.1.look nn (by omega)
                        rw [show GS.contains nn = false by simpa using q1] at k3
                        have HQ4 := Lib.hid q3
                        have HNC : Hid (GS.contains nn = false) := Lib.hid (by simpa using q1)
                        obtain ⟨D, hD, hI, hs⟩ := HQ5.out.2.1
                        have HD := Lib.hid hD; have HI := Lib.hid hI; have HS := Lib.hid hs
                        clear h5 f5 hc' q1 q3 hD hI hs hcnt
                        have HGL : Hid (GS.length ≤ 1000000) := Lib.hid (by omega)
                        have HG60 : Hid (GS.length ≤ 60) := Lib.hid (by omega)
                        have hlg : (GS ++ [nn]).length ≤ j + 1 := by rw [List.length_append]; simp; omega
                        have HLG := Lib.hid hlg
                        clear hlg
                        go_wp2_with (first
                          | (at_mapUpdate; refine wpList_mapUpdate_in _ rfl (.tmp 90) (.tmp 91) (.const (.bool true)) tMB rfl 9 4 (Maps.string_keyed Try.underlying9) Try.underlying46 rdB g1 100000 D rfl HD.out (by unfold maxLen; omega) (strT nn) (.bool true) (.string nn) rfl rfl (keyS nn (by omega)) _ [] rfl ?_; intro w6 hD6 hturn; have HAP := Lib.hid (issued HG3.out HQ5.out HD.out HI.out HS.out HG60.out HNC.out HQ4.out hD6 hturn.grown); clear hD6 hturn k3)
                          | (at_builtin; go_must ((with_reducible refine wpList_appT ?g1 (.tmp 92) (.tmp 94) ?g2 B0 (.slice As GS.length cs) GS nn ?g3 ?g4 w6.heap.size 1 ?g5 ?g6 ?g7 ?g8 ?_); (case g1 => rfl); (case g2 => rfl); (case g3 => rfl); (case g4 => exact HAP.out.1); (case g5 => rfl); (case g6 => exact HAP.out.2.1); (case g7 => exact HGL.out); (case g8 => exact HAP.out.2.2.1); intro v' w7 hv hg; have HQ6 := Lib.hid (HAP.out.2.2.2 v' w7 hv hg); clear hv hg)))
                        go_roundw
                        case rel => exact ⟨j + 1, _, _, _, _, _, _, _, N2, by go_num, by omega, by omega, HLG.out, by omega, by omega, rfl, by omega, by omega, HQ6.out⟩
                        case measure => simp [intOf]; omega
      · have HQ := Lib.hid (HWQ.out.keep HBW.out)
        clear HBW HP HWQ
        go_wp2_with fail
        rw [← hW]
        clear hW
        refine (serial_any HQ.out.ns).mono ?_
        rintro e w5 ⟨rfl, hw5⟩
        subst hw5
        have hln := HQ.out.m1.len 3
        have hse := HQ.out.oi.se
        have HSE := Lib.hid hse
        clear hse
        rw [HSE.out]
        go_wp2_with fail
        go_ret
        exact ⟨by first | rfl | simp, HQ.out.lo⟩
    · obtain rfl : j = ls.length := by omega
      go_wp2_with fail
      refine (serial_any HWQ.out.ns).mono ?_
      rintro e w5 ⟨rfl, hw5⟩
      subst hw5
      have hln := HWQ.out.m1.len 3
      have hse := HWQ.out.oi.se
      have HSE := Lib.hid hse
      clear hse
      rw [HSE.out]
      go_wp2_with fail
      go_ret
      exact ⟨by first | rfl | simp, HWQ.out.lo⟩
end Go.Proofs.Ythpgdojjecdlcaa
