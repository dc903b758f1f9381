/- (*sha.Hash).Write, where a block is filled. -/
import Derived.Test.YteadncmhcbdicaaDoorWriteE
namespace Go.Proofs.YteadncmhcbdicaaDoor
open Go.RowKit Go.Shelf
attribute [local go_sem] un_mod64
/-- The rest of a slice, behind its first k bytes: where it lies. -/
def restAt (po pcap k : Nat) : Nat := if pcap = k then po else po + k
theorem run_rest (pb po plen pcap k : Nat) (hk : k ≤ plen) (W : World) : (Instr.sliceAt 26 (.slice (some ⟨pb, po, none⟩) plen pcap) (some (.int .i64 (k : Int))) none none).run Tryd.prog W = .ok (.slice (some ⟨pb, restAt po pcap k, none⟩) (plen - k) (pcap - k)) W := by
  have h1 : (k : Int) ≤ (plen : Int) := by omega
  by_cases h : pcap = k
  · simp [go_sem, h1, restAt, h]
  · simp [go_sem, h1, restAt, h]
theorem restAt_ne (po pcap k : Nat) (h : pcap ≠ k) : restAt po pcap k = po + k := by unfold restAt; rw [if_neg h]
attribute [irreducible] restAt
attribute [local go_sem] Oper.semAt_some
/-- What holds while Write goes on behind the first block: W is the world. -/
structure WInv (w : World) (hb : Nat) (s : St) (t : List UInt8) (n pb po : Nat) (p : List UInt8) (W : World) : Prop where
  blk : Blk W hb (hcells s t n)
  len : t.length = 64
  bytes : Bs W pb po p
  box : W.cell? ⟨w.heap.size, 0, none⟩ = some (.pointer (some ⟨hb, 0, none⟩))
  grown : w.grownBy W (some hb)
  size : w.heap.size < W.heap.size
  tab : TabA W
theorem WInv.kept {w : World} {hb : Nat} {s : St} {t : List UInt8} {n pb po : Nat} {p : List UInt8} {A B : World} (h : WInv w hb s t n pb po p A) (hg : A.grownBy B none) (hg' : A.grownBy B (some hb)) : WInv w hb s t n pb po p B :=
  ⟨h.blk.grown hg (by simp), h.len, h.bytes.grown hg (by simp), hg.cell h.box (by simp), h.grown.trans hg', Nat.lt_of_lt_of_le h.size hg.size, fun j hj => hg.cell (h.tab j hj) (by simp)⟩
theorem WInv.keptFrom {w : World} {hb : Nat} {s : St} {t : List UInt8} {n pb po : Nat} {p : List UInt8} {A B : World} {row : Option Nat} {X : Nat} (h : WInv w hb s t n pb po p A) (hg : A.grownBy B row) (hr : ∀ r, row = some r → X ≤ r) (hX : w.heap.size < X) (h1 : hb < w.heap.size) (h2 : pb < w.heap.size) (h3 : 0 < w.heap.size) : WInv w hb s t n pb po p B := by
  have hne : ∀ b, b ≤ w.heap.size → some b ≠ row := fun b hb e => by have := hr b e.symm; omega
  exact ⟨h.blk.grown hg (hne _ (by omega)), h.len, h.bytes.grown hg (hne _ (by omega)), hg.cell h.box (hne _ (Nat.le_refl _)), ⟨hg.os.trans h.grown.os, hg.tape.trans h.grown.tape, hg.output.trans h.grown.output, Nat.le_trans h.grown.size hg.size, fun k hk hkb => (hg.block k (Nat.lt_of_lt_of_le hk h.grown.size) (hne k (by omega))).trans (h.grown.block k hk hkb)⟩, Nat.lt_of_lt_of_le h.size hg.size, fun j hj => hg.cell (h.tab j hj) (hne 0 (by omega))⟩
theorem tab_lt {W : World} (h : TabA W) : 0 < W.heap.size := World.block_lt_of_cell? W _ (h 0 (by decide))
theorem cells_one (s : St) : ∀ v ∈ s.cells, v.oneCell' = true := by
  intro v hv
  have : v ∈ s.list.map vw := hv
  rw [List.mem_map] at this; obtain ⟨x, _, rfl⟩ := this; rfl
theorem blk_below {W w2 : World} {hb : Nat} {cs : List Value} (h : Blk W hb cs) (hb' : hb < W.heap.size) (hw : Below W.drew.heap.size W.drew w2) : Blk w2 hb cs := h.drew.below hw hb'
theorem WInv.step {w : World} {hb : Nat} {s : St} {t : List UInt8} {n pb po : Nat} {p : List UInt8} {W w2 : World} (h : WInv w hb s t n pb po p W) (hb2 : Below W.drew.heap.size W.drew w2) (s' : St) (hne : pb ≠ hb) (hbl : hb < w.heap.size) (hG : 0 ≠ hb) :
    WInv w hb s' t n pb po p (w2.setCells hb 0 s'.cells) ∧ W.grownBy (w2.setCells hb 0 s'.cells) (some hb) := by
  have hg : W.grownBy w2 (some hb) := by have hq := grown_of_below hb2 (some hb); exact ⟨hq.os, hq.tape, hq.output, hq.size, hq.block⟩
  have hgg := hg.trans (grown_setCells hb s'.cells w2 0)
  have hk2 : Blk w2 hb (hcells s t n) := blk_below h.blk h.blk.lt hb2
  exact ⟨⟨hk2.setState h.len _, h.len, h.bytes.grown hgg (by simp [hne]), hgg.cell h.box (by show some w.heap.size ≠ some hb; simp; omega), h.grown.trans hgg, Nat.lt_of_lt_of_le h.size hgg.size, fun j hj => hgg.cell (h.tab j hj) (by simp [hG])⟩, hgg⟩
theorem grown_new {w A B : World} {r row : Option Nat} (h : w.grownBy A r) (hg : A.grownBy B row) (hr : ∀ x, row = some x → w.heap.size ≤ x) : w.grownBy B r :=
  ⟨hg.os.trans h.os, hg.tape.trans h.tape, hg.output.trans h.output, Nat.le_trans h.size hg.size, fun k hk hkb => (hg.block k (Nat.lt_of_lt_of_le hk h.size) (fun e => by have := hr k e.symm; omega)).trans (h.block k hk hkb)⟩
theorem fold_sub {m : Nat} (s : St) (p : List UInt8) (k : Nat) (ys : List (Bn m)) (h : ys.map (·.1) = List.range (m / 64)) (hm : (p.drop k).length = m) :
    ys.foldl (fun s x => compress s ((p.drop (k + 64 * x.1)).take 64)) s = stOf s (p.drop k) := by
  have := fold_runN s p k (ys.map (·.1)) (m / 64) h
  rw [List.foldl_map] at this
  rw [this]; unfold stOf; rw [hm]
set_option maxRecDepth 100000 in
set_option maxHeartbeats 1000000 in
theorem write_full (hb : Nat) (s : St) (t : List UInt8) (n pb po pcap : Nat) (p : List UInt8) (w : World) (h : WIn w hb s t n pb po pcap p) (hT : TabA w) (hG : 0 ≠ hb) (hge : 64 ≤ n % 64 + p.length) :
    Calls Tryd.prog 25 #[.pointer (some ⟨hb, 0, none⟩), .slice (some ⟨pb, po, none⟩) p.length pcap] w fun e w' => e = .returned (.int .i64 p.length) ∧ w.grownBy w' (some hb) ∧
      ∃ t', t'.take ((n % 64 + p.length) % 64) = restOf (t.take (n % 64) ++ p) ∧ HashIs w' hb (stOf s (t.take (n % 64) ++ p)) t' (n + p.length) := by
  have hbl := h.hash.blk.lt
  have h0 := (un_range n).1
  have hadd := un_add n p.length
  obtain ⟨hc1, hc2⟩ : p.length ≤ 4611686018427387904 ∧ (0 : Int) ≤ (p.length : Int) := ⟨h.len2, by omega⟩
  obtain ⟨r, hrr⟩ : ∃ r, r = n % 64 := ⟨_, rfl⟩
  have hmod : un n % (64 : Int) = (r : Int) := by rw [hrr]; exact un_mod64 n
  have hr64 : r < 64 := by rw [hrr]; exact Nat.mod_lt _ (by decide)
  rw [← hrr] at hge ⊢
  obtain ⟨c1, f1⟩ : w.cell? ⟨hb, 72, none⟩ = some (.int .u64 (un n)) ∧ w.frozen? ⟨hb, 72, none⟩ = false := ⟨h.hash.blk.at (hcells_total s t n h.hash.len), h.hash.blk.free _⟩
  obtain ⟨r1, r2, r3⟩ : (0 : Int) ≤ (r : Int) ∧ (r : Int) ≤ 64 ∧ (r : Int) + ((64 - r : Nat) : Int) = 64 := ⟨by omega, by omega, by omega⟩
  clear hrr
  have H := Lib.hid h; clear h
  have HT := Lib.hid hT; clear hT
  obtain ⟨HK, HB⟩ : Hid (Blk ((w.setCell ⟨hb, 72, none⟩ (.int .u64 (un (n + p.length)))).alloc (.cells #[.pointer (some ⟨hb, 0, none⟩)] 53)) hb (hcells s t (n + p.length))) ∧
      Hid (Bs ((w.setCell ⟨hb, 72, none⟩ (.int .u64 (un (n + p.length)))).alloc (.cells #[.pointer (some ⟨hb, 0, none⟩)] 53)) pb po p) :=
    ⟨by have := (H.out.hash.blk.set 72 (.int .u64 (un (n + p.length)))).alloc (.cells #[.pointer (some ⟨hb, 0, none⟩)] 53); rw [hcells_setTotal _ _ _ _ H.out.hash.len] at this; exact this,
     (H.out.bytes.grown (grown_set w ⟨hb, 72, none⟩ _) (by show some pb ≠ some hb; simp [H.out.ne])).grown (World.grownBy_alloc _ _ none) (by simp)⟩
  have HL := Lib.hid (show ((p.take (64 - r)).map vb).length = 64 - r by rw [List.length_map, List.length_take]; omega)
  refine (callsIn_wide (n := 6)).1 ?_
  refine callsIn_of_wp_marks Tryd.func25 rfl trivial ?_ rfl
  simp only [Tryd.ntmps25, List.size_toArray, List.length_cons, List.length_nil, Nat.reduceAdd, Nat.reduceSub, Array.replicate_succ, Array.replicate_zero, List.push_toArray, List.append_toArray, List.nil_append, List.cons_append]
  refine wpIn_wide.2 ?_
  go_wp2_with ((with_reducible refine wpList_copy_to ?g1 (.tmp 31) (.tmp 32) 26 26 ?g2 5 Tryd.underlying26 info_b1 (some ⟨hb, 8 + r, none⟩) (some ⟨pb, po, none⟩) (64 - r) (64 - r) p.length pcap ?g3 ?g4 hb (8 + r) ((p.take (64 - r)).map vb) ?g5 ?g6 ?g7 (oneCell_bytes _) ?_); (case g1 => rfl); (case g2 => rfl); (case g3 => rfl); (case g4 => rfl); (case g5 => rw [HL.out]; exact (Nat.min_eq_right (by omega)).symm); (case g6 => exact fun _ => ⟨rfl, pb, po, rfl, (HB.out.take _).rangeAt⟩); (case g7 => exact HK.out.there _ _ (by rw [HL.out, hcells_length _ _ _ H.out.hash.len]; omega)); rw [HL.out])
  generalize hW : World.setCells _ _ _ _ = W
  have hI : WInv w hb s (over t r (p.take (64 - r))) (n + p.length) pb po p W := by
    rw [← hW]
    have hg : w.grownBy ((w.setCell ⟨hb, 72, none⟩ (.int .u64 (un (n + p.length)))).alloc (.cells #[.pointer (some ⟨hb, 0, none⟩)] 53)) (some hb) := (grown_set w ⟨hb, 72, none⟩ _).trans (World.grownBy_alloc _ _ _)
    have hg2 := grown_setCells hb ((p.take (64 - r)).map vb) ((w.setCell ⟨hb, 72, none⟩ (.int .u64 (un (n + p.length)))).alloc (.cells #[.pointer (some ⟨hb, 0, none⟩)] 53)) (8 + r)
    rw [← List.map_take]
    refine ⟨?_, ?_, HB.out.grown hg2 (by simp [H.out.ne]), ?_, hg.trans hg2, Nat.lt_of_lt_of_le (by simp) hg2.size, fun j hj => (hg.trans hg2).cell (HT.out j hj) (by simp [hG])⟩
    · have := HK.out.setCells (vs := (p.take (64 - r)).map vb) (8 + r) (by rw [HL.out, hcells_length _ _ _ H.out.hash.len]; omega)
      rw [hcells_setTail _ _ _ _ _ H.out.hash.len (by rw [List.length_take]; omega)] at this
      exact this
    · rw [over_length _ _ _ (by rw [H.out.hash.len, List.length_take]; omega), H.out.hash.len]
    · exact hg2.cell ((Blk.newAt (w.setCell ⟨hb, 72, none⟩ (.int .u64 (un (n + p.length)))) _ _ (by simp) rfl).at rfl) (by simp; omega)
  clear hW HK HB
  obtain ⟨W, rfl⟩ : ∃ W' : World, W' = W := ⟨_, rfl⟩
  obtain ⟨T1, hT1⟩ : ∃ T1, T1 = over t r (p.take (64 - r)) := ⟨_, rfl⟩
  rw [← hT1] at hI
  have HT1 := Lib.hid hT1; clear hT1
  have HI := Lib.hid hI
  have HK8 := Lib.hid hI.blk
  obtain ⟨b0, d0, d1, d2, d3, d4, d5, d6, d7, z0, z1, z2, z3, z4, z5, z6, z7⟩ : W.cell? ⟨w.heap.size, 0, none⟩ = some (.pointer (some ⟨hb, 0, none⟩)) ∧ W.cell? ⟨hb, 0, none⟩ = some (vw s.a) ∧ W.cell? ⟨hb, 1, none⟩ = some (vw s.b) ∧ W.cell? ⟨hb, 2, none⟩ = some (vw s.c) ∧ W.cell? ⟨hb, 3, none⟩ = some (vw s.d) ∧ W.cell? ⟨hb, 4, none⟩ = some (vw s.e) ∧ W.cell? ⟨hb, 5, none⟩ = some (vw s.f) ∧ W.cell? ⟨hb, 6, none⟩ = some (vw s.g) ∧ W.cell? ⟨hb, 7, none⟩ = some (vw s.h) ∧ W.frozen? ⟨hb, 0, none⟩ = false ∧ W.frozen? ⟨hb, 1, none⟩ = false ∧ W.frozen? ⟨hb, 2, none⟩ = false ∧ W.frozen? ⟨hb, 3, none⟩ = false ∧ W.frozen? ⟨hb, 4, none⟩ = false ∧ W.frozen? ⟨hb, 5, none⟩ = false ∧ W.frozen? ⟨hb, 6, none⟩ = false ∧ W.frozen? ⟨hb, 7, none⟩ = false := ⟨hI.box, hI.blk.cells8⟩
  obtain ⟨mT, mb, mB, mG, mz⟩ : Hid (TabA W) ∧ Hid (hb < W.heap.size) ∧ Hid (Bs W hb 8 T1) ∧ Hid (0 < W.heap.size) ∧ Hid (w.heap.size < W.heap.size) := ⟨hI.tab, hI.blk.lt, hI.blk.tail hI.len, tab_lt hI.tab, hI.size⟩
  clear hI
  refine wp_region_noPanic ?_
  refine wp_region_held (S := fun w' => w'.cell? ⟨w.heap.size, 0, none⟩ = some (.pointer (some ⟨hb, 0, none⟩))) (by kernel_rfl) ?_
  change wpAnyH _ _ _ _ _ _ _ _ W.drew
  have hS0 : W.drew.cell? ⟨w.heap.size, 0, none⟩ = some (.pointer (some ⟨hb, 0, none⟩)) := b0
  refine takeH 0 40 (Value.pointer (some ⟨hb, 0, none⟩)) rfl rfl (by kernel_rfl) (by kernel_rfl) (by kernel_rfl) (fun _ _ _ h => h) rfl (fun w' hS => by go_simp) hS0 ?_
  go_frame
  refine takeH 1 41 (Value.pointer (some ⟨hb, 0, none⟩)) rfl rfl (by kernel_rfl) (by kernel_rfl) (by kernel_rfl) (fun _ _ _ h => h) rfl (fun w' hS => by go_simp) hS0 ?_
  go_frame
  refine takeH 2 42 (Value.pointer (some ⟨hb, 0, none⟩)) rfl rfl (by kernel_rfl) (by kernel_rfl) (by kernel_rfl) (fun _ _ _ h => h) rfl (fun w' hS => by go_simp) hS0 ?_
  go_frame
  refine takeH 3 43 (Value.pointer (some ⟨hb, 0, none⟩)) rfl rfl (by kernel_rfl) (by kernel_rfl) (by kernel_rfl) (fun _ _ _ h => h) rfl (fun w' hS => by go_simp) hS0 ?_
  go_frame
  refine takeH 5 45 (Value.pointer (some ⟨hb, 0, none⟩)) rfl rfl (by kernel_rfl) (by kernel_rfl) (by kernel_rfl) (fun _ _ _ h => h) rfl (fun w' hS => by go_simp) hS0 ?_
  go_frame
  refine takeH 6 46 (Value.pointer (some ⟨hb, 0, none⟩)) rfl rfl (by kernel_rfl) (by kernel_rfl) (by kernel_rfl) (fun _ _ _ h => h) rfl (fun w' hS => by go_simp) hS0 ?_
  go_frame
  refine takeH 7 47 (Value.pointer (some ⟨hb, 8, none⟩)) rfl rfl (by kernel_rfl) (by kernel_rfl) (by kernel_rfl) (fun _ _ _ h => h) rfl (fun w' hS => by go_simp) hS0 ?_
  go_frame
  refine takeH 8 48 (Value.slice (some ⟨hb, 8, none⟩) 64 64) rfl rfl (by kernel_rfl) (by kernel_rfl) (by kernel_rfl) (fun _ _ _ h => h) rfl (fun w' hS => by go_simp) hS0 ?_
  go_frame
  refine wpAnyH_all (rs := [4]) (by kernel_rfl) (by simp) ?_
  simp only [List.mem_singleton, forall_eq]
  refine wpOp_valueD 44 rfl rfl rfl (.agg #[vw s.a, vw s.b, vw s.c, vw s.d, vw s.e, vw s.f, vw s.g, vw s.h]) (by go_simp) ⟨hS0, ?_⟩
  go_frame
  refine wpAnyH_all (rs := [9]) (by kernel_rfl) (by simp) ?_
  simp only [List.mem_singleton, forall_eq]
  refine wpOp_callD 49 rfl rfl rfl 34 #[.agg s.cells.toArray, .slice (some ⟨hb, 8, none⟩) 64 64] (by go_simp) ?_
  refine (mix_any s hb 8 64 T1 W.drew mT.out mG.out HI.out.len mb.out mB.out (by decide) (by decide)).mono ?_
  rintro e w2 ⟨rfl, hb2⟩
  have hk2 : Blk w2 hb (hcells s T1 (n + p.length)) := blk_below HK8.out mb.out hb2
  have hS2 : w2.cell? ⟨w.heap.size, 0, none⟩ = some (.pointer (some ⟨hb, 0, none⟩)) := (hb2.cell (p := ⟨w.heap.size, 0, none⟩) mz.out).trans b0
  refine ⟨_, rfl, hS2, ?_⟩
  go_frame
  refine takeH 10 50 (Value.pointer (some ⟨hb, 0, none⟩)) rfl rfl (by kernel_rfl) (by kernel_rfl) (by kernel_rfl) (fun _ _ _ h => h) rfl (fun w' hS => by go_simp) hS2 ?_
  go_frame
  refine takeH 11 51 (Value.pointer (some ⟨hb, 0, none⟩)) rfl rfl (by kernel_rfl) (by kernel_rfl) (by kernel_rfl) (fun _ _ _ h => h) rfl (fun w' hS => by go_simp) hS2 ?_
  go_frame
  refine wpAnyH_all (rs := [12]) (by kernel_rfl) (by simp) ?_
  simp only [List.mem_singleton, forall_eq]
  refine wpOp_storeN rfl rfl rfl 57 (.tmp 51) (.tmp 49) rfl hb 0 (compress s T1).cells.toArray rfl rfl (hk2.there 0 8 (by rw [hcells_length _ _ _ HI.out.len]; decide)) info_w8 (cells_oneCell _) ⟨?_, wpAnyH_done (by kernel_rfl) ?_ _⟩
  · exact (grown_setCells hb _ w2 0).cell hS2 (by show some w.heap.size ≠ some hb; simp; omega)
  refine NoPanic.normal ?_
  generalize hW2 : World.setCells _ _ _ _ = W2
  have hI2 : WInv w hb (compress s T1) T1 (n + p.length) pb po p W2 := by
    rw [← hW2]
    have hg : W.grownBy w2 (some hb) := by have hq := grown_of_below hb2 (some hb); exact ⟨hq.os, hq.tape, hq.output, hq.size, hq.block⟩
    have hg2 := grown_setCells hb (compress s T1).cells w2 0
    have hgg := hg.trans hg2
    exact ⟨hk2.setState HI.out.len _, HI.out.len, HI.out.bytes.grown hgg (by simp [H.out.ne]), hgg.cell HI.out.box (by show some w.heap.size ≠ some hb; simp; omega), HI.out.grown.trans hgg, Nat.lt_of_lt_of_le HI.out.size hgg.size, fun j hj => hgg.cell (HI.out.tab j hj) (by simp [hG])⟩
  clear hW2 hk2 hS2 hb2 hS0 HK8 HI b0 d0 d1 d2 d3 d4 d5 d6 d7 z0 z1 z2 z3 z4 z5 z6 z7 mT mb mB mG mz
  obtain ⟨W2, rfl⟩ : ∃ W' : World, W' = W2 := ⟨_, rfl⟩
  have HI := Lib.hid hI2; clear hI2
  have hrest := run_rest pb po p.length pcap (64 - r) (by omega)
  go_wp2_with fail
  refine ((callsIn_wide (n := 1)).1 (whole_in Fence.wide 1 trivial rfl _ _ _ _)).mono ?_
  rintro e w3 ⟨rfl, rfl⟩
  go_wp2_with fail
  have hcap' : pcap ≤ 9223372036854775807 := H.out.cap2
  have hlen' : p.length ≤ pcap := H.out.cap
  obtain ⟨W3, hW3e⟩ : ∃ W3 : World, W3 = W2.alloc (.cells #[.slice (some ⟨pb, restAt po pcap (64 - r), none⟩) (p.length - (64 - r)) (pcap - (64 - r))] 26) := ⟨_, rfl⟩
  obtain ⟨hsz3, hbox3⟩ : W3.heap.size = W2.heap.size + 1 ∧ W3.cell? ⟨W2.heap.size, 0, none⟩ = some (.slice (some ⟨pb, restAt po pcap (64 - r), none⟩) (p.length - (64 - r)) (pcap - (64 - r))) := by
    subst hW3e
    have hn := World.alloc_heap_new W2 (.cells #[.slice (some ⟨pb, restAt po pcap (64 - r), none⟩) (p.length - (64 - r)) (pcap - (64 - r))] 26)
    exact ⟨by simp, by simp only [World.cell?]; rw [hn]; rfl⟩
  have HI3 : Hid (WInv w hb (compress s T1) T1 (n + p.length) pb po p W3) := Lib.hid (by
    subst hW3e
    exact HI.out.kept (World.grownBy_alloc W2 _ none) (World.grownBy_alloc W2 _ (some hb)))
  rw [← hW3e]; clear hW3e
  refine (wpIn_wide (n := 6)).1 ?_
  refine wpIn_rangeFunc_ownG rfl (by decide) (gf := 48) (lb := #[.pointer (some ⟨W2.heap.size, 0, none⟩)]) rfl trivial (enters_of Tryd.func48 (by kernel_rfl) rfl)
    (whole_stops Fence.wide 5 trivial rfl (by decide) W2.heap.size pb (restAt po pcap (64 - r)) (p.length - (64 - r)) (pcap - (64 - r)) (by omega) ⟨by omega, by omega⟩ W3 (by omega) hbox3) keepBox_t (keepBox_b (by omega)) (Below.refl _ _) (fun _ => rfl)
    (fun pre W => WInv w hb (pre.foldl (fun s x => compress s ((p.drop (64 - r + 64 * x.1)).take 64)) (compress s T1)) T1 (n + p.length) pb po p W ∧ W3.heap.size ≤ W.heap.size)
    (fun _ _ _ => False) ?own (fun _ _ _ _ _ hs _ _ => hs) ⟨HI3.out, Nat.le_refl _⟩
    (fun x => { tmps := #[.pointer (some ⟨hb, 0, none⟩), .slice (some ⟨pb, po, none⟩) p.length pcap, .pointer (some ⟨w.heap.size, 0, none⟩), undef, .int .i64 0, .int .i64 (r : Int), .int .i64 ((64 - r : Nat) : Int), .slice (some ⟨pb, restAt po pcap (64 - r), none⟩) (p.length - (64 - r)) (pcap - (64 - r)), blk pb (restAt po pcap (64 - r)) x.1, .pointer (some ⟨hb, 0, none⟩), .bool false, .pointer (some ⟨hb, 0, none⟩), .pointer (some ⟨hb, 0, none⟩), .pointer (some ⟨hb, 72, none⟩), .int .u64 (un n), .int .u64 (r : Int), .int .i64 (r : Int), .pointer (some ⟨hb, 0, none⟩), .pointer (some ⟨hb, 0, none⟩), .pointer (some ⟨hb, 72, none⟩), .int .u64 (un n), .slice (some ⟨pb, po, none⟩) p.length pcap, .int .i64 (p.length : Int), .int .u64 (p.length : Int), .int .u64 (un (n + p.length)), .pointer (some ⟨hb, 0, none⟩), .pointer (some ⟨hb, 72, none⟩), .pointer (some ⟨hb, 0, none⟩), .pointer (some ⟨hb, 0, none⟩), .pointer (some ⟨hb, 8, none⟩), .int .i64 (r : Int), .slice (some ⟨hb, 8 + r, none⟩) (64 - r) (64 - r), .slice (some ⟨pb, po, none⟩) p.length pcap, .int .i64 ((64 - r : Nat) : Int), .int .i64 (r : Int), .int .i64 ((64 - r : Nat) : Int), .int .i64 64, .bool false, undef, undef, .pointer (some ⟨hb, 0, none⟩), .pointer (some ⟨hb, 0, none⟩), .pointer (some ⟨hb, 0, none⟩), .pointer (some ⟨hb, 0, none⟩), .agg #[vw s.a, vw s.b, vw s.c, vw s.d, vw s.e, vw s.f, vw s.g, vw s.h], .pointer (some ⟨hb, 0, none⟩), .pointer (some ⟨hb, 0, none⟩), .pointer (some ⟨hb, 8, none⟩), .slice (some ⟨hb, 8, none⟩) 64 64, .agg (compress s T1).cells.toArray, .pointer (some ⟨hb, 0, none⟩), .pointer (some ⟨hb, 0, none⟩), .slice (some ⟨pb, po, none⟩) p.length pcap, .int .i64 ((64 - r : Nat) : Int), .slice (some ⟨pb, restAt po pcap (64 - r), none⟩) (p.length - (64 - r)) (pcap - (64 - r)), .slice (some ⟨pb, restAt po pcap (64 - r), none⟩) (p.length - (64 - r)) (pcap - (64 - r)), .func (.func 48) #[] #[.pointer (some ⟨W2.heap.size, 0, none⟩)], blk pb (restAt po pcap (64 - r)) x.1, undef, undef, undef, undef, undef, undef, undef, undef, undef, undef, undef, undef, undef, undef, undef, undef, undef, undef, undef, undef, undef, undef, undef, undef], defers := [] }) ?assign ?body ?done ?stop
  case own => exact fun pre A B row hs hg hr => ⟨hs.1.keptFrom hg (fun r e => (hr r e).1) (by have := HI3.out.size; omega) hbl H.out.lt (tab_lt HT.out), Nat.le_trans hs.2 hg.size⟩
  case assign =>
    intro l x W K hK
    gi_wp2
    unfold blk at hK ⊢
    exact hK
  case stop =>
    rintro D c pre W _ _ h _
    exact h.elim
  case body =>
    rintro l pre x W4 ⟨hI4, hz4⟩ hlt
    obtain ⟨s4, hs4⟩ : ∃ s4, s4 = pre.foldl (fun s x => compress s ((p.drop (64 - r + 64 * x.1)).take 64)) (compress s T1) := ⟨_, rfl⟩
    rw [← hs4] at hI4
    have HS4 := Lib.hid hs4; clear hs4
    have HI4 := Lib.hid hI4; clear hI4
    have hx := x.2
    obtain ⟨q8, hq8⟩ : ∃ q, q = (p.drop (64 - r + 64 * x.1)).take 64 := ⟨_, rfl⟩
    obtain ⟨mT, mP, mB, mG, mb, mn⟩ : Hid (TabA W4) ∧ Hid (q8.length = 64) ∧ Hid (Bs W4 pb (restAt po pcap (64 - r) + 64 * x.1) q8) ∧ Hid (0 < W4.heap.size) ∧ Hid (pb < W4.heap.size) ∧ Hid (w.heap.size < W4.heap.size) :=
      ⟨HI4.out.tab, Lib.hid (by rw [hq8, List.length_take, List.length_drop]; omega), Lib.hid (by rw [hq8, restAt_ne _ _ _ (by omega), Nat.add_assoc]; exact (HI4.out.bytes.drop _).take _), tab_lt HI4.out.tab, Lib.hid (Nat.lt_of_lt_of_le H.out.lt HI4.out.grown.size), HI4.out.size⟩
    have HQ := Lib.hid hq8; clear hq8
    obtain ⟨d0, d1, d2, d3, d4, d5, d6, d7, z0, z1, z2, z3, z4, z5, z6, z7⟩ := HI4.out.blk.cells8
    obtain ⟨b4, e1, e2⟩ : W4.cell? ⟨w.heap.size, 0, none⟩ = some (.pointer (some ⟨hb, 0, none⟩)) ∧ 1 ≤ 4 ∧ Tryd.prog.follows .mixedOrders = true := ⟨HI4.out.box, by decide, by kernel_rfl⟩
    unfold blk
    gi_wp2
    refine wpIn_region_held_round (S := fun w' => w'.cell? ⟨w.heap.size, 0, none⟩ = some (.pointer (some ⟨hb, 0, none⟩))) (by kernel_rfl) (by kernel_rfl) (by rintro ⟨_, _, h⟩; exact h) ?_
    change wpAnyH _ _ _ _ _ _ _ _ W4.drew
    have hS0 : W4.drew.cell? ⟨w.heap.size, 0, none⟩ = some (.pointer (some ⟨hb, 0, none⟩)) := b4
    refine takeH 0 58 (Value.pointer (some ⟨hb, 0, none⟩)) rfl rfl (by kernel_rfl) (by kernel_rfl) (by kernel_rfl) (fun _ _ _ h => h) rfl (fun w' hS => by go_simp) hS0 ?_
    go_frame
    refine takeH 1 59 (Value.pointer (some ⟨hb, 0, none⟩)) rfl rfl (by kernel_rfl) (by kernel_rfl) (by kernel_rfl) (fun _ _ _ h => h) rfl (fun w' hS => by go_simp) hS0 ?_
    go_frame
    refine takeH 2 60 (Value.pointer (some ⟨hb, 0, none⟩)) rfl rfl (by kernel_rfl) (by kernel_rfl) (by kernel_rfl) (fun _ _ _ h => h) rfl (fun w' hS => by go_simp) hS0 ?_
    go_frame
    refine takeH 3 61 (Value.pointer (some ⟨hb, 0, none⟩)) rfl rfl (by kernel_rfl) (by kernel_rfl) (by kernel_rfl) (fun _ _ _ h => h) rfl (fun w' hS => by go_simp) hS0 ?_
    go_frame
    refine takeH 5 63 (Value.slice (some ⟨pb, restAt po pcap (64 - r) + 64 * x.1, none⟩) 64 64) rfl rfl (by kernel_rfl) (by kernel_rfl) (by kernel_rfl) (fun _ _ _ h => h) rfl (fun w' hS => by go_simp) hS0 ?_
    go_frame
    refine wpAnyH_all (rs := [4]) (by kernel_rfl) (by simp) ?_
    simp only [List.mem_singleton, forall_eq]
    refine wpOp_valueD 62 rfl rfl rfl (.agg #[vw s4.a, vw s4.b, vw s4.c, vw s4.d, vw s4.e, vw s4.f, vw s4.g, vw s4.h]) (by go_simp) ⟨hS0, ?_⟩
    go_frame
    refine wpAnyH_all (rs := [6]) (by kernel_rfl) (by simp) ?_
    simp only [List.mem_singleton, forall_eq]
    refine wpOp_callD 64 rfl rfl rfl 34 #[.agg s4.cells.toArray, .slice (some ⟨pb, restAt po pcap (64 - r) + 64 * x.1, none⟩) 64 64] (by go_simp) ?_
    refine (mix_any s4 pb _ 64 q8 W4.drew mT.out mG.out mP.out mb.out mB.out (by decide) (by decide)).mono ?_
    rintro e w2 ⟨rfl, hb2⟩
    have hS2 : w2.cell? ⟨w.heap.size, 0, none⟩ = some (.pointer (some ⟨hb, 0, none⟩)) := (hb2.cell (p := ⟨w.heap.size, 0, none⟩) mn.out).trans b4
    have hk2 : Blk w2 hb (hcells s4 T1 (n + p.length)) := blk_below HI4.out.blk HI4.out.blk.lt hb2
    refine ⟨_, rfl, hS2, ?_⟩
    go_frame
    refine takeH 7 65 (Value.pointer (some ⟨hb, 0, none⟩)) rfl rfl (by kernel_rfl) (by kernel_rfl) (by kernel_rfl) (fun _ _ _ h => h) rfl (fun w' hS => by go_simp) hS2 ?_
    go_frame
    refine takeH 8 66 (Value.pointer (some ⟨hb, 0, none⟩)) rfl rfl (by kernel_rfl) (by kernel_rfl) (by kernel_rfl) (fun _ _ _ h => h) rfl (fun w' hS => by go_simp) hS2 ?_
    go_frame
    refine wpAnyH_all (rs := [9]) (by kernel_rfl) (by simp) ?_
    simp only [List.mem_singleton, forall_eq]
    obtain ⟨hI5, hg5⟩ := HI4.out.step hb2 (compress s4 q8) H.out.ne hbl hG
    refine wpOp_storeN rfl rfl rfl 57 (.tmp 66) (.tmp 64) rfl hb 0 (compress s4 q8).cells.toArray rfl rfl (hk2.there 0 8 (by rw [hcells_length _ _ _ HI4.out.len]; decide)) info_w8 (cells_oneCell _) ⟨hI5.box, wpAnyH_done (by kernel_rfl) ?_ _⟩
    refine NoPanic.normal ?_
    have hf : (pre ++ [x]).foldl (fun s x => compress s ((p.drop (64 - r + 64 * x.1)).take 64)) (compress s T1) = compress s4 q8 := by
      rw [List.foldl_append, ← HS4.out, HQ.out]; rfl
    refine ⟨KeepsFrom.of_grownBy hg5 (fun j e => by cases e; have := HI3.out.size; omega), World.cell?_of_block (hg5.block _ (by show W2.heap.size < _; omega) (by show some W2.heap.size ≠ some hb; have := HI.out.size; simp; omega)), ?_, Nat.le_trans hz4 hg5.size⟩
    show WInv w hb ((pre ++ [x]).foldl (fun s x => compress s ((p.drop (64 - r + 64 * x.1)).take 64)) (compress s T1)) T1 (n + p.length) pb po p _
    rw [hf]
    exact hI5
  case done =>
    rintro D ys W5 hD hys ⟨hI5, hz5⟩ hK
    have hI5' : WInv w hb (stOf (compress s T1) (p.drop (64 - r))) T1 (n + p.length) pb po p W5 := by
      rw [← fold_sub (compress s T1) p (64 - r) ys hys (by rw [List.length_drop])]; exact hI5
    have HI5 := Lib.hid hI5'; clear hI5 hI5'
    obtain ⟨m, hm⟩ : ∃ m, m = p.length - (64 - r) := ⟨_, rfl⟩
    obtain ⟨b5, m0⟩ : W5.cell? ⟨w.heap.size, 0, none⟩ = some (.pointer (some ⟨hb, 0, none⟩)) ∧ m ≤ 4611686018427387904 := ⟨HI5.out.box, by omega⟩
    have HK := Lib.hid hK; clear hK
    have hrest2 := run_rest pb (restAt po pcap (64 - r)) (p.length - (64 - r)) (pcap - (64 - r)) (m - m % 64) (by omega)
    rw [← hm] at hrest2 ⊢
    rw [show ((m - m % 64 : Nat) : Int) = (m : Int) - (m : Int) % 64 by omega] at hrest2
    obtain ⟨k0, k1⟩ : (0 : Int) ≤ (m : Int) - (m : Int) % 64 ∧ (m : Int) - (m : Int) % 64 ≤ (m : Int) := ⟨by omega, by omega⟩
    have HR := Lib.hid (restOf_length (p.drop (64 - r)))
    obtain ⟨q, hq⟩ : ∃ q, q = restOf (p.drop (64 - r)) := ⟨_, rfl⟩
    have HQL : Hid (q.length = m % 64) := Lib.hid (by rw [hq, HR.out, List.length_drop, ← hm])
    have HQB : Hid (0 < q.length → Bs W5 pb (restAt (restAt po pcap (64 - r)) (pcap - (64 - r)) (m - m % 64)) q) := Lib.hid fun hp => by
      rw [restAt_ne _ _ _ (by have := HQL.out; omega), restAt_ne _ _ _ (by have := HQL.out; omega), hq]
      unfold restOf
      rw [List.length_drop, ← hm, show m - m % 64 = 64 * (m / 64) by omega]
      exact (HI5.out.bytes.drop _).drop _
    have HQ := Lib.hid hq; clear hq
    have HM := Lib.hid hm; clear hm
    have e1 : (m : Int).tmod 64 = (m : Int) % 64 := Int.tmod_eq_emod_of_nonneg (by omega)
    have e2 : IntKind.i64.wrap ((m : Int) - (m : Int) % 64) = (m : Int) - (m : Int) % 64 := IntWalk.i64_in _ (by omega)
    have e3 : IntKind.i64.wrap ((m : Int) % 64) = (m : Int) % 64 := IntWalk.i64_in _ (by omega)
    gi_wp2
    go_wp2_with fail
    go_still_tail 12, (by kernel_rfl)
    clear e1 e2 e3
    change wpList _ _ _ _ _ W5.drew
    refine wpList_copy_to rfl (.tmp 70) (.tmp 78) 26 26 rfl 5 Tryd.underlying26 info_b1 (some ⟨hb, 8, none⟩) (some ⟨pb, restAt (restAt po pcap (64 - r)) (pcap - (64 - r)) (m - m % 64), none⟩) 64 64 (m - (m - m % 64)) (pcap - (64 - r) - (m - m % 64)) rfl rfl hb 8 (q.map vb) ?_ ?_ ?_ (oneCell_bytes _) ?_
    · rw [List.length_map, HQL.out, show m - (m - m % 64) = m % 64 by omega]; exact (Nat.min_eq_left (by omega)).symm
    · intro hp; rw [List.length_map] at hp; exact ⟨rfl, pb, _, rfl, (HQB.out hp).rangeAt⟩
    · exact HI5.out.blk.drew.there _ _ (by rw [List.length_map, HQL.out, hcells_length _ _ _ HI5.out.len]; omega)
    have hg6 : W5.grownBy (W5.drew.setCells hb 8 (q.map vb)) (some hb) := by have hq := grown_setCells hb (q.map vb) W5.drew 8; exact ⟨hq.os, hq.tape, hq.output, hq.size, hq.block⟩
    have hb6 := HI5.out.blk.drew.setCells (vs := q.map vb) (8 + 0) (by rw [List.length_map, HQL.out, hcells_length _ _ _ HI5.out.len]; omega)
    rw [hcells_setTail _ _ _ _ _ HI5.out.len (by rw [HQL.out]; omega)] at hb6
    have hb6' : Blk (W5.drew.setCells hb 8 (q.map vb)) hb (hcells (stOf (compress s T1) (p.drop (64 - r))) (over T1 0 q) (n + p.length)) := hb6
    clear hb6
    generalize World.setCells _ _ _ _ = W6 at hg6 hb6' ⊢
    have HB6 := Lib.hid hb6'; clear hb6'
    have HG6 := Lib.hid hg6; clear hg6
    have hT1q : t.take r ++ p = T1 ++ p.drop (64 - r) := by
      rw [HT1.out]; unfold over; rw [List.length_take, Nat.min_eq_left (by omega), show r + (64 - r) = 64 by omega, List.drop_of_length_le (by rw [H.out.hash.len]; omega), List.append_nil, List.append_assoc, List.take_append_drop]
    have HTQ := Lib.hid hT1q; clear hT1q
    go_wp2_with fail
    have hwD : w.heap.size < D := by have := HI3.out.size; omega
    have hDlt : D < W5.heap.size := (Array.getElem?_eq_some_iff.1 HK.out).1
    have hK6 : W6.heap[D]? = some (.deferred (some [])) := (HG6.out.block D hDlt (by simp; omega)).trans HK.out
    refine ⟨by simp, .inl ⟨_, _, rfl, run_takeDeferred hK6, ?_⟩⟩
    have hgD := grownBy_putObj' W6 D (.deferred none)
    refine ⟨_, results_tmp rfl _ _ _, rfl, grown_new (HI5.out.grown.trans HG6.out) hgD (fun x e => by cases e; have := HI3.out.size; omega), over T1 0 q, ?_, ?_, ?_⟩
    · rw [HTQ.out, restOf_app T1 _ 1 (by rw [HI5.out.len]), ← HQ.out, show (r + p.length) % 64 = 0 + q.length by rw [HQL.out]; have := HM.out; omega]
      unfold over
      rw [List.take_zero, List.nil_append, List.take_append_of_le_length (by omega), List.take_of_length_le (by omega)]
    · rw [HTQ.out, stOf_block _ _ _ HI5.out.len]
      exact HB6.out.grown hgD (by simp; omega)
    · rw [over_length _ _ _ (by rw [HI5.out.len, HQL.out]; omega), HI5.out.len]
end Go.Proofs.YteadncmhcbdicaaDoor
