/- (*sha.Hash).Write. (*sha.Hash).Write, where a block is filled. A Hash that has been handed bytes: its state and its rest; Write, for whatever bytes. New, Len, Copy, Sum of a Hash. Sum of a Hash. Copy of a Hash. -/
import Derived.Test.YtlnjpmpddomjiaaGreatDoorGmWhole
import Derived.Test.YtlnjpmpddomjiaaGreatDoorGmReg
import Derived.Test.YtlnjpmpddomjiaaGreatDoorGmRegR
namespace Go.Proofs.YtlnjpmpddomjiaaGreatDoor
open Go.RowKit Go.Shelf
attribute [local go_sem] un_mod64

/-- What a call of Write is handed: the Hash at block hb, the bytes p at another block. -/
structure WIn (w : World) (hb : Nat) (s : St) (t : List UInt8) (n : Nat) (pb po pcap : Nat) (p : List UInt8) : Prop where
  hash : HashIs w hb s t n
  bytes : Bs w pb po p
  lt : pb < w.heap.size
  ne : pb ≠ hb
  cap : p.length ≤ pcap
  cap2 : pcap ≤ 9223372036854775807
  len2 : p.length ≤ 4611686018427387904
/-- The slice at A holds the bytes l, in a block that is not hb. -/
structure Src (w : World) (hb : Nat) (A : Option Addr) (l : List UInt8) (c : Nat) : Prop where
  cap : l.length ≤ c
  cap2 : c ≤ 9223372036854775807
  len2 : l.length ≤ 4611686018427387904
  bytes : 0 < l.length → ∃ b o, A = some ⟨b, o, none⟩ ∧ b < w.heap.size ∧ b ≠ hb ∧ Bs w b o l
set_option maxRecDepth 100000 in
set_option maxHeartbeats 1000000 in
theorem write_early (hb : Nat) (s : St) (t : List UInt8) (n : Nat) (A : Option Addr) (pcap : Nat) (p : List UInt8) (w : World) (h : HashIs w hb s t n) (hs : Src w hb A p pcap) (hlt : n % 64 + p.length < 64) :
    Calls Tryz.prog 57 #[.pointer (some ⟨hb, 0, none⟩), .slice A p.length pcap] w fun e w' => e = .returned (.int .i64 p.length) ∧ HashIs w' hb s (over t (n % 64) p) (n + p.length) ∧ w.grownBy w' (some hb) := by
  have hbl := h.blk.lt
  have h0 := (un_range n).1
  have hadd := un_add n p.length
  obtain ⟨hc1, hc2⟩ : p.length ≤ 4611686018427387904 ∧ (0 : Int) ≤ (p.length : Int) := ⟨hs.len2, by omega⟩
  obtain ⟨r, hrr⟩ : ∃ r, r = n % 64 := ⟨_, rfl⟩
  have hmod : un n % (64 : Int) = (r : Int) := by rw [hrr]; exact un_mod64 n
  rw [← hrr] at hlt ⊢
  obtain ⟨c1, f1⟩ : w.cell? ⟨hb, 72, none⟩ = some (.int .u64 (un n)) ∧ w.frozen? ⟨hb, 72, none⟩ = false := ⟨h.blk.at (hcells_total s t n h.len), h.blk.free _⟩
  obtain ⟨r1, r2⟩ : (0 : Int) ≤ (r : Int) ∧ (r : Int) ≤ 64 := ⟨by omega, by omega⟩
  clear hrr
  have H := Lib.hid h; clear h
  have HS := Lib.hid hs; clear hs
  obtain ⟨HK, HB⟩ : Hid (Blk ((w.setCell ⟨hb, 72, none⟩ (.int .u64 (un (n + p.length)))).alloc (.cells #[.pointer (some ⟨hb, 0, none⟩)] 95)) hb (hcells s t (n + p.length))) ∧
      Hid (0 < p.length → ∃ b o, A = some ⟨b, o, none⟩ ∧ Bs ((w.setCell ⟨hb, 72, none⟩ (.int .u64 (un (n + p.length)))).alloc (.cells #[.pointer (some ⟨hb, 0, none⟩)] 95)) b o p) :=
    ⟨by have := (H.out.blk.set 72 (.int .u64 (un (n + p.length)))).alloc (.cells #[.pointer (some ⟨hb, 0, none⟩)] 95); rw [hcells_setTotal _ _ _ _ H.out.len] at this; exact this,
     Lib.hid fun hp => by
      obtain ⟨b, o, e, _, hne, hbs⟩ := HS.out.bytes hp
      exact ⟨b, o, e, (hbs.grown (grown_set w ⟨hb, 72, none⟩ _) (by show some b ≠ some hb; simp [hne])).grown (World.grownBy_alloc _ _ none) (by simp)⟩⟩
  have HL := Lib.hid (show (p.map vb).length = p.length from List.length_map ..)
  go_enter Tryz.func57, Tryz.ntmps57
  go_wp2_with ((with_reducible refine wpList_copy_to ?g1 (.tmp 31) (.tmp 32) 34 34 ?g2 5 Tryz.underlying34 info_b1 (some ⟨hb, 8 + r, none⟩) A (64 - r) (64 - r) p.length pcap ?g3 ?g4 hb (8 + r) (p.map vb) ?g5 ?g6 ?g7 (oneCell_bytes p) ?_); (case g1 => rfl); (case g2 => rfl); (case g3 => rfl); (case g4 => rfl); (case g5 => rw [HL.out]; exact (Nat.min_eq_left (by omega)).symm); (case g6 => exact fun hp => ⟨rfl, (by rw [HL.out] at hp; obtain ⟨b, o, e, hbs⟩ := HB.out hp; exact ⟨b, o, e, hbs.rangeAt⟩)⟩); (case g7 => exact HK.out.there _ _ (by rw [HL.out, hcells_length _ _ _ H.out.len]; omega)); rw [HL.out])
  go_ret
  refine ⟨rfl, ⟨?_, ?_⟩, ?_⟩
  · have := HK.out.setCells (vs := p.map vb) (8 + r) (by rw [HL.out, hcells_length _ _ _ H.out.len]; omega)
    rw [hcells_setTail _ _ _ _ _ H.out.len (by omega)] at this
    exact this
  · rw [over_length _ _ _ (by rw [H.out.len]; omega), H.out.len]
  · exact ((grown_set w ⟨hb, 72, none⟩ _).trans (World.grownBy_alloc _ _ _)).trans (grown_setCells hb _ _ _)

end Go.Proofs.YtlnjpmpddomjiaaGreatDoor
namespace Go.Proofs.YtlnjpmpddomjiaaGreatDoor
open Go.RowKit Go.Shelf
attribute [local go_sem] un_mod64
/-- The rest of a slice, behind its first k bytes: where it lies. -/
def restAt (po pcap k : Nat) : Nat := if pcap = k then po else po + k
theorem run_rest (pb po plen pcap k : Nat) (hk : k ≤ plen) (W : World) : (Instr.sliceAt 34 (.slice (some ⟨pb, po, none⟩) plen pcap) (some (.int .i64 (k : Int))) none none).run Tryz.prog W = .ok (.slice (some ⟨pb, restAt po pcap k, none⟩) (plen - k) (pcap - k)) W := by
  have h1 : (k : Int) ≤ (plen : Int) := by omega
  by_cases h : pcap = k
  · simp [go_sem, h1, restAt, h]
  · simp [go_sem, h1, restAt, h]
theorem restAt_ne (po pcap k : Nat) (h : pcap ≠ k) : restAt po pcap k = po + k := by unfold restAt; rw [if_neg h]
attribute [irreducible] restAt
attribute [local go_sem] Oper.semAt_some
/-- What holds while Write goes on behind the first block: W is the world. -/
structure WInv (w : World) (hb : Nat) (s : St) (t : List UInt8) (n pb po : Nat) (p : List UInt8) (W : World) : Prop where
  blk : Blk W hb (hcells s t n)
  len : t.length = 64
  bytes : Bs W pb po p
  box : W.cell? ⟨w.heap.size, 0, none⟩ = some (.pointer (some ⟨hb, 0, none⟩))
  grown : w.grownBy W (some hb)
  size : w.heap.size < W.heap.size
  tab : TabA W
theorem WInv.kept {w : World} {hb : Nat} {s : St} {t : List UInt8} {n pb po : Nat} {p : List UInt8} {A B : World} (h : WInv w hb s t n pb po p A) (hg : A.grownBy B none) (hg' : A.grownBy B (some hb)) : WInv w hb s t n pb po p B :=
  ⟨h.blk.grown hg (by simp), h.len, h.bytes.grown hg (by simp), hg.cell h.box (by simp), h.grown.trans hg', Nat.lt_of_lt_of_le h.size hg.size, fun j hj => hg.cell (h.tab j hj) (by simp)⟩
theorem WInv.keptFrom {w : World} {hb : Nat} {s : St} {t : List UInt8} {n pb po : Nat} {p : List UInt8} {A B : World} {row : Option Nat} {X : Nat} (h : WInv w hb s t n pb po p A) (hg : A.grownBy B row) (hr : ∀ r, row = some r → X ≤ r) (hX : w.heap.size < X) (h1 : hb < w.heap.size) (h2 : pb < w.heap.size) (h3 : 0 < w.heap.size) : WInv w hb s t n pb po p B := by
  have hne : ∀ b, b ≤ w.heap.size → some b ≠ row := fun b hb e => by have := hr b e.symm; omega
  exact ⟨h.blk.grown hg (hne _ (by omega)), h.len, h.bytes.grown hg (hne _ (by omega)), hg.cell h.box (hne _ (Nat.le_refl _)), ⟨hg.os.trans h.grown.os, hg.tape.trans h.grown.tape, hg.output.trans h.grown.output, Nat.le_trans h.grown.size hg.size, fun k hk hkb => (hg.block k (Nat.lt_of_lt_of_le hk h.grown.size) (hne k (by omega))).trans (h.grown.block k hk hkb)⟩, Nat.lt_of_lt_of_le h.size hg.size, fun j hj => hg.cell (h.tab j hj) (hne 0 (by omega))⟩
theorem tab_lt {W : World} (h : TabA W) : 0 < W.heap.size := World.block_lt_of_cell? W _ (h 0 (by decide))
theorem cells_one (s : St) : ∀ v ∈ s.cells, v.oneCell' = true := by
  intro v hv
  have : v ∈ s.list.map vw := hv
  rw [List.mem_map] at this; obtain ⟨x, _, rfl⟩ := this; rfl
theorem blk_below {W w2 : World} {hb : Nat} {cs : List Value} (h : Blk W hb cs) (hb' : hb < W.heap.size) (hw : Below W.drew.heap.size W.drew w2) : Blk w2 hb cs := h.drew.below hw hb'
theorem WInv.step {w : World} {hb : Nat} {s : St} {t : List UInt8} {n pb po : Nat} {p : List UInt8} {W w2 : World} (h : WInv w hb s t n pb po p W) (hb2 : Below W.drew.heap.size W.drew w2) (s' : St) (hne : pb ≠ hb) (hbl : hb < w.heap.size) (hG : 0 ≠ hb) :
    WInv w hb s' t n pb po p (w2.setCells hb 0 s'.cells) ∧ W.grownBy (w2.setCells hb 0 s'.cells) (some hb) := by
  have hg : W.grownBy w2 (some hb) := by have hq := grown_of_below hb2 (some hb); exact ⟨hq.os, hq.tape, hq.output, hq.size, hq.block⟩
  have hgg := hg.trans (grown_setCells hb s'.cells w2 0)
  have hk2 : Blk w2 hb (hcells s t n) := blk_below h.blk h.blk.lt hb2
  exact ⟨⟨hk2.setState h.len _, h.len, h.bytes.grown hgg (by simp [hne]), hgg.cell h.box (by show some w.heap.size ≠ some hb; simp; omega), h.grown.trans hgg, Nat.lt_of_lt_of_le h.size hgg.size, fun j hj => hgg.cell (h.tab j hj) (by simp [hG])⟩, hgg⟩
theorem grown_new {w A B : World} {r row : Option Nat} (h : w.grownBy A r) (hg : A.grownBy B row) (hr : ∀ x, row = some x → w.heap.size ≤ x) : w.grownBy B r :=
  ⟨hg.os.trans h.os, hg.tape.trans h.tape, hg.output.trans h.output, Nat.le_trans h.size hg.size, fun k hk hkb => (hg.block k (Nat.lt_of_lt_of_le hk h.size) (fun e => by have := hr k e.symm; omega)).trans (h.block k hk hkb)⟩
theorem fold_sub {m : Nat} (s : St) (p : List UInt8) (k : Nat) (ys : List (Bn m)) (h : ys.map (·.1) = List.range (m / 64)) (hm : (p.drop k).length = m) :
    ys.foldl (fun s x => compress s ((p.drop (k + 64 * x.1)).take 64)) s = stOf s (p.drop k) := by
  have := fold_runN s p k (ys.map (·.1)) (m / 64) h
  rw [List.foldl_map] at this
  rw [this]; unfold stOf; rw [hm]
set_option maxRecDepth 100000 in
set_option maxHeartbeats 1000000 in
theorem write_full (hb : Nat) (s : St) (t : List UInt8) (n pb po pcap : Nat) (p : List UInt8) (w : World) (h : WIn w hb s t n pb po pcap p) (hT : TabA w) (hG : 0 ≠ hb) (hge : 64 ≤ n % 64 + p.length) :
    Calls Tryz.prog 57 #[.pointer (some ⟨hb, 0, none⟩), .slice (some ⟨pb, po, none⟩) p.length pcap] w fun e w' => e = .returned (.int .i64 p.length) ∧ w.grownBy w' (some hb) ∧
      ∃ t', t'.take ((n % 64 + p.length) % 64) = restOf (t.take (n % 64) ++ p) ∧ HashIs w' hb (stOf s (t.take (n % 64) ++ p)) t' (n + p.length) := by
  have hbl := h.hash.blk.lt
  have h0 := (un_range n).1
  have hadd := un_add n p.length
  obtain ⟨hc1, hc2⟩ : p.length ≤ 4611686018427387904 ∧ (0 : Int) ≤ (p.length : Int) := ⟨h.len2, by omega⟩
  obtain ⟨r, hrr⟩ : ∃ r, r = n % 64 := ⟨_, rfl⟩
  have hmod : un n % (64 : Int) = (r : Int) := by rw [hrr]; exact un_mod64 n
  have hr64 : r < 64 := by rw [hrr]; exact Nat.mod_lt _ (by decide)
  rw [← hrr] at hge ⊢
  obtain ⟨c1, f1⟩ : w.cell? ⟨hb, 72, none⟩ = some (.int .u64 (un n)) ∧ w.frozen? ⟨hb, 72, none⟩ = false := ⟨h.hash.blk.at (hcells_total s t n h.hash.len), h.hash.blk.free _⟩
  obtain ⟨r1, r2, r3⟩ : (0 : Int) ≤ (r : Int) ∧ (r : Int) ≤ 64 ∧ (r : Int) + ((64 - r : Nat) : Int) = 64 := ⟨by omega, by omega, by omega⟩
  clear hrr
  have H := Lib.hid h; clear h
  have HT := Lib.hid hT; clear hT
  obtain ⟨HK, HB⟩ : Hid (Blk ((w.setCell ⟨hb, 72, none⟩ (.int .u64 (un (n + p.length)))).alloc (.cells #[.pointer (some ⟨hb, 0, none⟩)] 95)) hb (hcells s t (n + p.length))) ∧
      Hid (Bs ((w.setCell ⟨hb, 72, none⟩ (.int .u64 (un (n + p.length)))).alloc (.cells #[.pointer (some ⟨hb, 0, none⟩)] 95)) pb po p) :=
    ⟨by have := (H.out.hash.blk.set 72 (.int .u64 (un (n + p.length)))).alloc (.cells #[.pointer (some ⟨hb, 0, none⟩)] 95); rw [hcells_setTotal _ _ _ _ H.out.hash.len] at this; exact this,
     (H.out.bytes.grown (grown_set w ⟨hb, 72, none⟩ _) (by show some pb ≠ some hb; simp [H.out.ne])).grown (World.grownBy_alloc _ _ none) (by simp)⟩
  have HL := Lib.hid (show ((p.take (64 - r)).map vb).length = 64 - r by rw [List.length_map, List.length_take]; omega)
  refine (callsIn_wide (n := 6)).1 ?_
  refine callsIn_of_wp_marks Tryz.func57 rfl trivial ?_ rfl
  simp only [Tryz.ntmps57, List.size_toArray, List.length_cons, List.length_nil, Nat.reduceAdd, Nat.reduceSub, Array.replicate_succ, Array.replicate_zero, List.push_toArray, List.append_toArray, List.nil_append, List.cons_append]
  refine wpIn_wide.2 ?_
  go_wp2_with ((with_reducible refine wpList_copy_to ?g1 (.tmp 31) (.tmp 32) 34 34 ?g2 5 Tryz.underlying34 info_b1 (some ⟨hb, 8 + r, none⟩) (some ⟨pb, po, none⟩) (64 - r) (64 - r) p.length pcap ?g3 ?g4 hb (8 + r) ((p.take (64 - r)).map vb) ?g5 ?g6 ?g7 (oneCell_bytes _) ?_); (case g1 => rfl); (case g2 => rfl); (case g3 => rfl); (case g4 => rfl); (case g5 => rw [HL.out]; exact (Nat.min_eq_right (by omega)).symm); (case g6 => exact fun _ => ⟨rfl, pb, po, rfl, (HB.out.take _).rangeAt⟩); (case g7 => exact HK.out.there _ _ (by rw [HL.out, hcells_length _ _ _ H.out.hash.len]; omega)); rw [HL.out])
  generalize hW : World.setCells _ _ _ _ = W
  have hI : WInv w hb s (over t r (p.take (64 - r))) (n + p.length) pb po p W := by
    rw [← hW]
    have hg : w.grownBy ((w.setCell ⟨hb, 72, none⟩ (.int .u64 (un (n + p.length)))).alloc (.cells #[.pointer (some ⟨hb, 0, none⟩)] 95)) (some hb) := (grown_set w ⟨hb, 72, none⟩ _).trans (World.grownBy_alloc _ _ _)
    have hg2 := grown_setCells hb ((p.take (64 - r)).map vb) ((w.setCell ⟨hb, 72, none⟩ (.int .u64 (un (n + p.length)))).alloc (.cells #[.pointer (some ⟨hb, 0, none⟩)] 95)) (8 + r)
    rw [← List.map_take]
    refine ⟨?_, ?_, HB.out.grown hg2 (by simp [H.out.ne]), ?_, hg.trans hg2, Nat.lt_of_lt_of_le (by simp) hg2.size, fun j hj => (hg.trans hg2).cell (HT.out j hj) (by simp [hG])⟩
    · have := HK.out.setCells (vs := (p.take (64 - r)).map vb) (8 + r) (by rw [HL.out, hcells_length _ _ _ H.out.hash.len]; omega)
      rw [hcells_setTail _ _ _ _ _ H.out.hash.len (by rw [List.length_take]; omega)] at this
      exact this
    · rw [over_length _ _ _ (by rw [H.out.hash.len, List.length_take]; omega), H.out.hash.len]
    · exact hg2.cell ((Blk.newAt (w.setCell ⟨hb, 72, none⟩ (.int .u64 (un (n + p.length)))) _ _ (by simp) rfl).at rfl) (by simp; omega)
  clear hW HK HB
  obtain ⟨W, rfl⟩ : ∃ W' : World, W' = W := ⟨_, rfl⟩
  obtain ⟨T1, hT1⟩ : ∃ T1, T1 = over t r (p.take (64 - r)) := ⟨_, rfl⟩
  rw [← hT1] at hI
  have HT1 := Lib.hid hT1; clear hT1
  have HI := Lib.hid hI
  have HK8 := Lib.hid hI.blk
  obtain ⟨b0, d0, d1, d2, d3, d4, d5, d6, d7, z0, z1, z2, z3, z4, z5, z6, z7⟩ : W.cell? ⟨w.heap.size, 0, none⟩ = some (.pointer (some ⟨hb, 0, none⟩)) ∧ W.cell? ⟨hb, 0, none⟩ = some (vw s.a) ∧ W.cell? ⟨hb, 1, none⟩ = some (vw s.b) ∧ W.cell? ⟨hb, 2, none⟩ = some (vw s.c) ∧ W.cell? ⟨hb, 3, none⟩ = some (vw s.d) ∧ W.cell? ⟨hb, 4, none⟩ = some (vw s.e) ∧ W.cell? ⟨hb, 5, none⟩ = some (vw s.f) ∧ W.cell? ⟨hb, 6, none⟩ = some (vw s.g) ∧ W.cell? ⟨hb, 7, none⟩ = some (vw s.h) ∧ W.frozen? ⟨hb, 0, none⟩ = false ∧ W.frozen? ⟨hb, 1, none⟩ = false ∧ W.frozen? ⟨hb, 2, none⟩ = false ∧ W.frozen? ⟨hb, 3, none⟩ = false ∧ W.frozen? ⟨hb, 4, none⟩ = false ∧ W.frozen? ⟨hb, 5, none⟩ = false ∧ W.frozen? ⟨hb, 6, none⟩ = false ∧ W.frozen? ⟨hb, 7, none⟩ = false := ⟨hI.box, hI.blk.cells8⟩
  obtain ⟨mT, mb, mB, mG, mz⟩ : Hid (TabA W) ∧ Hid (hb < W.heap.size) ∧ Hid (Bs W hb 8 T1) ∧ Hid (0 < W.heap.size) ∧ Hid (w.heap.size < W.heap.size) := ⟨hI.tab, hI.blk.lt, hI.blk.tail hI.len, tab_lt hI.tab, hI.size⟩
  clear hI
  refine wp_region_noPanic ?_
  refine wp_region_held (S := fun w' => w'.cell? ⟨w.heap.size, 0, none⟩ = some (.pointer (some ⟨hb, 0, none⟩))) (by kernel_rfl) ?_
  change wpAnyH _ _ _ _ _ _ _ _ W.drew
  have hS0 : W.drew.cell? ⟨w.heap.size, 0, none⟩ = some (.pointer (some ⟨hb, 0, none⟩)) := b0
  refine takeH 0 40 (Value.pointer (some ⟨hb, 0, none⟩)) rfl rfl (by kernel_rfl) (by kernel_rfl) (by kernel_rfl) (fun _ _ _ h => h) rfl (fun w' hS => by go_simp) hS0 ?_
  go_frame
  refine takeH 1 41 (Value.pointer (some ⟨hb, 0, none⟩)) rfl rfl (by kernel_rfl) (by kernel_rfl) (by kernel_rfl) (fun _ _ _ h => h) rfl (fun w' hS => by go_simp) hS0 ?_
  go_frame
  refine takeH 2 42 (Value.pointer (some ⟨hb, 0, none⟩)) rfl rfl (by kernel_rfl) (by kernel_rfl) (by kernel_rfl) (fun _ _ _ h => h) rfl (fun w' hS => by go_simp) hS0 ?_
  go_frame
  refine takeH 3 43 (Value.pointer (some ⟨hb, 0, none⟩)) rfl rfl (by kernel_rfl) (by kernel_rfl) (by kernel_rfl) (fun _ _ _ h => h) rfl (fun w' hS => by go_simp) hS0 ?_
  go_frame
  refine takeH 5 45 (Value.pointer (some ⟨hb, 0, none⟩)) rfl rfl (by kernel_rfl) (by kernel_rfl) (by kernel_rfl) (fun _ _ _ h => h) rfl (fun w' hS => by go_simp) hS0 ?_
  go_frame
  refine takeH 6 46 (Value.pointer (some ⟨hb, 0, none⟩)) rfl rfl (by kernel_rfl) (by kernel_rfl) (by kernel_rfl) (fun _ _ _ h => h) rfl (fun w' hS => by go_simp) hS0 ?_
  go_frame
  refine takeH 7 47 (Value.pointer (some ⟨hb, 8, none⟩)) rfl rfl (by kernel_rfl) (by kernel_rfl) (by kernel_rfl) (fun _ _ _ h => h) rfl (fun w' hS => by go_simp) hS0 ?_
  go_frame
  refine takeH 8 48 (Value.slice (some ⟨hb, 8, none⟩) 64 64) rfl rfl (by kernel_rfl) (by kernel_rfl) (by kernel_rfl) (fun _ _ _ h => h) rfl (fun w' hS => by go_simp) hS0 ?_
  go_frame
  refine wpAnyH_all (rs := [4]) (by kernel_rfl) (by simp) ?_
  simp only [List.mem_singleton, forall_eq]
  refine wpOp_valueD 44 rfl rfl rfl (.agg #[vw s.a, vw s.b, vw s.c, vw s.d, vw s.e, vw s.f, vw s.g, vw s.h]) (by go_simp) ⟨hS0, ?_⟩
  go_frame
  refine wpAnyH_all (rs := [9]) (by kernel_rfl) (by simp) ?_
  simp only [List.mem_singleton, forall_eq]
  refine wpOp_callD 49 rfl rfl rfl 78 #[.agg s.cells.toArray, .slice (some ⟨hb, 8, none⟩) 64 64] (by go_simp) ?_
  refine (mix_any s hb 8 64 T1 W.drew mT.out mG.out HI.out.len mb.out mB.out (by decide) (by decide)).mono ?_
  rintro e w2 ⟨rfl, hb2⟩
  have hk2 : Blk w2 hb (hcells s T1 (n + p.length)) := blk_below HK8.out mb.out hb2
  have hS2 : w2.cell? ⟨w.heap.size, 0, none⟩ = some (.pointer (some ⟨hb, 0, none⟩)) := (hb2.cell (p := ⟨w.heap.size, 0, none⟩) mz.out).trans b0
  refine ⟨_, rfl, hS2, ?_⟩
  go_frame
  refine takeH 10 50 (Value.pointer (some ⟨hb, 0, none⟩)) rfl rfl (by kernel_rfl) (by kernel_rfl) (by kernel_rfl) (fun _ _ _ h => h) rfl (fun w' hS => by go_simp) hS2 ?_
  go_frame
  refine takeH 11 51 (Value.pointer (some ⟨hb, 0, none⟩)) rfl rfl (by kernel_rfl) (by kernel_rfl) (by kernel_rfl) (fun _ _ _ h => h) rfl (fun w' hS => by go_simp) hS2 ?_
  go_frame
  refine wpAnyH_all (rs := [12]) (by kernel_rfl) (by simp) ?_
  simp only [List.mem_singleton, forall_eq]
  refine wpOp_storeN rfl rfl rfl 111 (.tmp 51) (.tmp 49) rfl hb 0 (compress s T1).cells.toArray rfl rfl (hk2.there 0 8 (by rw [hcells_length _ _ _ HI.out.len]; decide)) info_w8 (cells_oneCell _) ⟨?_, wpAnyH_done (by kernel_rfl) ?_ _⟩
  · exact (grown_setCells hb _ w2 0).cell hS2 (by show some w.heap.size ≠ some hb; simp; omega)
  refine NoPanic.normal ?_
  generalize hW2 : World.setCells _ _ _ _ = W2
  have hI2 : WInv w hb (compress s T1) T1 (n + p.length) pb po p W2 := by
    rw [← hW2]
    have hg : W.grownBy w2 (some hb) := by have hq := grown_of_below hb2 (some hb); exact ⟨hq.os, hq.tape, hq.output, hq.size, hq.block⟩
    have hg2 := grown_setCells hb (compress s T1).cells w2 0
    have hgg := hg.trans hg2
    exact ⟨hk2.setState HI.out.len _, HI.out.len, HI.out.bytes.grown hgg (by simp [H.out.ne]), hgg.cell HI.out.box (by show some w.heap.size ≠ some hb; simp; omega), HI.out.grown.trans hgg, Nat.lt_of_lt_of_le HI.out.size hgg.size, fun j hj => hgg.cell (HI.out.tab j hj) (by simp [hG])⟩
  clear hW2 hk2 hS2 hb2 hS0 HK8 HI b0 d0 d1 d2 d3 d4 d5 d6 d7 z0 z1 z2 z3 z4 z5 z6 z7 mT mb mB mG mz
  obtain ⟨W2, rfl⟩ : ∃ W' : World, W' = W2 := ⟨_, rfl⟩
  have HI := Lib.hid hI2; clear hI2
  have hrest := run_rest pb po p.length pcap (64 - r) (by omega)
  go_wp2_with fail
  refine ((callsIn_wide (n := 1)).1 (whole_in Fence.wide 1 trivial rfl _ _ _ _)).mono ?_
  rintro e w3 ⟨rfl, rfl⟩
  go_wp2_with fail
  have hcap' : pcap ≤ 9223372036854775807 := H.out.cap2
  have hlen' : p.length ≤ pcap := H.out.cap
  obtain ⟨W3, hW3e⟩ : ∃ W3 : World, W3 = W2.alloc (.cells #[.slice (some ⟨pb, restAt po pcap (64 - r), none⟩) (p.length - (64 - r)) (pcap - (64 - r))] 34) := ⟨_, rfl⟩
  obtain ⟨hsz3, hbox3⟩ : W3.heap.size = W2.heap.size + 1 ∧ W3.cell? ⟨W2.heap.size, 0, none⟩ = some (.slice (some ⟨pb, restAt po pcap (64 - r), none⟩) (p.length - (64 - r)) (pcap - (64 - r))) := by
    subst hW3e
    have hn := World.alloc_heap_new W2 (.cells #[.slice (some ⟨pb, restAt po pcap (64 - r), none⟩) (p.length - (64 - r)) (pcap - (64 - r))] 34)
    exact ⟨by simp, by simp only [World.cell?]; rw [hn]; rfl⟩
  have HI3 : Hid (WInv w hb (compress s T1) T1 (n + p.length) pb po p W3) := Lib.hid (by
    subst hW3e
    exact HI.out.kept (World.grownBy_alloc W2 _ none) (World.grownBy_alloc W2 _ (some hb)))
  rw [← hW3e]; clear hW3e
  refine (wpIn_wide (n := 6)).1 ?_
  refine wpIn_rangeFunc_ownG rfl (by decide) (gf := 100) (lb := #[.pointer (some ⟨W2.heap.size, 0, none⟩)]) rfl trivial (enters_of Tryz.func100 (by kernel_rfl) rfl)
    (whole_stops Fence.wide 5 trivial rfl (by decide) W2.heap.size pb (restAt po pcap (64 - r)) (p.length - (64 - r)) (pcap - (64 - r)) (by omega) ⟨by omega, by omega⟩ W3 (by omega) hbox3) keepBox_t (keepBox_b (by omega)) (Below.refl _ _) (fun _ => rfl)
    (fun pre W => WInv w hb (pre.foldl (fun s x => compress s ((p.drop (64 - r + 64 * x.1)).take 64)) (compress s T1)) T1 (n + p.length) pb po p W ∧ W3.heap.size ≤ W.heap.size)
    (fun _ _ _ => False) ?own (fun _ _ _ _ _ hs _ _ => hs) ⟨HI3.out, Nat.le_refl _⟩
    (fun x => { tmps := #[.pointer (some ⟨hb, 0, none⟩), .slice (some ⟨pb, po, none⟩) p.length pcap, .pointer (some ⟨w.heap.size, 0, none⟩), undef, .int .i64 0, .int .i64 (r : Int), .int .i64 ((64 - r : Nat) : Int), .slice (some ⟨pb, restAt po pcap (64 - r), none⟩) (p.length - (64 - r)) (pcap - (64 - r)), blk pb (restAt po pcap (64 - r)) x.1, .pointer (some ⟨hb, 0, none⟩), .bool false, .pointer (some ⟨hb, 0, none⟩), .pointer (some ⟨hb, 0, none⟩), .pointer (some ⟨hb, 72, none⟩), .int .u64 (un n), .int .u64 (r : Int), .int .i64 (r : Int), .pointer (some ⟨hb, 0, none⟩), .pointer (some ⟨hb, 0, none⟩), .pointer (some ⟨hb, 72, none⟩), .int .u64 (un n), .slice (some ⟨pb, po, none⟩) p.length pcap, .int .i64 (p.length : Int), .int .u64 (p.length : Int), .int .u64 (un (n + p.length)), .pointer (some ⟨hb, 0, none⟩), .pointer (some ⟨hb, 72, none⟩), .pointer (some ⟨hb, 0, none⟩), .pointer (some ⟨hb, 0, none⟩), .pointer (some ⟨hb, 8, none⟩), .int .i64 (r : Int), .slice (some ⟨hb, 8 + r, none⟩) (64 - r) (64 - r), .slice (some ⟨pb, po, none⟩) p.length pcap, .int .i64 ((64 - r : Nat) : Int), .int .i64 (r : Int), .int .i64 ((64 - r : Nat) : Int), .int .i64 64, .bool false, undef, undef, .pointer (some ⟨hb, 0, none⟩), .pointer (some ⟨hb, 0, none⟩), .pointer (some ⟨hb, 0, none⟩), .pointer (some ⟨hb, 0, none⟩), .agg #[vw s.a, vw s.b, vw s.c, vw s.d, vw s.e, vw s.f, vw s.g, vw s.h], .pointer (some ⟨hb, 0, none⟩), .pointer (some ⟨hb, 0, none⟩), .pointer (some ⟨hb, 8, none⟩), .slice (some ⟨hb, 8, none⟩) 64 64, .agg (compress s T1).cells.toArray, .pointer (some ⟨hb, 0, none⟩), .pointer (some ⟨hb, 0, none⟩), .slice (some ⟨pb, po, none⟩) p.length pcap, .int .i64 ((64 - r : Nat) : Int), .slice (some ⟨pb, restAt po pcap (64 - r), none⟩) (p.length - (64 - r)) (pcap - (64 - r)), .slice (some ⟨pb, restAt po pcap (64 - r), none⟩) (p.length - (64 - r)) (pcap - (64 - r)), .func (.func 100) #[] #[.pointer (some ⟨W2.heap.size, 0, none⟩)], blk pb (restAt po pcap (64 - r)) x.1, undef, undef, undef, undef, undef, undef, undef, undef, undef, undef, undef, undef, undef, undef, undef, undef, undef, undef, undef, undef, undef, undef, undef, undef], defers := [] }) ?assign ?body ?done ?stop
  case own => exact fun pre A B row hs hg hr => ⟨hs.1.keptFrom hg (fun r e => (hr r e).1) (by have := HI3.out.size; omega) hbl H.out.lt (tab_lt HT.out), Nat.le_trans hs.2 hg.size⟩
  case assign =>
    intro l x W K hK
    gi_wp2
    unfold blk at hK ⊢
    exact hK
  case stop =>
    rintro D c pre W _ _ h _
    exact h.elim
  case body =>
    rintro l pre x W4 ⟨hI4, hz4⟩ hlt
    obtain ⟨s4, hs4⟩ : ∃ s4, s4 = pre.foldl (fun s x => compress s ((p.drop (64 - r + 64 * x.1)).take 64)) (compress s T1) := ⟨_, rfl⟩
    rw [← hs4] at hI4
    have HS4 := Lib.hid hs4; clear hs4
    have HI4 := Lib.hid hI4; clear hI4
    have hx := x.2
    obtain ⟨q8, hq8⟩ : ∃ q, q = (p.drop (64 - r + 64 * x.1)).take 64 := ⟨_, rfl⟩
    obtain ⟨mT, mP, mB, mG, mb, mn⟩ : Hid (TabA W4) ∧ Hid (q8.length = 64) ∧ Hid (Bs W4 pb (restAt po pcap (64 - r) + 64 * x.1) q8) ∧ Hid (0 < W4.heap.size) ∧ Hid (pb < W4.heap.size) ∧ Hid (w.heap.size < W4.heap.size) :=
      ⟨HI4.out.tab, Lib.hid (by rw [hq8, List.length_take, List.length_drop]; omega), Lib.hid (by rw [hq8, restAt_ne _ _ _ (by omega), Nat.add_assoc]; exact (HI4.out.bytes.drop _).take _), tab_lt HI4.out.tab, Lib.hid (Nat.lt_of_lt_of_le H.out.lt HI4.out.grown.size), HI4.out.size⟩
    have HQ := Lib.hid hq8; clear hq8
    obtain ⟨d0, d1, d2, d3, d4, d5, d6, d7, z0, z1, z2, z3, z4, z5, z6, z7⟩ := HI4.out.blk.cells8
    obtain ⟨b4, e1, e2⟩ : W4.cell? ⟨w.heap.size, 0, none⟩ = some (.pointer (some ⟨hb, 0, none⟩)) ∧ 1 ≤ 4 ∧ Tryz.prog.follows .mixedOrders = true := ⟨HI4.out.box, by decide, by kernel_rfl⟩
    unfold blk
    gi_wp2
    refine wpIn_region_held_round (S := fun w' => w'.cell? ⟨w.heap.size, 0, none⟩ = some (.pointer (some ⟨hb, 0, none⟩))) (by kernel_rfl) (by kernel_rfl) (by rintro ⟨_, _, h⟩; exact h) ?_
    change wpAnyH _ _ _ _ _ _ _ _ W4.drew
    have hS0 : W4.drew.cell? ⟨w.heap.size, 0, none⟩ = some (.pointer (some ⟨hb, 0, none⟩)) := b4
    refine takeH 0 58 (Value.pointer (some ⟨hb, 0, none⟩)) rfl rfl (by kernel_rfl) (by kernel_rfl) (by kernel_rfl) (fun _ _ _ h => h) rfl (fun w' hS => by go_simp) hS0 ?_
    go_frame
    refine takeH 1 59 (Value.pointer (some ⟨hb, 0, none⟩)) rfl rfl (by kernel_rfl) (by kernel_rfl) (by kernel_rfl) (fun _ _ _ h => h) rfl (fun w' hS => by go_simp) hS0 ?_
    go_frame
    refine takeH 2 60 (Value.pointer (some ⟨hb, 0, none⟩)) rfl rfl (by kernel_rfl) (by kernel_rfl) (by kernel_rfl) (fun _ _ _ h => h) rfl (fun w' hS => by go_simp) hS0 ?_
    go_frame
    refine takeH 3 61 (Value.pointer (some ⟨hb, 0, none⟩)) rfl rfl (by kernel_rfl) (by kernel_rfl) (by kernel_rfl) (fun _ _ _ h => h) rfl (fun w' hS => by go_simp) hS0 ?_
    go_frame
    refine takeH 5 63 (Value.slice (some ⟨pb, restAt po pcap (64 - r) + 64 * x.1, none⟩) 64 64) rfl rfl (by kernel_rfl) (by kernel_rfl) (by kernel_rfl) (fun _ _ _ h => h) rfl (fun w' hS => by go_simp) hS0 ?_
    go_frame
    refine wpAnyH_all (rs := [4]) (by kernel_rfl) (by simp) ?_
    simp only [List.mem_singleton, forall_eq]
    refine wpOp_valueD 62 rfl rfl rfl (.agg #[vw s4.a, vw s4.b, vw s4.c, vw s4.d, vw s4.e, vw s4.f, vw s4.g, vw s4.h]) (by go_simp) ⟨hS0, ?_⟩
    go_frame
    refine wpAnyH_all (rs := [6]) (by kernel_rfl) (by simp) ?_
    simp only [List.mem_singleton, forall_eq]
    refine wpOp_callD 64 rfl rfl rfl 78 #[.agg s4.cells.toArray, .slice (some ⟨pb, restAt po pcap (64 - r) + 64 * x.1, none⟩) 64 64] (by go_simp) ?_
    refine (mix_any s4 pb _ 64 q8 W4.drew mT.out mG.out mP.out mb.out mB.out (by decide) (by decide)).mono ?_
    rintro e w2 ⟨rfl, hb2⟩
    have hS2 : w2.cell? ⟨w.heap.size, 0, none⟩ = some (.pointer (some ⟨hb, 0, none⟩)) := (hb2.cell (p := ⟨w.heap.size, 0, none⟩) mn.out).trans b4
    have hk2 : Blk w2 hb (hcells s4 T1 (n + p.length)) := blk_below HI4.out.blk HI4.out.blk.lt hb2
    refine ⟨_, rfl, hS2, ?_⟩
    go_frame
    refine takeH 7 65 (Value.pointer (some ⟨hb, 0, none⟩)) rfl rfl (by kernel_rfl) (by kernel_rfl) (by kernel_rfl) (fun _ _ _ h => h) rfl (fun w' hS => by go_simp) hS2 ?_
    go_frame
    refine takeH 8 66 (Value.pointer (some ⟨hb, 0, none⟩)) rfl rfl (by kernel_rfl) (by kernel_rfl) (by kernel_rfl) (fun _ _ _ h => h) rfl (fun w' hS => by go_simp) hS2 ?_
    go_frame
    refine wpAnyH_all (rs := [9]) (by kernel_rfl) (by simp) ?_
    simp only [List.mem_singleton, forall_eq]
    obtain ⟨hI5, hg5⟩ := HI4.out.step hb2 (compress s4 q8) H.out.ne hbl hG
    refine wpOp_storeN rfl rfl rfl 111 (.tmp 66) (.tmp 64) rfl hb 0 (compress s4 q8).cells.toArray rfl rfl (hk2.there 0 8 (by rw [hcells_length _ _ _ HI4.out.len]; decide)) info_w8 (cells_oneCell _) ⟨hI5.box, wpAnyH_done (by kernel_rfl) ?_ _⟩
    refine NoPanic.normal ?_
    have hf : (pre ++ [x]).foldl (fun s x => compress s ((p.drop (64 - r + 64 * x.1)).take 64)) (compress s T1) = compress s4 q8 := by
      rw [List.foldl_append, ← HS4.out, HQ.out]; rfl
    refine ⟨KeepsFrom.of_grownBy hg5 (fun j e => by cases e; have := HI3.out.size; omega), World.cell?_of_block (hg5.block _ (by show W2.heap.size < _; omega) (by show some W2.heap.size ≠ some hb; have := HI.out.size; simp; omega)), ?_, Nat.le_trans hz4 hg5.size⟩
    show WInv w hb ((pre ++ [x]).foldl (fun s x => compress s ((p.drop (64 - r + 64 * x.1)).take 64)) (compress s T1)) T1 (n + p.length) pb po p _
    rw [hf]
    exact hI5
  case done =>
    rintro D ys W5 hD hys ⟨hI5, hz5⟩ hK
    have hI5' : WInv w hb (stOf (compress s T1) (p.drop (64 - r))) T1 (n + p.length) pb po p W5 := by
      rw [← fold_sub (compress s T1) p (64 - r) ys hys (by rw [List.length_drop])]; exact hI5
    have HI5 := Lib.hid hI5'; clear hI5 hI5'
    obtain ⟨m, hm⟩ : ∃ m, m = p.length - (64 - r) := ⟨_, rfl⟩
    obtain ⟨b5, m0⟩ : W5.cell? ⟨w.heap.size, 0, none⟩ = some (.pointer (some ⟨hb, 0, none⟩)) ∧ m ≤ 4611686018427387904 := ⟨HI5.out.box, by omega⟩
    have HK := Lib.hid hK; clear hK
    have hrest2 := run_rest pb (restAt po pcap (64 - r)) (p.length - (64 - r)) (pcap - (64 - r)) (m - m % 64) (by omega)
    rw [← hm] at hrest2 ⊢
    rw [show ((m - m % 64 : Nat) : Int) = (m : Int) - (m : Int) % 64 by omega] at hrest2
    obtain ⟨k0, k1⟩ : (0 : Int) ≤ (m : Int) - (m : Int) % 64 ∧ (m : Int) - (m : Int) % 64 ≤ (m : Int) := ⟨by omega, by omega⟩
    have HR := Lib.hid (restOf_length (p.drop (64 - r)))
    obtain ⟨q, hq⟩ : ∃ q, q = restOf (p.drop (64 - r)) := ⟨_, rfl⟩
    have HQL : Hid (q.length = m % 64) := Lib.hid (by rw [hq, HR.out, List.length_drop, ← hm])
    have HQB : Hid (0 < q.length → Bs W5 pb (restAt (restAt po pcap (64 - r)) (pcap - (64 - r)) (m - m % 64)) q) := Lib.hid fun hp => by
      rw [restAt_ne _ _ _ (by have := HQL.out; omega), restAt_ne _ _ _ (by have := HQL.out; omega), hq]
      unfold restOf
      rw [List.length_drop, ← hm, show m - m % 64 = 64 * (m / 64) by omega]
      exact (HI5.out.bytes.drop _).drop _
    have HQ := Lib.hid hq; clear hq
    have HM := Lib.hid hm; clear hm
    have e1 : (m : Int).tmod 64 = (m : Int) % 64 := Int.tmod_eq_emod_of_nonneg (by omega)
    have e2 : IntKind.i64.wrap ((m : Int) - (m : Int) % 64) = (m : Int) - (m : Int) % 64 := IntWalk.i64_in _ (by omega)
    have e3 : IntKind.i64.wrap ((m : Int) % 64) = (m : Int) % 64 := IntWalk.i64_in _ (by omega)
    gi_wp2
    go_wp2_with fail
    go_still_tail 12, (by kernel_rfl)
    clear e1 e2 e3
    change wpList _ _ _ _ _ W5.drew
    refine wpList_copy_to rfl (.tmp 70) (.tmp 78) 34 34 rfl 5 Tryz.underlying34 info_b1 (some ⟨hb, 8, none⟩) (some ⟨pb, restAt (restAt po pcap (64 - r)) (pcap - (64 - r)) (m - m % 64), none⟩) 64 64 (m - (m - m % 64)) (pcap - (64 - r) - (m - m % 64)) rfl rfl hb 8 (q.map vb) ?_ ?_ ?_ (oneCell_bytes _) ?_
    · rw [List.length_map, HQL.out, show m - (m - m % 64) = m % 64 by omega]; exact (Nat.min_eq_left (by omega)).symm
    · intro hp; rw [List.length_map] at hp; exact ⟨rfl, pb, _, rfl, (HQB.out hp).rangeAt⟩
    · exact HI5.out.blk.drew.there _ _ (by rw [List.length_map, HQL.out, hcells_length _ _ _ HI5.out.len]; omega)
    have hg6 : W5.grownBy (W5.drew.setCells hb 8 (q.map vb)) (some hb) := by have hq := grown_setCells hb (q.map vb) W5.drew 8; exact ⟨hq.os, hq.tape, hq.output, hq.size, hq.block⟩
    have hb6 := HI5.out.blk.drew.setCells (vs := q.map vb) (8 + 0) (by rw [List.length_map, HQL.out, hcells_length _ _ _ HI5.out.len]; omega)
    rw [hcells_setTail _ _ _ _ _ HI5.out.len (by rw [HQL.out]; omega)] at hb6
    have hb6' : Blk (W5.drew.setCells hb 8 (q.map vb)) hb (hcells (stOf (compress s T1) (p.drop (64 - r))) (over T1 0 q) (n + p.length)) := hb6
    clear hb6
    generalize World.setCells _ _ _ _ = W6 at hg6 hb6' ⊢
    have HB6 := Lib.hid hb6'; clear hb6'
    have HG6 := Lib.hid hg6; clear hg6
    have hT1q : t.take r ++ p = T1 ++ p.drop (64 - r) := by
      rw [HT1.out]; unfold over; rw [List.length_take, Nat.min_eq_left (by omega), show r + (64 - r) = 64 by omega, List.drop_of_length_le (by rw [H.out.hash.len]; omega), List.append_nil, List.append_assoc, List.take_append_drop]
    have HTQ := Lib.hid hT1q; clear hT1q
    go_wp2_with fail
    have hwD : w.heap.size < D := by have := HI3.out.size; omega
    have hDlt : D < W5.heap.size := (Array.getElem?_eq_some_iff.1 HK.out).1
    have hK6 : W6.heap[D]? = some (.deferred (some [])) := (HG6.out.block D hDlt (by simp; omega)).trans HK.out
    refine ⟨by simp, .inl ⟨_, _, rfl, run_takeDeferred hK6, ?_⟩⟩
    have hgD := grownBy_putObj' W6 D (.deferred none)
    refine ⟨_, results_tmp rfl _ _ _, rfl, grown_new (HI5.out.grown.trans HG6.out) hgD (fun x e => by cases e; have := HI3.out.size; omega), over T1 0 q, ?_, ?_, ?_⟩
    · rw [HTQ.out, restOf_app T1 _ 1 (by rw [HI5.out.len]), ← HQ.out, show (r + p.length) % 64 = 0 + q.length by rw [HQL.out]; have := HM.out; omega]
      unfold over
      rw [List.take_zero, List.nil_append, List.take_append_of_le_length (by omega), List.take_of_length_le (by omega)]
    · rw [HTQ.out, stOf_block _ _ _ HI5.out.len]
      exact HB6.out.grown hgD (by simp; omega)
    · rw [over_length _ _ _ (by rw [HI5.out.len, HQL.out]; omega), HI5.out.len]
end Go.Proofs.YtlnjpmpddomjiaaGreatDoor
namespace Go.Proofs.YtlnjpmpddomjiaaGreatDoor
open Go.RowKit

/-- The Hash at block b: the state s, the bytes rest behind the last whole block, n bytes in all. -/
def HashAt (w : World) (b : Nat) (s : St) (rest : List UInt8) (n : Nat) : Prop := ∃ t, HashIs w b s t n ∧ t.take (n % 64) = rest
theorem HashAt.len {w : World} {b : Nat} {s : St} {rest : List UInt8} {n : Nat} (h : HashAt w b s rest n) : rest.length = n % 64 := by
  obtain ⟨t, h1, rfl⟩ := h
  rw [List.length_take, h1.len]; omega
theorem HashAt.lt {w : World} {b : Nat} {s : St} {rest : List UInt8} {n : Nat} (h : HashAt w b s rest n) : b < w.heap.size := by
  obtain ⟨t, h1, _⟩ := h
  exact h1.blk.lt
theorem HashAt.grown {w w' : World} {b : Nat} {s : St} {rest : List UInt8} {n : Nat} {row : Option Nat} (h : HashAt w b s rest n) (hg : w.grownBy w' row) (hne : some b ≠ row) : HashAt w' b s rest n := by
  obtain ⟨t, h1, h2⟩ := h
  exact ⟨t, ⟨h1.blk.grown hg hne, h1.len⟩, h2⟩
theorem HashAt.below {w w' : World} {b B : Nat} {s : St} {rest : List UInt8} {n : Nat} (h : HashAt w b s rest n) (hb : Below B w w') (hB : b < B) : HashAt w' b s rest n := by
  obtain ⟨t, h1, h2⟩ := h
  exact ⟨t, ⟨h1.blk.below hb hB, h1.len⟩, h2⟩
theorem over_take (t p : List UInt8) (r : Nat) (h : r ≤ t.length) : (over t r p).take (r + p.length) = t.take r ++ p := by
  unfold over
  rw [List.take_append_of_le_length (by rw [List.length_append, List.length_take]; omega), List.take_of_length_le (by rw [List.length_append, List.length_take]; omega)]
theorem Src.of_ptr {w : World} {hb : Nat} {A : Option Addr} {l : List UInt8} {c : Nat} (h : Src w hb A l c) (h0 : 0 < l.length) {s : St} {t : List UInt8} {n : Nat} (hh : HashIs w hb s t n) : ∃ b o, A = some ⟨b, o, none⟩ ∧ WIn w hb s t n b o c l := by
  obtain ⟨b, o, e, h1, h2, h3⟩ := h.bytes h0
  exact ⟨b, o, e, hh, h3, h1, h2, h.cap, h.cap2, h.len2⟩
theorem write_any (hb : Nat) (s : St) (rest : List UInt8) (n : Nat) (A : Option Addr) (c : Nat) (p : List UInt8) (w : World) (h : HashAt w hb s rest n) (hs : Src w hb A p c) (hT : TabA w) (hG : 0 ≠ hb) :
    Calls Tryz.prog 57 #[.pointer (some ⟨hb, 0, none⟩), .slice A p.length c] w fun e w' => e = .returned (.int .i64 p.length) ∧ HashAt w' hb (stOf s (rest ++ p)) (restOf (rest ++ p)) (n + p.length) ∧ w.grownBy w' (some hb) := by
  have hl := h.len
  obtain ⟨t, h1, h2⟩ := h
  by_cases hlt : n % 64 + p.length < 64
  · refine (write_early hb s t n A c p w h1 hs hlt).mono ?_
    rintro e w' ⟨he, hh, hg⟩
    have hl2 : (rest ++ p).length < 64 := by rw [List.length_append, hl]; omega
    refine ⟨he, ⟨over t (n % 64) p, ?_, ?_⟩, hg⟩
    · rw [stOf_small _ _ hl2]; exact hh
    · rw [restOf_small _ hl2, show (n + p.length) % 64 = n % 64 + p.length by omega, over_take _ _ _ (by rw [h1.len]; omega), h2]
  · obtain ⟨b, o, rfl, hin⟩ := hs.of_ptr (by omega) h1
    refine (write_full hb s t n b o c p w hin hT hG (by omega)).mono ?_
    rintro e w' ⟨he, hg, t', ht, hh⟩
    rw [h2] at ht hh
    refine ⟨he, ⟨t', hh, ?_⟩, hg⟩
    rw [← ht]; congr 1; omega
/-- The Hash at block b holds the message m. -/
def HashM (w : World) (b : Nat) (m : List UInt8) : Prop := HashAt w b (stOf St.first m) (restOf m) m.length
theorem HashM.grown {w w' : World} {b : Nat} {m : List UInt8} {row : Option Nat} (h : HashM w b m) (hg : w.grownBy w' row) (hne : some b ≠ row) : HashM w' b m := HashAt.grown h hg hne
theorem HashM.below {w w' : World} {b B : Nat} {m : List UInt8} (h : HashM w b m) (hb : Below B w w') (hB : b < B) : HashM w' b m := HashAt.below h hb hB
theorem HashM.lt {w : World} {b : Nat} {m : List UInt8} (h : HashM w b m) : b < w.heap.size := HashAt.lt h
theorem write_m (hb : Nat) (m : List UInt8) (A : Option Addr) (c : Nat) (p : List UInt8) (w : World) (h : HashM w hb m) (hs : Src w hb A p c) (hT : TabA w) (hG : 0 ≠ hb) :
    Calls Tryz.prog 57 #[.pointer (some ⟨hb, 0, none⟩), .slice A p.length c] w fun e w' => e = .returned (.int .i64 p.length) ∧ HashM w' hb (m ++ p) ∧ w.grownBy w' (some hb) := by
  refine (write_any hb _ _ _ A c p w h hs hT hG).mono ?_
  rintro e w' ⟨he, hh, hg⟩
  refine ⟨he, ?_, hg⟩
  unfold HashM
  rw [List.length_append, ← stOf_feed, ← restOf_feed]
  exact hh
end Go.Proofs.YtlnjpmpddomjiaaGreatDoor
namespace Go.Proofs.YtlnjpmpddomjiaaGreatDoor
open Go.RowKit
/-- A Hash's cells, all nought. -/
def hzero : List Value := List.replicate 8 (.int .u32 0) ++ (List.replicate 64 (.int .u8 0) ++ [.int .u64 0])
theorem zero_hash (W : World) : (zeroValue 124).run Tryz.prog W = .ok (.agg hzero.toArray) W := by kernel_rfl
theorem first_cells : hcells St.first (List.replicate 64 0) 0 = [Value.int .u32 1779033703, .int .u32 3144134277, .int .u32 1013904242, .int .u32 2773480762, .int .u32 1359893119, .int .u32 2600822924, .int .u32 528734635, .int .u32 1541459225] ++ (List.replicate 64 (.int .u8 0) ++ [.int .u64 0]) := by
  unfold hcells; rfl
theorem hash_of (w : World) (cs : Array Value) (hcs : cs.toList = hcells St.first (List.replicate 64 0) 0) (t : TypeId) : HashM (w.alloc (.cells cs t)) w.heap.size [] := by
  unfold HashM
  rw [stOf_small _ [] (by decide)]
  exact ⟨List.replicate 64 0, ⟨Blk.newAt w cs t rfl hcs, by simp⟩, rfl⟩
set_option maxRecDepth 100000 in
set_option maxHeartbeats 1000000 in
theorem new_any (w : World) : Calls Tryz.prog 56 #[] w fun e w' => e = .returned (.pointer (some ⟨w.heap.size, 0, none⟩)) ∧ HashM w' w.heap.size [] ∧ Below w.heap.size w w' := by
  have hz := zero_hash
  have hs : hzero.toArray.size = 73 := by decide
  go_enter Tryz.func56, Tryz.ntmps56
  go_wp2_with fail
  go_ret
  refine ⟨rfl, hash_of w _ ?_ _, (Below.refl _ _).alloc (Nat.le_refl _) _⟩
  rw [first_cells]
  simp
  rfl
theorem info_h : (Tryz.prog.info? 124).map (·.size) = some 73 := by kernel_rfl
theorem hcells_one (s : St) (t : List UInt8) (n : Nat) : (hcells s t n).toArray.all (·.oneCell') = true := by
  refine all_oneCell_toArray fun v hv => ?_
  unfold hcells at hv
  rw [List.mem_append, List.mem_append, List.mem_map, List.mem_singleton] at hv
  rcases hv with hv | ⟨b, _, rfl⟩ | rfl
  · exact cells_one s v hv
  · rfl
  · rfl
theorem HashIs.range {w : World} {b : Nat} {s : St} {t : List UInt8} {n : Nat} (h : HashIs w b s t n) : w.rangeAt b 0 (hcells s t n) := by
  have := h.blk.range 0 73
  rwa [List.drop_zero, List.take_of_length_le (by rw [hcells_length _ _ _ h.len]; omega)] at this
end Go.Proofs.YtlnjpmpddomjiaaGreatDoor
namespace Go.Proofs.YtlnjpmpddomjiaaGreatDoor
open Go.RowKit
theorem wpOp_runD {P : Program} {ops : Array Oper} {Q : Exit → Act → World → Prop} {K : Act → World → Prop} {a : Act} {w w' : World} {i : Nat} {o : Oper} (d : Tmp) (hi : ops[i]? = some o) (hd : o.dst = some d) (hw : Region.wanted o (yielded ops a.tmps) = true) (v : Value)
    (hr : (execOp a.eval o).run P w = .ok (.value v) w') (h : K (a.put (some d) v) w') : wpOp P ops Q i K a w :=
  wpOp_of_wp hi hw (by unfold Oper.wp; rw [hr]; show K (a.put o.dst v) w'; rw [hd]; exact h)
theorem takeHY {P : Program} {ops : Array Oper} {Q : Exit → Act → World → Prop} {a : Act} {w : World} {md : Region.Mode} {S : World → Prop} (i : Nat) (d : Tmp) {oi : Oper} (v : Value) {fuel : Nat} {listed : Array Bool} (hi : ops[i]? = some oi) (hd : oi.dst = some d)
    (hs : Region.noSelect ops = true) (hf : Region.free md ops listed i = true) (hr : (Region.ready md ops listed).contains i = true)
    (hQ : ∀ c (a : Act) w, Q (.panic c) (a.put oi.dst v) w → Q (.panic c) a w) (hy : YieldsIf P ops S oi v a) (hS : S w)
    (h : wpAnyH P md ops Q S fuel (listed.setIfInBounds i true) (a.put (some d) v) w) : wpAnyH P md ops Q S (fuel + 1) listed a w :=
  wpAnyH_take hi hs hf hr hQ hy hS (by rw [hd]; exact h)
theorem OwnB.src {w : World} {base hb : Nat} {v : Value} {l : List UInt8} (h : OwnB w base v l) (hlt : hb < base) (hl : l.length ≤ 4611686018427387904) : ∃ A c, v = .slice A l.length c ∧ Src w hb A l c := by
  rcases h.parts with ⟨rfl, rfl⟩ | ⟨g, cap, rfl, h1, h2, h3, h4, h5, _⟩
  · exact ⟨none, 0, rfl, by simp, by omega, by simp, fun hp => by simp at hp⟩
  · exact ⟨_, cap, rfl, h3, by unfold maxLen at h4; omega, hl, fun _ => ⟨g, 0, rfl, h2, by omega, h5⟩⟩
theorem TabA.grown {w w' : World} {row : Option Nat} (h : TabA w) (hg : w.grownBy w' row) (hne : some 0 ≠ row) : TabA w' := fun j hj => hg.cell (h j hj) hne
theorem HashAt.state {w : World} {b : Nat} {s : St} {rest : List UInt8} {n : Nat} (h : HashAt w b s rest n) : w.rangeAt b 0 s.cells := by
  obtain ⟨t, h1, _⟩ := h
  exact h1.blk.state
set_option maxRecDepth 100000 in
set_option maxHeartbeats 2000000 in
theorem sumH_any (hb : Nat) (s : St) (rest : List UInt8) (n : Nat) (w : World) (h : HashAt w hb s rest n) (hT : TabA w) :
    Calls Tryz.prog 58 #[.pointer (some ⟨hb, 0, none⟩)] w fun e w' => ∃ v', e = .returned v' ∧ OwnB w' w.heap.size v' (wbs (stOf s (rest ++ padl n)).list) ∧ Below w.heap.size w w' := by
  have hlt := h.lt
  have HA := Lib.hid h
  have hG := tab_lt hT
  have HT := Lib.hid hT; clear hT
  obtain ⟨t, h1, h2⟩ := h
  have hz := zero_hash
  have HI := Lib.hid h1; clear h1
  have H2 := Lib.hid h2; clear h2
  have HL := Lib.hid (show (hcells s t n).toArray.size = 73 by rw [List.size_toArray, hcells_length _ _ _ HI.out.len])
  go_enter Tryz.func58, Tryz.ntmps58
  go_wp2_with (first
    | ((with_reducible refine wpList_load_mid ?a1 124 (.tmp 7) ?a2 hb 0 ?a3 (hcells s t n) _ HI.out.range Tryz.underlying124 ?a4 ?a5 ?_); (case a1 => rfl); (case a2 => rfl); (case a3 => rfl); (case a4 => rfl); (case a5 => rw [hcells_length _ _ _ HI.out.len]; exact info_h))
    | ((with_reducible refine wpList_store_mid ?b1 124 (.tmp 3) (.tmp 8) ?b2 w.heap.size 0 (hcells s t n).toArray ?b3 ?b4 ?b5 ?b6 (hcells_one s t n) ?_); (case b1 => rfl); (case b2 => rfl); (case b3 => rfl); (case b4 => rfl); (case b5 => rw [HL.out]; exact (Blk.newAt (cs := hzero) _ _ _ rfl rfl).there 0 73 (by decide)); (case b6 => rw [HL.out]; exact info_h); (have hA1 : HashAt ((w.alloc (.cells hzero.toArray 124)).setCells w.heap.size 0 (hcells s t n)) w.heap.size s rest n ∧ Below w.heap.size w ((w.alloc (.cells hzero.toArray 124)).setCells w.heap.size 0 (hcells s t n)) := ⟨⟨t, ⟨(Blk.newAt (cs := hzero) _ _ _ rfl rfl).setAll (by rw [hcells_length _ _ _ HI.out.len]; decide), HI.out.len⟩, H2.out⟩, below_setCells (Nat.le_refl _) _ ((Below.refl _ _).alloc (Nat.le_refl _) _) 0⟩); (generalize World.setCells _ _ _ _ = W1 at hA1 ⊢); (have HA1 := Lib.hid hA1.1); (have HB1 := Lib.hid hA1.2); (clear hA1); (have hct : W1.cell? ⟨hb, 72, none⟩ = some (.int .u64 (un n)) := (HB1.out.cell (p := ⟨hb, 72, none⟩) hlt).trans (HI.out.blk.at (hcells_total s t n HI.out.len)))))
  clear hz
  refine (padding_any n W1).mono ?_
  rintro e w2 ⟨v2, rfl, hO2, hB2⟩
  have hw1 := HA1.out.lt
  obtain ⟨A2, c2, rfl, hS2⟩ := hO2.src (hb := w.heap.size) hw1 (by rw [padl_length]; omega)
  have HS2 := Lib.hid hS2; clear hS2 hO2
  have HB2 := Lib.hid (HB1.out.trans (hB2.mono HB1.out.size))
  have HA2 := Lib.hid (HA1.out.below hB2 hw1); clear hB2
  go_wp2_with fail
  refine (write_any w.heap.size s rest n A2 c2 (padl n) w2 HA2.out HS2.out (HT.out.below HB2.out hG) (by omega)).mono ?_
  rintro e w3 ⟨rfl, hA3, hg3⟩
  have HB3 := Lib.hid (HB2.out.grown hg3 HB2.out.size (fun k e => by cases e; exact Nat.le_refl _))
  have HA3 := Lib.hid hA3
  have hw3 := hA3.lt
  clear hA3 hg3
  obtain ⟨S', hS'⟩ : ∃ S', S' = stOf s (rest ++ padl n) := ⟨_, rfl⟩
  rw [← hS'] at HA3
  have HS' := Lib.hid hS'; clear hS'
  go_wp2_with fail
  refine wp_region_noPanic ?_
  refine wp_region_held (S := fun w' => w'.rangeAt w.heap.size 0 S'.cells) (by kernel_rfl) ?_
  change wpAnyH _ _ _ _ _ _ _ _ w3.drew
  have hS0 : w3.drew.rangeAt w.heap.size 0 S'.cells := HA3.out.state
  refine takeH 1 16 (Value.pointer (some ⟨w.heap.size, 0, none⟩)) rfl rfl (by kernel_rfl) (by kernel_rfl) (by kernel_rfl) (fun _ _ _ h => h) rfl (fun w' hS => by go_simp) hS0 ?_
  go_frame
  refine takeHY 2 17 (Value.agg S'.cells.toArray) rfl rfl (by kernel_rfl) (by kernel_rfl) (by kernel_rfl) (fun _ _ _ h => h) (yieldsIf_load_mid rfl 111 (.tmp 16) rfl w.heap.size 0 rfl S'.cells _ (fun _ h => h) Tryz.underlying111 rfl info_w8) hS0 ?_
  go_frame
  refine wpAnyH_all (rs := [0]) (by kernel_rfl) (by simp) ?_
  simp only [List.mem_singleton, forall_eq]
  have hmk : (Instr.makeSlice 34 (.int .i64 0) (.int .i64 32)).run Tryz.prog w3.drew = .ok (.slice (some ⟨w3.heap.size, 0, none⟩) 0 32) (w3.alloc (.cells (noughts 32) 5)).drew := make_bytes 0 32 (by omega) (by omega) w3.drew
  refine wpOp_runD 15 rfl rfl rfl (.slice (some ⟨w3.heap.size, 0, none⟩) 0 32) (w' := (w3.alloc (.cells (noughts 32) 5)).drew) (by go_simp) ?_
  clear hmk
  have hO4 : OwnB (w3.alloc (.cells (noughts 32) 5)).drew w3.heap.size (.slice (some ⟨w3.heap.size, 0, none⟩) 0 32) [] := OwnB.of_heap (Nat.le_refl _) (heap_alloc_new w3 _) (noughts_size _) (by unfold maxLen; omega) rfl (by simp) (by omega)
  have hB4 : Below w3.heap.size w3 (w3.alloc (.cells (noughts 32) 5)).drew := ((Below.refl _ _).alloc (Nat.le_refl _) _).drew
  have hs4 : w3.heap.size < (w3.alloc (.cells (noughts 32) 5)).drew.heap.size := by simp
  generalize (w3.alloc (.cells (noughts 32) 5)).drew = w4 at hO4 hB4 hs4 ⊢
  have hA4 := HA3.out.below hB4 hw3
  refine ⟨hA4.state, ?_⟩
  go_frame
  refine wpAnyH_all (rs := [3]) (by kernel_rfl) (by simp) ?_
  simp only [List.mem_singleton, forall_eq]
  refine wpOp_callD 18 rfl rfl rfl 81 #[.slice (some ⟨w3.heap.size, 0, none⟩) 0 32, .agg S'.cells.toArray] (by go_simp) ?_
  refine (appendWords_any w3.heap.size _ [] S' w4 hO4 (by simp) (by omega)).mono ?_
  rintro e w5 ⟨v5, rfl, hO5, hB5⟩
  rw [List.nil_append] at hO5
  refine ⟨_, rfl, (hA4.below hB5 hw3).state, ?_⟩
  go_frame
  refine takeH 4 2 v5 rfl rfl (by kernel_rfl) (by kernel_rfl) (by kernel_rfl) (fun _ _ _ h => h) rfl (fun w' hS => by go_simp) (hA4.below hB5 hw3).state ?_
  go_frame
  refine wpAnyH_done (by kernel_rfl) ?_ _
  refine NoPanic.normal ?_
  have HO5 := Lib.hid hO5; clear hO5 hS0
  have HB5 := Lib.hid (HB3.out.trans ((hB4.trans hB5).mono (Nat.le_of_lt hw3))); clear hB4 hB5 hA4 hO4
  go_wp2_with fail
  go_ret
  exact ⟨_, rfl, by rw [← HS'.out]; exact HO5.out.lower (Nat.le_of_lt hw3), HB5.out⟩
end Go.Proofs.YtlnjpmpddomjiaaGreatDoor
namespace Go.Proofs.YtlnjpmpddomjiaaGreatDoor
open Go.RowKit
set_option maxRecDepth 100000 in
set_option maxHeartbeats 1000000 in
theorem copyH_any (hb : Nat) (s : St) (rest : List UInt8) (n : Nat) (w : World) (h : HashAt w hb s rest n) :
    Calls Tryz.prog 115 #[.pointer (some ⟨hb, 0, none⟩)] w fun e w' => e = .returned (.pointer (some ⟨w.heap.size, 0, none⟩)) ∧ HashAt w' w.heap.size s rest n ∧ Below w.heap.size w w' := by
  obtain ⟨t, h1, h2⟩ := h
  have hz := zero_hash
  have HI := Lib.hid h1; clear h1
  have H2 := Lib.hid h2; clear h2
  have HL := Lib.hid (show (hcells s t n).toArray.size = 73 by rw [List.size_toArray, hcells_length _ _ _ HI.out.len])
  go_enter Tryz.func115, Tryz.ntmps115
  go_wp2_with (first
    | ((with_reducible refine wpList_load_mid ?a1 124 (.tmp 7) ?a2 hb 0 ?a3 (hcells s t n) _ HI.out.range Tryz.underlying124 ?a4 ?a5 ?_); (case a1 => rfl); (case a2 => rfl); (case a3 => rfl); (case a4 => rfl); (case a5 => rw [hcells_length _ _ _ HI.out.len]; exact info_h))
    | ((with_reducible refine wpList_store_mid ?b1 124 (.tmp 3) (.tmp 8) ?b2 w.heap.size 0 (hcells s t n).toArray ?b3 ?b4 ?b5 ?b6 (hcells_one s t n) ?_); (case b1 => rfl); (case b2 => rfl); (case b3 => rfl); (case b4 => rfl); (case b5 => rw [HL.out]; exact (Blk.newAt (cs := hzero) _ _ _ rfl rfl).there 0 73 (by decide)); (case b6 => rw [HL.out]; exact info_h)))
  go_ret
  refine ⟨rfl, ⟨t, ⟨?_, HI.out.len⟩, H2.out⟩, below_setCells (Nat.le_refl _) _ ((Below.refl _ _).alloc (Nat.le_refl _) _) 0⟩
  exact (Blk.newAt (cs := hzero) _ _ _ rfl rfl).setAll (by rw [hcells_length _ _ _ HI.out.len]; decide)
end Go.Proofs.YtlnjpmpddomjiaaGreatDoor
