/- trace: what TraceFinds' last loop keeps. -/
import Derived.Test.YtockimgedckheaaGreatDoorTvW
import Derived.Test.YtockimgedckheaaGreatDoorTvFc
set_option maxRecDepth 100000
namespace Go.Proofs.YtockimgedckheaaGreatDoor
open Go Go.RowKit Go.Shelf
theorem trs_putObj (A : World) (l : Nat) (o' : Obj) : Trs [l] A (A.putObj l o') := by
  have g := grownBy_putObj' A l o'
  exact ⟨g.os, g.tape, g.output, g.size, fun k hk hn => g.block k hk (fun e => hn (by rw [Option.some.inj e]; simp))⟩
theorem blkV_kc {b g : Nat} {A B : World} {cs : List Value} (h : Blk A g cs) (hk : KC b A B) (hb : b ≤ g) : Blk B g cs := by
  obtain ⟨t, h⟩ := h; exact ⟨t, hk _ _ _ _ hb h⟩
theorem row_cells {w : World} {base : Nat} {e : TypeId} {z : Nat} {v : Value} {n k : Nat} {xs : List Value} (h : w.ownsRow base e z v n xs) (hk : v.ownBlock = some k) : ∃ c t f, w.heap[k]? = some (.cells c t f) := by
  rcases h.2 with ⟨rfl, _⟩ | ⟨g1, _, _, rfl, _, hg1, _⟩
  · simp [Value.ownBlock] at hk
  · have : g1 = k := by simpa [Value.ownBlock] using hk
    subst this
    exact ⟨_, _, _, hg1⟩
section
variable {w w' : World} {base b room last : Nat} {V C : Value} {L : List EvL} {ch : List UInt8}
theorem TR.put (h : TR w base b room V C L last ch) {l : Nat} {o o' : Obj} (hl : base ≤ l) (ho : w.heap[l]? = some o) (hc : o.isCells = false) : TR (w.putObj l o') base b room V C L last ch := by
  have hk := kc_putObj (b := 0) (o' := o') ho hc
  have ht := trs_putObj w l o'
  exact ⟨blkV_kc h.blk hk (Nat.zero_le _), ownsRow_kc h.own (Nat.zero_le _) hk, ownsRow_kc h.chn (Nat.zero_le _) hk, h.geb, h.apb, h.apv, h.r1, h.r2, h.len, h.lst, h.c32, h.tab.trs ht (fun hm => by rw [List.mem_singleton] at hm; have := h.gt; omega), h.pow.trs ht (fun hm => by rw [List.mem_singleton] at hm; have := h.gp; omega), h.gt, h.gp⟩
theorem TR.cellsS (h : TR w base b room V C L last ch) : ∀ k ∈ trS b V C, ∃ c t f, w.heap[k]? = some (.cells c t f) := by
  intro k hk
  rcases mem_trS.1 hk with rfl | hk | hk
  · obtain ⟨t, ht⟩ := h.blk; exact ⟨_, _, _, ht⟩
  · exact row_cells h.own hk
  · exact row_cells h.chn hk
end
def ownC (A : World) (p : Addr) : List Nat := match A.cell? p with | some v => v.ownBlock.toList | none => []
/-- The counter's box, the Trace, its row and its chain. -/
def finS (nb T : Nat) (A : World) : List Nat := nb :: T :: (ownC A ⟨T, 1, none⟩ ++ ownC A ⟨T, 3, none⟩)
theorem finS_mv (nb T b0 : Nat) (h : T < b0) : MvV (finS nb T) b0 := fun A B hk => by
  have e1 : B.cell? ⟨T, 1, none⟩ = A.cell? ⟨T, 1, none⟩ := by simp only [World.cell?, hk T h]
  have e3 : B.cell? ⟨T, 3, none⟩ = A.cell? ⟨T, 3, none⟩ := by simp only [World.cell?, hk T h]
  unfold finS ownC
  rw [e1, e3]
theorem finS_eq {w : World} {base b room last nb : Nat} {V C : Value} {L : List EvL} {ch : List UInt8} (h : TR w base b room V C L last ch) : finS nb b w = nb :: trS b V C := by
  have e1 : w.cell? ⟨b, 1, none⟩ = some V := h.blk.at (o := 1) rfl
  have e3 : w.cell? ⟨b, 3, none⟩ = some C := h.blk.at (o := 3) rfl
  unfold finS ownC trS
  rw [e1, e3]
/-- The last loop under way: m events have been added. -/
structure GF (w0 : World) (base T tb bx nb N : Nat) (k : Int) (VX : Value) (m : Nat) (A : World) : Prop where
  tr : ∃ V C L ch, TR A base T 20 V C L (N + m) ch ∧ L.length ≤ 20 ∧ ∀ q ∈ trS T V C, q ≠ nb ∧ q ≠ nb + 1 ∧ q ≠ tb ∧ q ≠ bx
  bn : Blk A nb [.int .i64 (m : Int)]
  bk : Blk A (nb + 1) [.int .i64 k]
  bt : Blk A tb [tQ T]
  fx : Blk A bx [.int .i64 20, VX]
  low : Below w0.heap.size w0 A
  sep : nb ≠ tb ∧ nb ≠ bx ∧ base ≤ nb ∧ w0.heap.size ≤ base
section
variable {w0 A B : World} {base T tb bx nb N m : Nat} {k : Int} {VX : Value}
theorem GF.below (h : GF w0 base T tb bx nb N k VX m A) (hb : Below A.heap.size A B) : GF w0 base T tb bx nb N k VX m B := by
  obtain ⟨V, C, L, ch, h1, h2, h3⟩ := h.tr
  exact ⟨⟨V, C, L, ch, h1.below hb, h2, h3⟩, h.bn.below hb h.bn.lt, h.bk.below hb h.bk.lt, h.bt.below hb h.bt.lt, h.fx.below hb h.fx.lt, h.low.trans (hb.mono h.low.size), h.sep⟩
theorem GF.put (h : GF w0 base T tb bx nb N k VX m A) {l : Nat} {o o' : Obj} (hl : base ≤ l) (ho : A.heap[l]? = some o) (hc : o.isCells = false) : GF w0 base T tb bx nb N k VX m (A.putObj l o') := by
  obtain ⟨V, C, L, ch, h1, h2, h3⟩ := h.tr
  have hk := kc_putObj (b := 0) (o' := o') ho hc
  exact ⟨⟨V, C, L, ch, h1.put hl ho hc, h2, h3⟩, blkV_kc h.bn hk (Nat.zero_le _), blkV_kc h.bk hk (Nat.zero_le _), blkV_kc h.bt hk (Nat.zero_le _), blkV_kc h.fx hk (Nat.zero_le _), below_putObj h.low h.low.size (Nat.le_trans h.sep.2.2.2 hl), h.sep⟩
theorem GF.inS (h : GF w0 base T tb bx nb N k VX m A) : ∀ q ∈ finS nb T A, q < A.heap.size := by
  obtain ⟨V, C, L, ch, h1, h2, h3⟩ := h.tr
  rw [finS_eq h1]
  intro q hq
  rcases List.mem_cons.1 hq with rfl | hq
  · exact h.bn.lt
  · exact (h1.inS q hq).2
theorem keepL_le (room : Nat) (xs : List EvL) (h : xs.length ≤ room + 1) : (keepL room xs).length ≤ room := by
  unfold keepL
  split
  · rw [List.length_drop]; omega
  · omega
theorem GF.add (h : GF w0 base T tb bx nb N k VX m A) (hN : N + m ≤ 1000) (b0 K0 : Nat) :
    Calls Tryz.prog 26 #[tQ T, .int .u64 1, str [109, 111, 114, 101], .int .i64 0, str []] A fun x B => (∃ n f : Int, x = .returned (.tuple #[.int .u64 n, .int .i64 f])) ∧
      B.cell? ⟨nb, 0, none⟩ = some (.int .i64 (m : Int)) ∧ B.frozen? ⟨nb, 0, none⟩ = false ∧ GF w0 base T tb bx nb N k VX (m + 1) (B.setCell ⟨nb, 0, none⟩ (.int .i64 ((m : Int) + 1))) ∧
      KpV (finS nb T) b0 A (B.setCell ⟨nb, 0, none⟩ (.int .i64 ((m : Int) + 1))) ∧ KeepsFrom K0 A (B.setCell ⟨nb, 0, none⟩ (.int .i64 ((m : Int) + 1))) := by
  obtain ⟨V, C, L, ch, h1, h2, h3⟩ := h.tr
  have hok : EvL.Ok ⟨N + m + 1, 1, [109, 111, 114, 101], 0, []⟩ := ⟨by show 1 ≤ N + m + 1; omega, by show N + m + 1 ≤ _; omega, (by decide : (1 : Nat) ≤ 1099511627776), (by decide +kernel : plainL [109, 111, 114, 101] = true), (by decide : (0 : Int) ≤ 0), (by decide : (0 : Int) ≤ 2147483647), (by decide : (0 : Nat) ≤ 200)⟩
  refine (add_ok h1 h2 1 [109, 111, 114, 101] 0 [] hok (by omega)).mono ?_
  rintro x B ⟨rfl, V', C', hT, ht, hnew⟩
  have hz := ht.size
  have hS := h1.inS
  have nm : ∀ q, (q = nb ∨ q = nb + 1 ∨ q = tb ∨ q = bx) → q ∉ trS T V C := fun q hq hm => by have := h3 q hm; omega
  have hbn := ht.blk h.bn (nm _ (.inl rfl))
  have hbk := ht.blk h.bk (nm _ (.inr (.inl rfl)))
  have hbt := ht.blk h.bt (nm _ (.inr (.inr (.inl rfl))))
  have hbx := ht.blk h.fx (nm _ (.inr (.inr (.inr rfl))))
  have l1 := h.bn.lt; have l2 := h.bk.lt; have l3 := h.bt.lt; have l4 := h.fx.lt
  have hS' : ∀ q ∈ trS T V' C', q ≠ nb ∧ q ≠ nb + 1 ∧ q ≠ tb ∧ q ≠ bx := fun q hq => by
    rcases hnew q hq with e | e
    · exact h3 q e
    · omega
  have hset : Trs [nb] B (B.setCell ⟨nb, 0, none⟩ (.int .i64 ((m : Int) + 1))) := (Trs.refl [nb] B).set (p := ⟨nb, 0, none⟩) (by simp) _
  have hT2 := hT.trs hset (fun q hq hm => (hS' q hq).1 (List.mem_singleton.1 hm)) (fun q hq => by rw [List.mem_singleton] at hq; rw [hq]; exact h.sep.2.2.1)
  have hall : Trs (nb :: trS T V C) A (B.setCell ⟨nb, 0, none⟩ (.int .i64 ((m : Int) + 1))) := (ht.mono (fun q hq => List.mem_cons_of_mem _ hq)).trans (hset.mono (fun q hq => by rw [List.mem_singleton] at hq; rw [hq]; simp))
  have em : ((m + 1 : Nat) : Int) = (m : Int) + 1 := Int.natCast_succ m
  refine ⟨⟨_, _, rfl⟩, hbn.at (o := 0) rfl, hbn.free 0, ⟨⟨V', C', _, _, hT2, keepL_le 20 _ (by rw [List.length_append]; simp; omega), hS'⟩, ?_, ?_, ?_, ?_, ?_, h.sep⟩, ⟨hall.size, fun _ => ⟨fun q c t f hq ho => ?_, fun q hq => ?_⟩⟩, ⟨hall.size, fun q o _ ho hc => ?_⟩⟩
  · have := hbn.set 0 (.int .i64 ((m : Int) + 1)); rw [em]; exact this
  · exact hbk.setOther (by show nb ≠ nb + 1; omega) _
  · exact hbt.setOther h.sep.1 _
  · exact hbx.setOther h.sep.2.1 _
  · exact h.low.trans (hall.toBelow h.low.size (fun q hq => by
      rcases List.mem_cons.1 hq with rfl | hq
      · exact Nat.le_trans h.sep.2.2.2 h.sep.2.2.1
      · exact Nat.le_trans h.sep.2.2.2 (hS q hq).1))
  · rw [finS_eq h1] at hq
    exact (hall.block q (Array.getElem?_eq_some_iff.1 ho).1 hq).trans ho
  · rw [finS_eq hT2] at hq
    rw [finS_eq h1]
    rcases List.mem_cons.1 hq with rfl | hq
    · exact .inl (by simp)
    · rcases hnew q hq with e | e
      · exact .inl (List.mem_cons_of_mem _ e)
      · exact .inr e
  · refine (hall.block q (Array.getElem?_eq_some_iff.1 ho).1 (fun hm => ?_)).trans ho
    rcases List.mem_cons.1 hm with rfl | hm
    · obtain ⟨t, hb⟩ := h.bn; rw [hb] at ho; cases ho; cases hc
    · obtain ⟨c, t, f, hb⟩ := h1.cellsS q hm; rw [hb] at ho; cases ho; cases hc
end
/-- The last loop under way, and the boxes of what tells the events. -/
structure GZ (w0 : World) (base T tb bx nb N : Nat) (k : Int) (VX : Value) (z m : Nat) (A : World) : Prop where
  g : GF w0 base T tb bx nb N k VX m A
  ap : ∀ q ∈ finS nb T A, q ≠ z ∧ q ≠ z + 1 ∧ q ≠ z + 1 + 1
  z0 : Blk A z [.int .u64 0]
  z1 : Blk A (z + 1) [tQ T]
  z2 : Blk A (z + 1 + 1) [sinceF z]
section
variable {w0 A B : World} {base T tb bx nb N m m' z : Nat} {k : Int} {VX : Value}
theorem GF.tlt (h : GF w0 base T tb bx nb N k VX m A) : T < A.heap.size := by
  obtain ⟨V, C, L, ch, h1, _⟩ := h.tr
  exact h1.blk.lt
theorem GZ.below (h : GZ w0 base T tb bx nb N k VX z m A) (hb : Below A.heap.size A B) : GZ w0 base T tb bx nb N k VX z m B := by
  have ht := h.g.tlt
  refine ⟨h.g.below hb, ?_, h.z0.below hb h.z0.lt, h.z1.below hb h.z1.lt, h.z2.below hb h.z2.lt⟩
  rw [finS_mv nb T (T + 1) (by omega) A B (fun q hq => hb.block q (by omega))]
  exact h.ap
theorem GZ.put (h : GZ w0 base T tb bx nb N k VX z m A) {l : Nat} {o o' : Obj} (hl : base ≤ l) (hlT : T < l) (ho : A.heap[l]? = some o) (hc : o.isCells = false) : GZ w0 base T tb bx nb N k VX z m (A.putObj l o') := by
  have hk := kc_putObj (b := 0) (o' := o') ho hc
  refine ⟨h.g.put hl ho hc, ?_, blkV_kc h.z0 hk (Nat.zero_le _), blkV_kc h.z1 hk (Nat.zero_le _), blkV_kc h.z2 hk (Nat.zero_le _)⟩
  rw [finS_mv nb T (T + 1) (by omega) A (A.putObj l o') (fun q hq => World.putObj_heap_other (by omega))]
  exact h.ap
theorem GZ.kp (h : GZ w0 base T tb bx nb N k VX z m A) (hg : GF w0 base T tb bx nb N k VX m' B) (hk : KpV (finS nb T) (T + 1) A B) : GZ w0 base T tb bx nb N k VX z m' B := by
  obtain ⟨h1, h2⟩ := hk.2 h.g.tlt
  have l0 := h.z0.lt; have l1 := h.z1.lt; have l2 := h.z2.lt
  have hb : ∀ (q : Nat) (cs : List Value), (q = z ∨ q = z + 1 ∨ q = z + 1 + 1) → Blk A q cs → Blk B q cs := fun q cs hq ⟨t, hb⟩ => ⟨t, h1 q _ _ _ (fun hm => by have := h.ap q hm; omega) hb⟩
  refine ⟨hg, fun q hq => ?_, hb _ _ (.inl rfl) h.z0, hb _ _ (.inr (.inl rfl)) h.z1, hb _ _ (.inr (.inr rfl)) h.z2⟩
  rcases h2 q hq with e | e
  · exact h.ap q e
  · omega
end
end Go.Proofs.YtockimgedckheaaGreatDoor
