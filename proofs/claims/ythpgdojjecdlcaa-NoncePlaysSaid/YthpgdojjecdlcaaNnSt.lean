/- nonce: a Store in memory; what reads it: isOld, isMarked, Mark, Serial, Len. -/
import Derived.Test.YthpgdojjecdlcaaPnPrune
import Derived.WalkSpells
import Derived.Deep.RegionHeld3
set_option maxRecDepth 100000
namespace Go.Proofs.Ythpgdojjecdlcaa
open Go.RowKit Go.Shelf
abbrev u64v (n : Int) : Value := .int .u64 n
abbrev tSt : TypeId := 73
abbrev tNe : TypeId := 68
/-- A Store's numbers: its window, how many it gave out, the last one's tick, the mark. -/
structure NF where
  wd : Int
  se : Int
  la : Int
  mr : Int
  md : Bool
def nfC (f : NF) (T : Nat) : List Value := [u64v f.wd, tP T, u64v f.se, u64v f.la, u64v f.mr, .bool f.md]
/-- The Store at S over the Table at T. -/
structure NS (w : World) (base S T m cap : Nat) (f : NF) (l : List (List UInt8 × VT)) : Prop where
  tb : TB w base T m cap l
  blk : BlkT w S tSt (nfC f T)
  lo : base ≤ S
section
variable {w w1 w' : World} {base S T m cap : Nat} {f : NF} {l : List (List UInt8 × VT)}
theorem NS.keep (h : NS w base S T m cap f l) (hb : Below w.heap.size w w') : NS w' base S T m cap f l := ⟨h.tb.keep hb, h.blk.below hb h.blk.lt, h.lo⟩
def eV (e : VT) : Value := .agg #[strT e.s, .int .u64 e.a, .bool e.sp, .int .u32 e.ct]
def oldB (wd now : Int) (e : VT) : Bool := decide (e.a < now ∧ ¬ now - e.a ≤ wd)
def mkdB (mk : Int) (md : Bool) (e : VT) : Bool := md && decide (e.a ≤ mk)
def goneB (f : NF) (now : Int) (e : VT) : Bool := oldB f.wd now e || mkdB f.mr f.md e
theorem within_any (a b c : Int) (w : World) (a0 : 0 ≤ a) (a1 : a < 18446744073709551616) (b0 : 0 ≤ b) (b1 : b < 18446744073709551616) :
    Calls Try.prog 52 #[u64v a, u64v b, u64v c] w fun e w' => e = .returned (.bool (decide (b ≤ a ∧ a - b ≤ c))) ∧ w' = w := by
  by_cases h : b ≤ a
  all_goals
    go_enter Try.func52, Try.ntmps52
    go_wp2_with fail
    go_ret
    exact ⟨by first | (simp [h]; done) | (simp; omega), rfl⟩
theorem isOld_any (h : BlkT w S tSt (nfC f T)) (e : VT) (now : Int) (n0 : 0 ≤ now) (n1 : now < 18446744073709551616) (a0 : 0 ≤ e.a) (a1 : e.a < 18446744073709551616) :
    Calls Try.prog 34 #[tP S, eV e, u64v now] w fun e' w' => e' = .returned (.bool (oldB f.wd now e)) ∧ Below w.heap.size w w' := by
  obtain ⟨s, a, sp, ct⟩ := e
  unfold eV oldB
  simp only at a0 a1 ⊢
  obtain ⟨W, hW⟩ : ∃ W, W = w.alloc (.cells #[strT s, .int .u64 a, .bool sp, .int .u32 ct] tNe) := ⟨_, rfl⟩
  have hB : Below w.heap.size w W := by rw [hW]; exact (Below.refl _ w).alloc (Nat.le_refl _) _
  have hP : BlkT W w.heap.size tNe [strT s, .int .u64 a, .bool sp, .int .u32 ct] := by rw [hW]; exact heap_alloc_new w _
  have c1 : (w.alloc (.cells #[strT s, .int .u64 a, .bool sp, .int .u32 ct] tNe)).cell? ⟨w.heap.size, 1, none⟩ = some (.int .u64 a) := by rw [← hW]; exact hP.at rfl
  have c2 : (w.alloc (.cells #[strT s, .int .u64 a, .bool sp, .int .u32 ct] tNe)).cell? ⟨S, 0, none⟩ = some (u64v f.wd) := by rw [← hW]; exact (h.below hB h.lt).at rfl
  rw [hW] at hB
  have HB := Lib.hid hB
  clear h hP hB hW
  obtain ⟨wd, se, la, mk, md⟩ := f
  simp only at c2 ⊢
  by_cases hc : a < now
  · go_enter Try.func34, Try.ntmps34
    go_wp2_with fail
    go_region_held3 (fun w' => w'.cell? ⟨w.heap.size, 1, none⟩ = some (.int .u64 a) ∧ w'.cell? ⟨S, 0, none⟩ = some (u64v wd)) (first | go_keep | exact ⟨c1, c2⟩)
      ((go_at_call 52; refine (within_any now a wd _ n0 n1 a0 a1).mono ?_; rintro e w3 ⟨rfl, rfl⟩))
    all_goals
      go_wp2_with fail
      go_ret
      refine ⟨?_, HB.out.drew⟩
      have h1 : a ≤ now := by omega
      by_cases h2 : now - a ≤ wd
      all_goals first | (simp [h1, h2]; done) | (simp [h1, h2]; omega)
  · have hcd : decide (a < now) = false := decide_eq_false hc
    go_enter Try.func34, Try.ntmps34
    go_wp2_with fail
    go_quiet (fail)
    go_wp2_with fail
    go_ret
    exact ⟨by simp, below_drewN HB.out _⟩
theorem isMarked_any (h : BlkT w S tSt (nfC f T)) (e : VT) :
    Calls Try.prog 35 #[tP S, eV e] w fun e' w' => e' = .returned (.bool (mkdB f.mr f.md e)) ∧ Below w.heap.size w w' := by
  obtain ⟨s, a, sp, ct⟩ := e
  unfold eV mkdB
  simp only
  obtain ⟨W, hW⟩ : ∃ W, W = w.alloc (.cells #[strT s, .int .u64 a, .bool sp, .int .u32 ct] tNe) := ⟨_, rfl⟩
  have hB : Below w.heap.size w W := by rw [hW]; exact (Below.refl _ w).alloc (Nat.le_refl _) _
  have hP : BlkT W w.heap.size tNe [strT s, .int .u64 a, .bool sp, .int .u32 ct] := by rw [hW]; exact heap_alloc_new w _
  have c1 : (w.alloc (.cells #[strT s, .int .u64 a, .bool sp, .int .u32 ct] tNe)).cell? ⟨w.heap.size, 1, none⟩ = some (.int .u64 a) := by rw [← hW]; exact hP.at rfl
  have c2 : (w.alloc (.cells #[strT s, .int .u64 a, .bool sp, .int .u32 ct] tNe)).cell? ⟨S, 4, none⟩ = some (u64v f.mr) := by rw [← hW]; exact (h.below hB h.lt).at rfl
  have c3 : (w.alloc (.cells #[strT s, .int .u64 a, .bool sp, .int .u32 ct] tNe)).cell? ⟨S, 5, none⟩ = some (.bool f.md) := by rw [← hW]; exact (h.below hB h.lt).at rfl
  rw [hW] at hB
  have HB := Lib.hid hB
  clear h hP hB hW
  obtain ⟨wd, se, la, mk, md⟩ := f
  simp only at c2 c3 ⊢
  cases md
  all_goals
    go_enter Try.func35, Try.ntmps35
    go_wp2_with fail
    go_quiet (fail)
    go_wp2_with fail
    go_ret
    exact ⟨by simp, below_drewN HB.out _⟩
theorem sweep1_any {p2 p3 : Addr} (k : List UInt8) (e : VT) (now : Int) (h : BlkT w S tSt (nfC f T)) (h2 : w.cell? p2 = some (tP S)) (h3 : w.cell? p3 = some (u64v now)) (n0 : 0 ≤ now) (n1 : now < 18446744073709551616) (a0 : 0 ≤ e.a) (a1 : e.a < 18446744073709551616) :
    Calls Try.prog gS1 #[strT k, vv e, .pointer (some p2), .pointer (some p3)] w fun e' w' => e' = .returned (.bool (goneB f now e)) ∧ Below w.heap.size w w' := by
  obtain ⟨W, hW⟩ : ∃ W, W = w.alloc (.cells #[strT e.s, .int .u64 e.a, .bool e.sp, .int .u32 e.ct] tNe) := ⟨_, rfl⟩
  have hB : Below w.heap.size w W := by rw [hW]; exact (Below.refl _ w).alloc (Nat.le_refl _) _
  have hP : BlkT W w.heap.size tNe [strT e.s, .int .u64 e.a, .bool e.sp, .int .u32 e.ct] := by rw [hW]; exact heap_alloc_new w _
  have hS : BlkT W S tSt (nfC f T) := h.below hB h.lt
  have e2 : W.cell? p2 = some (tP S) := (hB.cell (World.block_lt_of_cell? w p2 h2)).trans h2
  have e3 : W.cell? p3 = some (u64v now) := (hB.cell (World.block_lt_of_cell? w p3 h3)).trans h3
  have HO := Lib.hid (isOld_any hS e now n0 n1 a0 a1)
  have HK : Hid (∀ V, Below W.heap.size W V → V.cell? p2 = some (tP S) ∧ BlkT V w.heap.size tNe [strT e.s, .int .u64 e.a, .bool e.sp, .int .u32 e.ct] ∧ BlkT V S tSt (nfC f T)) := Lib.hid (fun V hV => ⟨(hV.cell (World.block_lt_of_cell? W p2 e2)).trans e2, hP.below hV hP.lt, hS.below hV hS.lt⟩)
  have d0 : W.cell? ⟨w.heap.size, 0, none⟩ = some (strT e.s) := hP.at rfl
  have d1 : W.cell? ⟨w.heap.size, 1, none⟩ = some (.int .u64 e.a) := hP.at rfl
  have d2 : W.cell? ⟨w.heap.size, 2, none⟩ = some (.bool e.sp) := hP.at rfl
  have d3 : W.cell? ⟨w.heap.size, 3, none⟩ = some (.int .u32 e.ct) := hP.at rfl
  have HB := Lib.hid hB
  unfold vv
  clear h h2 h3 hP hB hS
  obtain ⟨bo, hbo⟩ : ∃ bo, bo = oldB f.wd now e := ⟨_, rfl⟩
  obtain ⟨bm, hbm⟩ : ∃ bm, bm = mkdB f.mr f.md e := ⟨_, rfl⟩
  have hg : goneB f now e = (bo || bm) := by rw [hbo, hbm]; rfl
  rw [hg]
  rw [← hbo] at HO
  go_enter Try.func33, Try.ntmps33
  rw [hW] at e2 e3 d0 d1 d2 d3
  go_wp2_with fail
  rw [← hW]
  refine HO.out.mono ?_
  rintro e' w2 ⟨rfl, hb⟩
  have HB2 := Lib.hid (HB.out.trans (hb.mono HB.out.size))
  obtain ⟨g2, gP, gS⟩ := HK.out w2 hb
  have q0 : w2.cell? ⟨w.heap.size, 0, none⟩ = some (strT e.s) := gP.at rfl
  have q1 : w2.cell? ⟨w.heap.size, 1, none⟩ = some (.int .u64 e.a) := gP.at rfl
  have q2 : w2.cell? ⟨w.heap.size, 2, none⟩ = some (.bool e.sp) := gP.at rfl
  have q3 : w2.cell? ⟨w.heap.size, 3, none⟩ = some (.int .u32 e.ct) := gP.at rfl
  have HM := Lib.hid (isMarked_any gS e)
  rw [← hbm] at HM
  clear e2 e3 d0 d1 d2 d3 hW gP gS hb hbo hbm hg
  cases bo
  · go_wp2_with fail
    refine HM.out.mono ?_
    rintro e' w3 ⟨rfl, hb3⟩
    have HB3 := Lib.hid (HB2.out.trans (hb3.mono HB2.out.size))
    clear hb3
    go_wp2_with fail
    go_ret
    exact ⟨by simp, HB3.out⟩
  · go_wp2_with fail
    go_ret
    exact ⟨by simp, HB2.out⟩
end
end Go.Proofs.Ythpgdojjecdlcaa
