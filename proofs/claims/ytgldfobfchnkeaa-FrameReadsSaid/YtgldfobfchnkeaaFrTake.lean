/- The law's take: some frames of a Reader. -/
import Derived.Test.YtgldfobfchnkeaaFrSeq
import Derived.Maps.AppendAt
import Derived.Maps.OwnIn
import Derived.Deep.AppendLies
namespace Go.Proofs.Ytgldfobfchnkeaa
open Go.RowKit Go.Shelf
attribute [local go_sem] Oper.semAt_some
theorem info_fr : (Try.prog.info? 27).map (fun i => (i.zero, i.size, i.bytes)) = some (some (.agg #[.int .u8 0, .slice none 0 0]), 2, 32) := by kernel_rfl

/-- What is cells from block b on lies as it lay. -/
def KC (b : Nat) (A B : World) : Prop := ∀ k c t f, b ≤ k → A.heap[k]? = some (.cells c t f) → B.heap[k]? = some (.cells c t f)
theorem KeepsAt.kc {b : Nat} {A B : World} (h : KeepsAt b A B) : KC b A B := fun _ _ _ _ hk ho => h.some hk ho
theorem kc_own {b B : Nat} {A W : World} {row : Option Nat} (hg : A.grownBy W row) (hr : ∀ r, row = some r → B ≤ r ∧ ∃ o : Obj, A.heap[r]? = some o ∧ o.isCells = false) : KC b A W := fun k c t f _ ho => by
  refine (hg.block k (Array.getElem?_eq_some_iff.1 ho).1 (fun e => ?_)).trans ho
  obtain ⟨_, o, ho', hc⟩ := hr k e.symm
  rw [ho] at ho'
  cases ho'
  cases hc
theorem below_own {b B : Nat} {A W : World} {row : Option Nat} (hb : b ≤ B) (hbA : b ≤ A.heap.size) (hg : A.grownBy W row) (hr : ∀ r, row = some r → B ≤ r ∧ ∃ o : Obj, A.heap[r]? = some o ∧ o.isCells = false) : Below b A W :=
  ⟨hg.os, hg.tape, hg.output, hg.size, fun k hk => hg.block k (by omega) (fun e => by have := (hr k e.symm).1; omega)⟩
theorem ownsRow_kc {b base : Nat} {A W : World} {e : TypeId} {size : Nat} {v : Value} {n : Nat} {xs : List Value} (h : A.ownsRow base e size v n xs) (hb : b ≤ base) (hk : KC b A W) : W.ownsRow base e size v n xs := by
  obtain ⟨h1, h2 | ⟨g, cap, cur, rfl, hbg, hg, h3⟩⟩ := h
  · exact ⟨h1, .inl h2⟩
  · exact ⟨h1, .inr ⟨g, cap, cur, rfl, hbg, hk _ _ _ _ (by omega) hg, h3⟩⟩
/-- Slices of unlike elements lie in unlike blocks. -/
theorem apart_rows {W : World} {b1 b2 : Nat} {e1 e2 : TypeId} {s1 s2 n1 n2 : Nat} {v1 v2 : Value} {x1 x2 : List Value} (h1 : W.ownsRow b1 e1 s1 v1 n1 x1) (h2 : W.ownsRow b2 e2 s2 v2 n2 x2) (he : e1 ≠ e2) : v1.ownBlock = none ∨ v1.ownBlock ≠ v2.ownBlock := by
  rcases h1.2 with ⟨rfl, _⟩ | ⟨g1, _, _, rfl, _, hg1, _⟩
  · exact .inl rfl
  · right
    intro e
    rcases h2.2 with ⟨rfl, _⟩ | ⟨g2, _, _, rfl, _, hg2, _⟩
    · simp [Value.ownBlock] at e
    · have : g1 = g2 := by simpa [Value.ownBlock] using e
      subst this
      rw [hg1] at hg2
      injection hg2 with h
      injection h with _ h _
      exact he h
theorem apart_box {W : World} {b1 : Nat} {e1 t : TypeId} {s1 n1 B : Nat} {v1 v : Value} {x1 : List Value} (h1 : W.ownsRow b1 e1 s1 v1 n1 x1) (h2 : Boxed W B t v) (he : e1 ≠ t) : v1.ownBlock ≠ some B := by
  intro e
  rcases h1.2 with ⟨rfl, _⟩ | ⟨g1, _, _, rfl, _, hg1, _⟩
  · simp [Value.ownBlock] at e
  · have : g1 = B := by simpa [Value.ownBlock] using e
    subst this
    have h3 : W.heap[g1]? = some (.cells #[v] t (0, 0)) := h2
    rw [h3] at hg1
    injection hg1 with h
    injection h with _ h _
    exact he h.symm
theorem OwnB.keep1 {W w1 : World} {b B : Nat} {t e : TypeId} {size n : Nat} {v v' y : Value} {xs : List Value} {l : List UInt8} {tmp : Obj} (h : OwnB W b y l) (hv : Boxed W B t v) (hr : W.ownsRow b e size v n xs) (he : 5 ≠ e) (ht : 5 ≠ t) (hg : (W.alloc tmp).grownBy w1 v.ownBlock) : OwnB (w1.setCell ⟨B, 0, none⟩ v') b y l := by
  have h1 := (h.below ((Below.refl _ W).alloc (Nat.le_refl _) tmp)).kept hg (apart_rows h hr he)
  exact h1.kept (grown_set w1 ⟨B, 0, none⟩ v') (.inr (apart_box h hv ht))
def fcells (pre : List Told) : List Value := pre.flatMap fun x => [vb x.1, x.2.1]
theorem fcells_snoc (pre : List Told) (x : Told) : fcells (pre ++ [x]) = fcells pre ++ [vb x.1, x.2.1] := by unfold fcells; simp
/-- What take keeps in memory: its boxes from block b on, the frames so far. -/
structure Cal (b : Nat) (most : Nat) (ptr : Value) (pre : List Told) (W : World) : Prop where
  bm : Boxed W b 3 (.int .i64 (most : Int))
  out : ∃ v, Boxed W (b + 1) 54 v ∧ W.ownsRow b 27 2 v pre.length (fcells pre)
  bds : ∀ x ∈ pre, OwnB W b x.2.1 x.2.2
  bx : Boxed W (b + 2) 43 ptr
theorem Cal.kc {b most : Nat} {ptr : Value} {pre : List Told} {A B : World} (h : Cal b most ptr pre A) (hk : KC b A B) : Cal b most ptr pre B := by
  obtain ⟨v, hv, hr⟩ := h.out
  exact ⟨hk _ _ _ _ (Nat.le_refl _) h.bm, ⟨v, hk _ _ _ _ (by omega) hv, ownsRow_kc hr (Nat.le_refl _) hk⟩, fun x hx => ownsRow_kc (h.bds x hx) (Nat.le_refl _) hk, hk _ _ _ _ (by omega) h.bx⟩
set_option maxRecDepth 100000 in
set_option maxHeartbeats 4000000 in
theorem take_core (ptr : Value) (hp : ptr = .pointer none ∨ ∃ g, ptr = .pointer (some ⟨g, 0, none⟩)) (most : Nat) (hm0 : 1 ≤ most) (hm1 : most ≤ 1000) (w : World) (RS RSd : List Told → World → Prop) (ms : World → Nat) (μ : List Told → Nat)
    (hRS : ∀ pre A B, RS pre A → Below w.heap.size A B → RS pre B) (hRSd : ∀ pre A B, RSd pre A → Below w.heap.size A B → RSd pre B)
    (hsz : ∀ pre A, RS pre A → w.heap.size ≤ A.heap.size) (hszd : ∀ pre A, RSd pre A → w.heap.size ≤ A.heap.size)
    (hms : ∀ pre W, RS pre W → ms W = μ pre)
    (hN : ∀ pre W, RS pre W → Calls Try.prog 18 #[ptr] W fun e W' => KeepsAt w.heap.size W W' ∧ ((∃ c : Int, (c != 0) = true ∧ e = .returned (.tuple #[.agg #[.int .u8 0, .slice none 0 0], .int .i64 c]) ∧ RSd pre W') ∨ (∃ x : Told, (∃ A n c, x.2.1 = .slice A n c) ∧ e = .returned (.tuple #[toldV x, .int .i64 0]) ∧ RS (pre ++ [x]) W' ∧ OwnB W' w.heap.size x.2.1 x.2.2 ∧ μ (pre ++ [x]) < μ pre)))
    (h0 : RS [] w) :
    Calls Try.prog 20 #[ptr, .int .i64 (most : Int)] w fun e W' => ∃ v fs, e = .returned v ∧ W'.ownsRow w.heap.size 27 2 v fs.length (fcells fs) ∧ (∀ x ∈ fs, OwnB W' w.heap.size x.2.1 x.2.2) ∧ ((RSd fs W' ∧ fs.length < most) ∨ (RS fs W' ∧ fs.length = most)) := by
  obtain ⟨i0, hi, hz0, hz1, hz2⟩ := info_parts info_fr
  have hmz : ((most : Int) == 0) = false := by simp; omega
  have hFA := Lib.hid (fun W => frames_any ptr W hp)
  refine (callsIn_wide (n := 8)).1 ?_
  refine callsIn_of_wp_marks Try.func20 rfl trivial ?_ rfl
  simp only [Try.ntmps20, List.size_toArray, List.length_cons, List.length_nil, Nat.reduceAdd, Nat.reduceSub, Array.replicate_succ, Array.replicate_zero, List.push_toArray, List.append_toArray, List.nil_append, List.cons_append]
  gi_wp2
  refine ⟨trivial, (callsIn_wide.2 (hFA.out _)).mono ?_⟩
  rintro e w' ⟨rfl, rfl⟩
  gi_wp2
  have bM := ((Boxed.new w 3 (.int .i64 (most : Int))).alloc (.cells #[.slice none 0 0] 54)).alloc (.cells #[ptr] 43)
  have bO := (Boxed.new (w.alloc (.cells #[.int .i64 (most : Int)] 3)) 54 (.slice none 0 0)).alloc (.cells #[ptr] 43)
  have bX := Boxed.new ((w.alloc (.cells #[.int .i64 (most : Int)] 3)).alloc (.cells #[.slice none 0 0] 54)) 43 ptr
  simp only [World.size_alloc] at bO bX
  have hB0 : Below w.heap.size w (((w.alloc (.cells #[.int .i64 (most : Int)] 3)).alloc (.cells #[.slice none 0 0] 54)).alloc (.cells #[ptr] 43)) :=
    (((Below.refl _ w).alloc (Nat.le_refl _) _).alloc (by simp) _).alloc (by simp; omega) _
  generalize hW0 : World.alloc _ _ = W0 at bM bO bX hB0 ⊢
  have hsz0 : W0.heap.size = w.heap.size + 3 := by rw [← hW0]; simp
  clear hW0
  refine wpIn_rangeFunc_st rfl (by omega) (gf := gFr) (lb := #[.pointer (some ⟨w.heap.size + 1 + 1, 0, none⟩)]) rfl trivial (enters_of Try.func32 (by kernel_rfl) rfl) (encs := fun x : Told => #[toldV x])
    (fun pre W => RS pre W ∧ Cal w.heap.size most ptr pre W ∧ pre.length < most)
    (fun pre x W => RS (pre ++ [x]) W ∧ Cal w.heap.size most ptr pre W ∧ OwnB W w.heap.size x.2.1 x.2.2 ∧ pre.length < most ∧ (∃ A n c, x.2.1 = .slice A n c))
    (fun xs W => RSd xs W ∧ Cal w.heap.size most ptr xs W ∧ xs.length < most)
    (fun c pre W => RS pre W ∧ Cal w.heap.size most ptr pre W ∧ c = .exit 0 ∧ pre.length = most)
    ?seq (fun _ => rfl)
    (fun pre A B row hs hg hr => ⟨hRS _ _ _ hs.1 (below_own (by omega) (hsz _ _ hs.1) hg hr), hs.2.1.kc (kc_own hg hr), hs.2.2⟩)
    (fun pre x _ A B row hs hg hr => ⟨hRS _ _ _ hs.1 (below_own (by omega) (hsz _ _ hs.1) hg hr), hs.2.1.kc (kc_own hg hr), ownsRow_kc hs.2.2.1 (Nat.le_refl _) (kc_own hg hr), hs.2.2.2⟩)
    (fun pre A B row hs hg hr => ⟨hRSd _ _ _ hs.1 (below_own (by omega) (hszd _ _ hs.1) hg hr), hs.2.1.kc (kc_own hg hr), hs.2.2⟩)
    (fun c pre A B row hs hg hr => ⟨hRS _ _ _ hs.1 (below_own (by omega) (hsz _ _ hs.1) hg hr), hs.2.1.kc (kc_own hg hr), hs.2.2⟩)
    ⟨hRS _ _ _ h0 hB0, ⟨bM, ⟨_, bO, World.ownsRow_nil _ _ _ _⟩, (fun _ h => by cases h), bX⟩, by show 0 < most; omega⟩
    (fun x a' W => ∃ Bx, W.heap[Bx]? = some (.cells #[vb x.1, x.2.1] 27 (0, 0)) ∧ w.heap.size ≤ Bx ∧ a' = { tmps := #[ptr, .int .i64 (most : Int), undef, .pointer (some ⟨w.heap.size, 0, none⟩), .slice none 0 0, .pointer (some ⟨w.heap.size + 1, 0, none⟩), .pointer (some ⟨Bx, 0, none⟩), .int .i64 (most : Int), .bool false, ptr, .func (.func gFr) #[] #[.pointer (some ⟨w.heap.size + 1 + 1, 0, none⟩)], toldV x, undef, undef, undef, undef, undef, undef, undef, undef, undef], defers := [] })
    (fun x a' _ A B row hs hg hr => by obtain ⟨Bx, h1, h2, h3⟩ := hs; exact ⟨Bx, kc_own (b := w.heap.size) hg hr _ _ _ _ h2 h1, h2, h3⟩)
    ?assign ?body ?done ?stop
  case seq =>
    intro l R Jx W hRk hY hI hR hsW
    refine frames_in _ (by omega) l (w.heap.size + 1 + 1) W0.heap.size ptr (fun pre W => RS pre W ∧ Cal w.heap.size most ptr pre W ∧ pre.length < most)
      (fun pre x W => RS (pre ++ [x]) W ∧ Cal w.heap.size most ptr pre W ∧ OwnB W w.heap.size x.2.1 x.2.2 ∧ pre.length < most ∧ (∃ A n c, x.2.1 = .slice A n c))
      (fun xs W => RSd xs W ∧ Cal w.heap.size most ptr xs W ∧ xs.length < most) ms μ R Jx ?_ ?_ ?_ ?_ ?_ hRk hY W hI hR
    · exact fun pre W h => h.2.1.bx.cell
    · exact fun pre W h => hms pre W h.1
    · rintro pre W ⟨h1, h2, h3⟩
      refine (hN pre W h1).mono ?_
      rintro e W' ⟨hk, ⟨c, hc, he, hd⟩ | ⟨x, hx, he, hd, ho, hlt⟩⟩
      · exact ⟨⟨hk.1, fun k hk' hl => hk.2 k (by omega) hl⟩, .inl ⟨c, hc, he, hd, h2.kc hk.kc, h3⟩⟩
      · exact ⟨⟨hk.1, fun k hk' hl => hk.2 k (by omega) hl⟩, .inr ⟨x, hx, he, ⟨hd, h2.kc hk.kc, ho, h3, hx⟩, hlt⟩⟩
    · rintro pre x W o ⟨h1, h2, h3, h4⟩
      exact ⟨hRS _ _ _ h1 ((Below.refl _ W).alloc (hsz _ _ h1) _), h2.kc (KeepsAt.kc ((KeepsAt.refl _ W).alloc _)), h3.below ((Below.refl _ W).alloc (Nat.le_refl _) _), h4⟩
    · rintro pre W o ⟨h1, h2, h3⟩
      exact ⟨hRSd _ _ _ h1 ((Below.refl _ W).alloc (hszd _ _ h1) _), h2.kc (KeepsAt.kc ((KeepsAt.refl _ W).alloc _)), h3⟩
  case assign =>
    rintro l pre ⟨k, v, bd⟩ W K ⟨h1, h2, h3, h4, A, m, c, h5⟩ hK
    simp only at h5
    subst h5
    have hs := hsz _ _ h1
    gi_wp2
    refine hK _ _ ((KeepsOthers.alloc _ _).from _) ⟨hRS _ _ _ h1 ((Below.refl _ W).alloc hs _), h2.kc (KeepsAt.kc ((KeepsAt.refl _ W).alloc _)), h3.below ((Below.refl _ W).alloc (Nat.le_refl _) _), h4, _, _, _, rfl⟩ ⟨W.heap.size, heap_alloc_new W _, hs, rfl⟩
  case body =>
    rintro l pre ⟨k, v, bd⟩ a' W ⟨h1, h2, h3, h4, A, m, c, h5⟩ ⟨Bx, hbx, hbb, rfl⟩
    simp only at h5
    subst h5
    have hs := hsz _ _ h1
    obtain ⟨v, hv, hr⟩ := h2.out
    have hBx : Blk W Bx [vb k, .slice A m c] := ⟨_, hbx⟩
    have hc0 := hBx.at (o := 0) rfl
    have hc1 := hBx.at (o := 1) rfl
    have hc := hv.cell
    have hcm := h2.bm.cell
    clear hBx
    gi_wp2_with (gi_at_builtin; refine wpListIn_append_own _ rfl _ _ 54 rfl w.heap.size 27 i0 (.agg #[.int .u8 0, .slice none 0 0]) 2 32 Try.underlying54 hi hz0 hz1 hz2 rfl (by decide) _ _ _ rfl (hr.alloc _) ⟨W.heap.size, 0, none⟩ 1 1 [vb k, .slice A m c] rfl rfl (World.news_of_block (heap_alloc_new W _)) (by simp [Value.oneCell']) (by unfold maxLen; omega) (by omega) (by simp; omega) ?_; intro v' w1 hown' hgrow _; obtain ⟨g', cap', rfl⟩ := ownsRow_succ hown'; obtain ⟨hv1, hv2, hr2, hk2, hb2⟩ := hv.appended (by decide) hr hs (by omega) hown' hgrow; have hc1' := hv1.cell; have hf1' := hv1.frozen; have hcv2 := hv2.cell; have hM2 := ((h2.bm.alloc _).kept hgrow (h2.bm.not_row (by decide) hr)).other (show w.heap.size ≠ w.heap.size + 1 by omega) (.slice (some ⟨g', 0, none⟩) (pre.length + 1) cap'); have hX2 := ((h2.bx.alloc _).kept hgrow (h2.bx.not_row (by decide) hr)).other (show w.heap.size + 2 ≠ w.heap.size + 1 by omega) (.slice (some ⟨g', 0, none⟩) (pre.length + 1) cap'); have hcm2 := hM2.cell; have hK2 := fun (y : Value) (l' : List UInt8) (h : OwnB W w.heap.size y l') => OwnB.keep1 (v' := .slice (some ⟨g', 0, none⟩) (pre.length + 1) cap') h hv hr (by decide) (by decide) hgrow; have hCal : Cal w.heap.size most ptr (pre ++ [(k, .slice A m c, bd)]) (w1.setCell ⟨w.heap.size + 1, 0, none⟩ (.slice (some ⟨g', 0, none⟩) (pre.length + 1) cap')) := ⟨hM2, ⟨_, hv2, by rw [fcells_snoc, List.length_append]; exact hr2⟩, (fun y hy => by rcases List.mem_append.1 hy with h | h; exact hK2 _ _ (h2.bds y h); rw [List.mem_singleton] at h; subst h; exact hK2 _ _ h3), hX2⟩)
    · have he : pre.length + 1 = most := by
        have h : ((pre.length : Int) + 1 == (most : Int)) = true := by assumption
        have := beq_iff_eq.1 h
        omega
      exact ⟨hk2.from _, hRS _ _ _ h1 hb2, hCal, rfl, by simpa using he⟩
    · have he : pre.length + 1 ≠ most := by
        intro e
        have h : ((pre.length : Int) + 1 == (most : Int)) = false := by assumption
        have := beq_eq_false_iff_ne.1 h
        omega
      exact ⟨hk2.from _, hRS _ _ _ h1 hb2, hCal, by simp; omega⟩
  case done =>
    rintro D xs W hD ⟨h1, h2, h3⟩ hK
    obtain ⟨v, hv, hr⟩ := h2.out
    have hc := hv.cell
    have hs := hszd _ _ h1
    gi_wp2
    refine ⟨by simp, .inl ⟨_, _, rfl, run_takeDeferred hK, ?_⟩⟩
    have hko : KC w.heap.size W (W.putObj D (.deferred none)) := kc_own (B := 0) (grownBy_putObj' W D _) (fun r e => by cases e; exact ⟨Nat.zero_le _, _, hK, rfl⟩)
    have hbo : Below w.heap.size W (W.putObj D (.deferred none)) := below_own (B := W0.heap.size) (by omega) hs (grownBy_putObj' W D _) (fun r e => by cases e; exact ⟨hD, _, hK, rfl⟩)
    exact ⟨_, results_tmp rfl _ _ _, v, xs, rfl, ownsRow_kc hr (Nat.le_refl _) hko, fun x hx => ownsRow_kc (h2.bds x hx) (Nat.le_refl _) hko, .inl ⟨hRSd _ _ _ h1 hbo, h3⟩⟩
  case stop =>
    rintro D c pre W hD ⟨h1, h2, rfl, h3⟩ hK
    obtain ⟨v, hv, hr⟩ := h2.out
    have hc := hv.cell
    have hs := hsz _ _ h1
    gi_wp2
    refine ⟨by simp, .inl ⟨_, _, rfl, run_takeDeferred hK, ?_⟩⟩
    have hko : KC w.heap.size W (W.putObj D (.deferred none)) := kc_own (B := 0) (grownBy_putObj' W D _) (fun r e => by cases e; exact ⟨Nat.zero_le _, _, hK, rfl⟩)
    have hbo : Below w.heap.size W (W.putObj D (.deferred none)) := below_own (B := W0.heap.size) (by omega) hs (grownBy_putObj' W D _) (fun r e => by cases e; exact ⟨hD, _, hK, rfl⟩)
    exact ⟨_, results_tmp rfl _ _ _, v, pre, rfl, ownsRow_kc hr (Nat.le_refl _) hko, fun x hx => ownsRow_kc (h2.bds x hx) (Nat.le_refl _) hko, .inr ⟨hRS _ _ _ h1 hbo, h3⟩⟩
end Go.Proofs.Ytgldfobfchnkeaa
