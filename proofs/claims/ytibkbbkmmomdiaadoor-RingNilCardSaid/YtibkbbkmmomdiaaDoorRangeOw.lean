/- A range over a function whose iterator keeps memory of its own, made behind the loop's beginning, while the body writes elder boxes. Nothing of the program is imported. -/
import Derived.Test.YtibkbbkmmomdiaaDoorKc
namespace Go.Proofs.YtibkbbkmmomdiaaDoor
open Go Go.RowKit

/-- The iterator's contract: J speaks of elder blocks; Y: what an element holds where it is handed over, in blocks from b on; a round that goes on keeps what is cells from w's end on. -/
def SeqOw {α : Type} (F : Fence) (n : Nat) (P : Program) (g : Nat) (lb : Array Value) (encs : α → Array Value) (Y : Nat → List α → α → World → Prop) (S : List α → Prop) (In : World → Prop) (w : World) : Prop :=
  ∀ (l : Nat) (J Jx : List α → World → Prop) (W : World), Below w.heap.size w W → (∀ pre A, J pre A → In A) →
    (∀ pre A B, J pre A → W.heap.size ≤ A.heap.size → Below W.heap.size A B → J pre B) →
    (∀ pre x W1, J pre W1 → W.heap.size ≤ W1.heap.size → Y W.heap.size pre x W1 → YieldAt F (n - 1) P l (encs x) W1 fun e W' =>
      (e = .returned (.bool true) ∧ J (pre ++ [x]) W' ∧ W1.heap.size ≤ W'.heap.size ∧ KC w.heap.size W1 W') ∨ (e = .returned (.bool false) ∧ Jx (pre ++ [x]) W')) →
    J [] W →
    CallsIn F n P g (#[.func (.yield l) #[] #[]] ++ lb) W fun e W' => (∃ v, e = .returned v) ∧ ((∃ xs, S xs ∧ J xs W') ∨ (∃ pre, Jx pre W'))

variable {F : Fence} {n : Nat} {P : Program}
/-- How the body of a round may be left. -/
def owPost {α : Type} (B : Nat) (I : List α → World → Prop) (Ix : Code → List α → World → Prop) (xs : List α) (W : World) : Exit → Act → World → Prop
  | .normal, _, W' => KeepsFrom B W W' ∧ KC B W W' ∧ I xs W'
  | .ret, _, W' => KeepsFrom B W W' ∧ Ix .ret xs W'
  | .exit id, _, W' => KeepsFrom B W W' ∧ Ix (.exit id) xs W'
  | .goto t, _, W' => KeepsFrom B W W' ∧ Ix (.goto t) xs W'
  | .panic _, _, _ => False
  | .outgrown, _, _ => False
theorem kc_putObj {b l : Nat} {W : World} {o o' : Obj} (h : W.heap[l]? = some o) (hc : o.isCells = false) : KC b W (W.putObj l o') :=
  kc_own (B := 0) (grownBy_putObj' W l o') (fun r e => by cases e; exact ⟨Nat.zero_le _, o, h, hc⟩)
theorem KC.trans {b : Nat} {A B C : World} (h : KC b A B) (k : KC b B C) : KC b A C := fun i c t f hb ho => k i c t f hb (h i c t f hb ho)
theorem below_putObj {b l : Nat} {A W : World} {o' : Obj} (h : Below b A W) (hA : b ≤ W.heap.size) (hl : b ≤ l) : Below b A (W.putObj l o') :=
  h.grown (grownBy_putObj' W l o') hA (fun r e => by cases e; exact hl)
theorem wpIn_rangeFunc_ow {α : Type} {g : Operand} {ps : Array Tmp} {assign body : Code} {Q : Exit → Act → World → Prop} {a : Act} {w : World}
    (hro : F.round = none) (h1 : 1 ≤ n) {gf : Nat} {lb : Array Value} (hg : a.eval g = .func (.func gf) #[] lb) (hFg : F.fn gf) (eg : ∀ args w, (callFunc gf args).run P w = .ok (.enter gf args) w)
    {encs : α → Array Value} (Y : Nat → List α → α → World → Prop) (S : List α → Prop) (In : World → Prop) (I : List α → World → Prop) (Ix : Code → List α → World → Prop)
    (hseq : SeqOw F (n - 1) P gf lb encs Y S In w) (hIn : ∀ pre A, I pre A → In A) (hps : ∀ x, (encs x).size = ps.size)
    (hI : ∀ pre A B, I pre A → w.heap.size ≤ A.heap.size → Below w.heap.size A B → I pre B) (hIx : ∀ c pre A B, Ix c pre A → w.heap.size ≤ A.heap.size → Below w.heap.size A B → Ix c pre B)
    (hYk : ∀ b pre x A B, Y b pre x A → KC b A B → Y b pre x B) (h0 : I [] w)
    (Ax : α → Act → Prop)
    (hassign : ∀ (l : Nat) (x : α) (W : World) (K : Act → World → Prop), (∀ a', Ax x a' → K a' W) →
      assign.wpIn (F.inRound l) (n - 1 - 1) P (Exit.then K (fun _ _ _ => False)) { tmps := (ps.zip (encs x)).foldl (fun t (p, v) => t.setIfInBounds p v) a.tmps, defers := [] } W)
    (hbody : ∀ (l b : Nat) (pre : List α) (x : α) (a' : Act) (W : World), w.heap.size + 2 ≤ b → b ≤ W.heap.size → I pre W → Y b pre x W → Ax x a' → body.wpIn (F.inRound l) (n - 1 - 1) P (owPost w.heap.size I Ix (pre ++ [x]) W) a' W)
    (hdone : ∀ (D : Nat) (xs : List α) (W : World), w.heap.size ≤ D → w.heap.size ≤ W.heap.size → S xs → I xs W → W.heap[D]? = some (.deferred (some [])) → Q .normal { a with defers := { target := .collected D, args := #[] } :: a.defers } W)
    (hstop : ∀ (D : Nat) (c : Code) (pre : List α) (W : World), w.heap.size ≤ D → w.heap.size ≤ W.heap.size → Ix c pre W → W.heap[D]? = some (.deferred (some [])) → c.wpIn F n P Q { a with defers := { target := .collected D, args := #[] } :: a.defers } W) :
    (Code.rangeFunc g ps assign body).wpIn F n P Q a w := by
  refine wpIn_rangeFunc ?_
  intro fn hfn
  rw [hro]
  obtain ⟨rec, hrec⟩ : ∃ rec : LoopState → Option Code → Loop, rec = fun st pe => { state := st, pending := pe, fn, tmps := a.tmps, params := ps, assign, body, defers := w.heap.size } := ⟨_, rfl⟩
  obtain ⟨W1, hW1⟩ : ∃ W1, (w.alloc (.deferred (some []))).alloc (.loop (rec .ready none)) = W1 := ⟨_, rfl⟩
  have hL1 : W1.heap[w.heap.size + 1]? = some (.loop (rec .ready none)) := by
    rw [← hW1]; have := World.alloc_heap_new (w.alloc (.deferred (some []))) (.loop (rec .ready none)); rwa [World.size_alloc] at this
  have hK1 : W1.heap[w.heap.size]? = some (.deferred (some [])) := by
    rw [← hW1]; exact (Below.heap_alloc _ _ _ (by simp)).trans (World.alloc_heap_new w _)
  have hB1 : Below w.heap.size w W1 := by rw [← hW1]; exact ((Below.refl _ w).alloc (Nat.le_refl _) _).alloc (by simp) _
  have hs1 : W1.heap.size = w.heap.size + 2 := by rw [← hW1]; simp
  have hI1 : I [] W1 := hI _ _ _ h0 (Nat.le_refl _) hB1
  refine ⟨w.heap.size + 1, [{ target := .collected w.heap.size, args := #[] }], W1, { target := .fn (.func gf) lb, args := #[.func (.yield (w.heap.size + 1)) #[] #[]] }, W1, gf,
    #[.func (.yield (w.heap.size + 1)) #[] #[]] ++ lb, W1, ?_, ?_, ?_, ?_, fun _ => h1, ?_⟩
  · rw [← hW1, hrec]; exact run_enterLoop_outer _ _ _ _ _
  · simp only [resolve, hg]
    simp [go_sem]
  · intro f' hf'; simp [Target.leads] at hf'; subst hf'; exact hFg
  · simp [invoke, go_sem, eg]
  · refine (hseq (w.heap.size + 1)
      (fun pre W => I pre W ∧ w.heap.size ≤ W.heap.size ∧ W.heap[w.heap.size + 1]? = some (.loop (rec .ready none)) ∧ W.heap[w.heap.size]? = some (.deferred (some [])))
      (fun pre W => ∃ c, Ix c pre W ∧ w.heap.size ≤ W.heap.size ∧ W.heap[w.heap.size + 1]? = some (.loop (rec .done (some c))) ∧ W.heap[w.heap.size]? = some (.deferred (some [])))
      W1 hB1 (fun pre A h => hIn _ _ h.1) (fun pre A B h hA hb => ⟨hI _ _ _ h.1 h.2.1 (hb.mono (by omega)), by have := hb.size; omega, (hb.block _ (by omega)).trans h.2.2.1, (hb.block _ (by omega)).trans h.2.2.2⟩) ?_ ⟨hI1, by omega, hL1, hK1⟩).mono ?_
    · -- one round
      rintro pre x W ⟨hi, hwz, hl, hk⟩ hWs hy0
      have hlt : w.heap.size + 1 < W.heap.size := (Array.getElem?_eq_some_iff.1 hl).1
      have hy := run_yield (P := P) (args := encs x) hl (by rw [hrec]; exact hps x)
      rw [hrec] at hy
      refine ⟨fn, _, assign, body, hy, roundIn_of_wpIn hfn (hassign _ x W _ ?_)⟩
      clear hy
      intro a' hax
      refine ⟨_, run_beginRound hl (by rw [hrec]), ?_⟩
      have hl2 : (W.putObj (w.heap.size + 1) (.loop { rec .ready none with state := .busy })).heap[w.heap.size + 1]? = some (.loop { rec .ready none with state := .busy }) := World.putObj_heap_same hlt
      have hk2 : (W.putObj (w.heap.size + 1) (.loop { rec .ready none with state := .busy })).heap[w.heap.size]? = some (.deferred (some [])) := (World.putObj_heap_other (by omega)).trans hk
      have hsp : ∀ o', (W.putObj (w.heap.size + 1) o').heap.size = W.heap.size := fun o' => by simp [World.putObj]
      refine wpIn_mono (hbody _ W1.heap.size pre x a' _ (by omega) (by rw [hsp]; exact hWs) (hI _ _ _ hi hwz (below_putObj (Below.refl _ _) hwz (by omega))) (hYk _ _ _ _ _ hy0 (kc_putObj hl rfl)) hax) ?_
      have fin : ∀ (jump : Option Code) (W3 : World), KeepsFrom w.heap.size (W.putObj (w.heap.size + 1) (.loop { rec .ready none with state := .busy })) W3 →
          (Instr.endRound (w.heap.size + 1) jump).run P W3 = .ok (.bool jump.isNone) (W3.putObj (w.heap.size + 1) (.loop (rec (if jump.isNone then .ready else .done) jump))) ∧
          W3.heap[w.heap.size + 1]? = some (.loop { rec .ready none with state := .busy }) ∧
          (W3.putObj (w.heap.size + 1) (.loop (rec (if jump.isNone then .ready else .done) jump))).heap[w.heap.size + 1]? = some (.loop (rec (if jump.isNone then .ready else .done) jump)) ∧
          (W3.putObj (w.heap.size + 1) (.loop (rec (if jump.isNone then .ready else .done) jump))).heap[w.heap.size]? = some (.deferred (some [])) ∧ w.heap.size ≤ W3.heap.size ∧ W.heap.size ≤ W3.heap.size := fun jump W3 hk3 => by
        have hl3 := hk3.same _ _ (by omega) hl2 rfl
        have := run_endRound (P := P) jump hl3
        rw [hrec] at this ⊢
        have hz := hk3.size
        rw [hsp] at hz
        exact ⟨this, by rw [hrec] at hl3; exact hl3, World.putObj_heap_same (Array.getElem?_eq_some_iff.1 hl3).1, (World.putObj_heap_other (by omega)).trans (hk3.same _ _ (Nat.le_refl _) hk2 rfl), by omega, hz⟩
      have hsp3 : ∀ (W3 : World) o', (W3.putObj (w.heap.size + 1) o').heap.size = W3.heap.size := fun W3 o' => by simp [World.putObj]
      rintro e a3 W3 hp
      cases e with
      | normal =>
        obtain ⟨hk3, hkc3, hi3⟩ := hp
        obtain ⟨hr, hl3, hl4, hk4, hz3, hz4⟩ := fin none W3 hk3
        refine ⟨_, _, hr, .inl ⟨rfl, ⟨hI _ _ _ hi3 hz3 (below_putObj (Below.refl _ _) hz3 (by omega)), by rw [hsp3]; exact hz3, hl4, hk4⟩, by rw [hsp3]; exact hz4, ?_⟩⟩
        exact ((kc_putObj hl rfl).trans hkc3).trans (kc_putObj hl3 rfl)
      | ret =>
        obtain ⟨hk3, hi3⟩ := hp
        obtain ⟨hr, hl3, hl4, hk4, hz3, hz4⟩ := fin (some .ret) W3 hk3
        exact ⟨_, _, hr, .inr ⟨rfl, .ret, hIx _ _ _ _ hi3 hz3 (below_putObj (Below.refl _ _) hz3 (by omega)), by rw [hsp3]; exact hz3, hl4, hk4⟩⟩
      | exit id =>
        obtain ⟨hk3, hi3⟩ := hp
        obtain ⟨hr, hl3, hl4, hk4, hz3, hz4⟩ := fin (some (.exit id)) W3 hk3
        exact ⟨_, _, hr, .inr ⟨rfl, .exit id, hIx _ _ _ _ hi3 hz3 (below_putObj (Below.refl _ _) hz3 (by omega)), by rw [hsp3]; exact hz3, hl4, hk4⟩⟩
      | goto t =>
        obtain ⟨hk3, hi3⟩ := hp
        obtain ⟨hr, hl3, hl4, hk4, hz3, hz4⟩ := fin (some (.goto t)) W3 hk3
        exact ⟨_, _, hr, .inr ⟨rfl, .goto t, hIx _ _ _ _ hi3 hz3 (below_putObj (Below.refl _ _) hz3 (by omega)), by rw [hsp3]; exact hz3, hl4, hk4⟩⟩
      | panic ch => exact hp.elim
      | outgrown => exact hp.elim
    · -- behind the iterator
      have hsp3 : ∀ (W3 : World) o', (W3.putObj (w.heap.size + 1) o').heap.size = W3.heap.size := fun W3 o' => by simp [World.putObj]
      rintro e W2 ⟨⟨v, rfl⟩, (⟨xs, hs, hi, hz, hl, hk⟩ | ⟨pre, c, hi, hz, hl, hk⟩)⟩
      · exact ⟨none, _, by have := run_endLoop (P := P) hl (by rw [hrec]; simp); rw [hrec] at this; exact this, hdone _ xs _ (Nat.le_refl _) (by rw [hsp3]; exact hz) hs (hI _ _ _ hi hz (below_putObj (Below.refl _ _) hz (by omega))) ((World.putObj_heap_other (by omega)).trans hk)⟩
      · exact ⟨some c, _, by have := run_endLoop (P := P) hl (by rw [hrec]; simp); rw [hrec] at this; exact this, hstop _ c pre _ (Nat.le_refl _) (by rw [hsp3]; exact hz) (hIx _ _ _ _ hi hz (below_putObj (Below.refl _ _) hz (by omega))) ((World.putObj_heap_other (by omega)).trans hk)⟩
end Go.Proofs.YtibkbbkmmomdiaaDoor
