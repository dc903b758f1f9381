/- What is cells from a block on lies as it lay. Nothing of the program is imported. A range over a function whose iterator keeps memory of its own, made behind the loop's beginning, while the body writes elder boxes. Nothing of the program is imported. A range over a function, whatever the iterator does between its rounds and whatever the body must keep. Nothing of the program is imported. A range over a function whose variables lie in new memory. Nothing of the program is imported. A range over a function in the round of another one, and its outer one. Nothing of the program is imported. -/
import Derived.Test.YtlnjpmpddomjiaaGreatDoorGmRangeSt
import Derived.Test.YtlnjpmpddomjiaaGreatDoorGmMgA
import Derived.Maps.AppendAt
import Derived.Maps.OwnIn
import Derived.RangeFuncNested
namespace Go.Proofs.YtlnjpmpddomjiaaGreatDoor
open Go.RowKit Go.Shelf
/-- What is cells from block b on lies as it lay. -/
def KC (b : Nat) (A B : World) : Prop := ∀ k c t f, b ≤ k → A.heap[k]? = some (.cells c t f) → B.heap[k]? = some (.cells c t f)
theorem KeepsAt.kc {b : Nat} {A B : World} (h : KeepsAt b A B) : KC b A B := fun _ _ _ _ hk ho => h.some hk ho
theorem kc_own {b B : Nat} {A W : World} {row : Option Nat} (hg : A.grownBy W row) (hr : ∀ r, row = some r → B ≤ r ∧ ∃ o : Obj, A.heap[r]? = some o ∧ o.isCells = false) : KC b A W := fun k c t f _ ho => by
  refine (hg.block k (Array.getElem?_eq_some_iff.1 ho).1 (fun e => ?_)).trans ho
  obtain ⟨_, o, ho', hc⟩ := hr k e.symm
  rw [ho] at ho'
  cases ho'
  cases hc
theorem below_own {b B : Nat} {A W : World} {row : Option Nat} (hb : b ≤ B) (hbA : b ≤ A.heap.size) (hg : A.grownBy W row) (hr : ∀ r, row = some r → B ≤ r ∧ ∃ o : Obj, A.heap[r]? = some o ∧ o.isCells = false) : Below b A W :=
  ⟨hg.os, hg.tape, hg.output, hg.size, fun k hk => hg.block k (by omega) (fun e => by have := (hr k e.symm).1; omega)⟩
theorem ownsRow_kc {b base : Nat} {A W : World} {e : TypeId} {size : Nat} {v : Value} {n : Nat} {xs : List Value} (h : A.ownsRow base e size v n xs) (hb : b ≤ base) (hk : KC b A W) : W.ownsRow base e size v n xs := by
  obtain ⟨h1, h2 | ⟨g, cap, cur, rfl, hbg, hg, h3⟩⟩ := h
  · exact ⟨h1, .inl h2⟩
  · exact ⟨h1, .inr ⟨g, cap, cur, rfl, hbg, hk _ _ _ _ (by omega) hg, h3⟩⟩
theorem apart_box {W : World} {b1 : Nat} {e1 t : TypeId} {s1 n1 B : Nat} {v1 v : Value} {x1 : List Value} (h1 : W.ownsRow b1 e1 s1 v1 n1 x1) (h2 : Boxed W B t v) (he : e1 ≠ t) : v1.ownBlock ≠ some B := by
  intro e
  rcases h1.2 with ⟨rfl, _⟩ | ⟨g1, _, _, rfl, _, hg1, _⟩
  · simp [Value.ownBlock] at e
  · have : g1 = B := by simpa [Value.ownBlock] using e
    subst this
    have h3 : W.heap[g1]? = some (.cells #[v] t (0, 0)) := h2
    rw [h3] at hg1
    injection hg1 with h
    injection h with _ h _
    exact he h.symm
end Go.Proofs.YtlnjpmpddomjiaaGreatDoor
namespace Go.Proofs.YtlnjpmpddomjiaaGreatDoor
open Go Go.RowKit

/-- The iterator's contract: J speaks of elder blocks; Y: what an element holds where it is handed over, in blocks from b on; a round that goes on keeps what is cells from w's end on. -/
def SeqOw {α : Type} (F : Fence) (n : Nat) (P : Program) (g : Nat) (lb : Array Value) (encs : α → Array Value) (Y : Nat → List α → α → World → Prop) (S : List α → Prop) (In : World → Prop) (w : World) : Prop :=
  ∀ (l : Nat) (J Jx : List α → World → Prop) (W : World), Below w.heap.size w W → (∀ pre A, J pre A → In A) →
    (∀ pre A B, J pre A → W.heap.size ≤ A.heap.size → Below W.heap.size A B → J pre B) →
    (∀ pre x W1, J pre W1 → W.heap.size ≤ W1.heap.size → Y W.heap.size pre x W1 → YieldAt F (n - 1) P l (encs x) W1 fun e W' =>
      (e = .returned (.bool true) ∧ J (pre ++ [x]) W' ∧ W1.heap.size ≤ W'.heap.size ∧ KC w.heap.size W1 W') ∨ (e = .returned (.bool false) ∧ Jx (pre ++ [x]) W')) →
    J [] W →
    CallsIn F n P g (#[.func (.yield l) #[] #[]] ++ lb) W fun e W' => (∃ v, e = .returned v) ∧ ((∃ xs, S xs ∧ J xs W') ∨ (∃ pre, Jx pre W'))

variable {F : Fence} {n : Nat} {P : Program}
/-- How the body of a round may be left. -/
def owPost {α : Type} (B : Nat) (I : List α → World → Prop) (Ix : Code → List α → World → Prop) (xs : List α) (W : World) : Exit → Act → World → Prop
  | .normal, _, W' => KeepsFrom B W W' ∧ KC B W W' ∧ I xs W'
  | .ret, _, W' => KeepsFrom B W W' ∧ Ix .ret xs W'
  | .exit id, _, W' => KeepsFrom B W W' ∧ Ix (.exit id) xs W'
  | .goto t, _, W' => KeepsFrom B W W' ∧ Ix (.goto t) xs W'
  | .panic _, _, _ => False
  | .outgrown, _, _ => False
theorem kc_putObj {b l : Nat} {W : World} {o o' : Obj} (h : W.heap[l]? = some o) (hc : o.isCells = false) : KC b W (W.putObj l o') :=
  kc_own (B := 0) (grownBy_putObj' W l o') (fun r e => by cases e; exact ⟨Nat.zero_le _, o, h, hc⟩)
theorem KC.trans {b : Nat} {A B C : World} (h : KC b A B) (k : KC b B C) : KC b A C := fun i c t f hb ho => k i c t f hb (h i c t f hb ho)
theorem below_putObj {b l : Nat} {A W : World} {o' : Obj} (h : Below b A W) (hA : b ≤ W.heap.size) (hl : b ≤ l) : Below b A (W.putObj l o') :=
  h.grown (grownBy_putObj' W l o') hA (fun r e => by cases e; exact hl)
theorem wpIn_rangeFunc_ow {α : Type} {g : Operand} {ps : Array Tmp} {assign body : Code} {Q : Exit → Act → World → Prop} {a : Act} {w : World}
    (hro : F.round = none) (h1 : 1 ≤ n) {gf : Nat} {lb : Array Value} (hg : a.eval g = .func (.func gf) #[] lb) (hFg : F.fn gf) (eg : ∀ args w, (callFunc gf args).run P w = .ok (.enter gf args) w)
    {encs : α → Array Value} (Y : Nat → List α → α → World → Prop) (S : List α → Prop) (In : World → Prop) (I : List α → World → Prop) (Ix : Code → List α → World → Prop)
    (hseq : SeqOw F (n - 1) P gf lb encs Y S In w) (hIn : ∀ pre A, I pre A → In A) (hps : ∀ x, (encs x).size = ps.size)
    (hI : ∀ pre A B, I pre A → w.heap.size ≤ A.heap.size → Below w.heap.size A B → I pre B) (hIx : ∀ c pre A B, Ix c pre A → w.heap.size ≤ A.heap.size → Below w.heap.size A B → Ix c pre B)
    (hYk : ∀ b pre x A B, Y b pre x A → KC b A B → Y b pre x B) (h0 : I [] w)
    (Ax : α → Act → Prop)
    (hassign : ∀ (l : Nat) (x : α) (W : World) (K : Act → World → Prop), (∀ a', Ax x a' → K a' W) →
      assign.wpIn (F.inRound l) (n - 1 - 1) P (Exit.then K (fun _ _ _ => False)) { tmps := (ps.zip (encs x)).foldl (fun t (p, v) => t.setIfInBounds p v) a.tmps, defers := [] } W)
    (hbody : ∀ (l b : Nat) (pre : List α) (x : α) (a' : Act) (W : World), w.heap.size + 2 ≤ b → b ≤ W.heap.size → I pre W → Y b pre x W → Ax x a' → body.wpIn (F.inRound l) (n - 1 - 1) P (owPost w.heap.size I Ix (pre ++ [x]) W) a' W)
    (hdone : ∀ (D : Nat) (xs : List α) (W : World), w.heap.size ≤ D → w.heap.size ≤ W.heap.size → S xs → I xs W → W.heap[D]? = some (.deferred (some [])) → Q .normal { a with defers := { target := .collected D, args := #[] } :: a.defers } W)
    (hstop : ∀ (D : Nat) (c : Code) (pre : List α) (W : World), w.heap.size ≤ D → w.heap.size ≤ W.heap.size → Ix c pre W → W.heap[D]? = some (.deferred (some [])) → c.wpIn F n P Q { a with defers := { target := .collected D, args := #[] } :: a.defers } W) :
    (Code.rangeFunc g ps assign body).wpIn F n P Q a w := by
  refine wpIn_rangeFunc ?_
  intro fn hfn
  rw [hro]
  obtain ⟨rec, hrec⟩ : ∃ rec : LoopState → Option Code → Loop, rec = fun st pe => { state := st, pending := pe, fn, tmps := a.tmps, params := ps, assign, body, defers := w.heap.size } := ⟨_, rfl⟩
  obtain ⟨W1, hW1⟩ : ∃ W1, (w.alloc (.deferred (some []))).alloc (.loop (rec .ready none)) = W1 := ⟨_, rfl⟩
  have hL1 : W1.heap[w.heap.size + 1]? = some (.loop (rec .ready none)) := by
    rw [← hW1]; have := World.alloc_heap_new (w.alloc (.deferred (some []))) (.loop (rec .ready none)); rwa [World.size_alloc] at this
  have hK1 : W1.heap[w.heap.size]? = some (.deferred (some [])) := by
    rw [← hW1]; exact (Below.heap_alloc _ _ _ (by simp)).trans (World.alloc_heap_new w _)
  have hB1 : Below w.heap.size w W1 := by rw [← hW1]; exact ((Below.refl _ w).alloc (Nat.le_refl _) _).alloc (by simp) _
  have hs1 : W1.heap.size = w.heap.size + 2 := by rw [← hW1]; simp
  have hI1 : I [] W1 := hI _ _ _ h0 (Nat.le_refl _) hB1
  refine ⟨w.heap.size + 1, [{ target := .collected w.heap.size, args := #[] }], W1, { target := .fn (.func gf) lb, args := #[.func (.yield (w.heap.size + 1)) #[] #[]] }, W1, gf,
    #[.func (.yield (w.heap.size + 1)) #[] #[]] ++ lb, W1, ?_, ?_, ?_, ?_, fun _ => h1, ?_⟩
  · rw [← hW1, hrec]; exact run_enterLoop_outer _ _ _ _ _
  · simp only [resolve, hg]
    simp [go_sem]
  · intro f' hf'; simp [Target.leads] at hf'; subst hf'; exact hFg
  · simp [invoke, go_sem, eg]
  · refine (hseq (w.heap.size + 1)
      (fun pre W => I pre W ∧ w.heap.size ≤ W.heap.size ∧ W.heap[w.heap.size + 1]? = some (.loop (rec .ready none)) ∧ W.heap[w.heap.size]? = some (.deferred (some [])))
      (fun pre W => ∃ c, Ix c pre W ∧ w.heap.size ≤ W.heap.size ∧ W.heap[w.heap.size + 1]? = some (.loop (rec .done (some c))) ∧ W.heap[w.heap.size]? = some (.deferred (some [])))
      W1 hB1 (fun pre A h => hIn _ _ h.1) (fun pre A B h hA hb => ⟨hI _ _ _ h.1 h.2.1 (hb.mono (by omega)), by have := hb.size; omega, (hb.block _ (by omega)).trans h.2.2.1, (hb.block _ (by omega)).trans h.2.2.2⟩) ?_ ⟨hI1, by omega, hL1, hK1⟩).mono ?_
    · -- one round
      rintro pre x W ⟨hi, hwz, hl, hk⟩ hWs hy0
      have hlt : w.heap.size + 1 < W.heap.size := (Array.getElem?_eq_some_iff.1 hl).1
      have hy := run_yield (P := P) (args := encs x) hl (by rw [hrec]; exact hps x)
      rw [hrec] at hy
      refine ⟨fn, _, assign, body, hy, roundIn_of_wpIn hfn (hassign _ x W _ ?_)⟩
      clear hy
      intro a' hax
      refine ⟨_, run_beginRound hl (by rw [hrec]), ?_⟩
      have hl2 : (W.putObj (w.heap.size + 1) (.loop { rec .ready none with state := .busy })).heap[w.heap.size + 1]? = some (.loop { rec .ready none with state := .busy }) := World.putObj_heap_same hlt
      have hk2 : (W.putObj (w.heap.size + 1) (.loop { rec .ready none with state := .busy })).heap[w.heap.size]? = some (.deferred (some [])) := (World.putObj_heap_other (by omega)).trans hk
      have hsp : ∀ o', (W.putObj (w.heap.size + 1) o').heap.size = W.heap.size := fun o' => by simp [World.putObj]
      refine wpIn_mono (hbody _ W1.heap.size pre x a' _ (by omega) (by rw [hsp]; exact hWs) (hI _ _ _ hi hwz (below_putObj (Below.refl _ _) hwz (by omega))) (hYk _ _ _ _ _ hy0 (kc_putObj hl rfl)) hax) ?_
      have fin : ∀ (jump : Option Code) (W3 : World), KeepsFrom w.heap.size (W.putObj (w.heap.size + 1) (.loop { rec .ready none with state := .busy })) W3 →
          (Instr.endRound (w.heap.size + 1) jump).run P W3 = .ok (.bool jump.isNone) (W3.putObj (w.heap.size + 1) (.loop (rec (if jump.isNone then .ready else .done) jump))) ∧
          W3.heap[w.heap.size + 1]? = some (.loop { rec .ready none with state := .busy }) ∧
          (W3.putObj (w.heap.size + 1) (.loop (rec (if jump.isNone then .ready else .done) jump))).heap[w.heap.size + 1]? = some (.loop (rec (if jump.isNone then .ready else .done) jump)) ∧
          (W3.putObj (w.heap.size + 1) (.loop (rec (if jump.isNone then .ready else .done) jump))).heap[w.heap.size]? = some (.deferred (some [])) ∧ w.heap.size ≤ W3.heap.size ∧ W.heap.size ≤ W3.heap.size := fun jump W3 hk3 => by
        have hl3 := hk3.same _ _ (by omega) hl2 rfl
        have := run_endRound (P := P) jump hl3
        rw [hrec] at this ⊢
        have hz := hk3.size
        rw [hsp] at hz
        exact ⟨this, by rw [hrec] at hl3; exact hl3, World.putObj_heap_same (Array.getElem?_eq_some_iff.1 hl3).1, (World.putObj_heap_other (by omega)).trans (hk3.same _ _ (Nat.le_refl _) hk2 rfl), by omega, hz⟩
      have hsp3 : ∀ (W3 : World) o', (W3.putObj (w.heap.size + 1) o').heap.size = W3.heap.size := fun W3 o' => by simp [World.putObj]
      rintro e a3 W3 hp
      cases e with
      | normal =>
        obtain ⟨hk3, hkc3, hi3⟩ := hp
        obtain ⟨hr, hl3, hl4, hk4, hz3, hz4⟩ := fin none W3 hk3
        refine ⟨_, _, hr, .inl ⟨rfl, ⟨hI _ _ _ hi3 hz3 (below_putObj (Below.refl _ _) hz3 (by omega)), by rw [hsp3]; exact hz3, hl4, hk4⟩, by rw [hsp3]; exact hz4, ?_⟩⟩
        exact ((kc_putObj hl rfl).trans hkc3).trans (kc_putObj hl3 rfl)
      | ret =>
        obtain ⟨hk3, hi3⟩ := hp
        obtain ⟨hr, hl3, hl4, hk4, hz3, hz4⟩ := fin (some .ret) W3 hk3
        exact ⟨_, _, hr, .inr ⟨rfl, .ret, hIx _ _ _ _ hi3 hz3 (below_putObj (Below.refl _ _) hz3 (by omega)), by rw [hsp3]; exact hz3, hl4, hk4⟩⟩
      | exit id =>
        obtain ⟨hk3, hi3⟩ := hp
        obtain ⟨hr, hl3, hl4, hk4, hz3, hz4⟩ := fin (some (.exit id)) W3 hk3
        exact ⟨_, _, hr, .inr ⟨rfl, .exit id, hIx _ _ _ _ hi3 hz3 (below_putObj (Below.refl _ _) hz3 (by omega)), by rw [hsp3]; exact hz3, hl4, hk4⟩⟩
      | goto t =>
        obtain ⟨hk3, hi3⟩ := hp
        obtain ⟨hr, hl3, hl4, hk4, hz3, hz4⟩ := fin (some (.goto t)) W3 hk3
        exact ⟨_, _, hr, .inr ⟨rfl, .goto t, hIx _ _ _ _ hi3 hz3 (below_putObj (Below.refl _ _) hz3 (by omega)), by rw [hsp3]; exact hz3, hl4, hk4⟩⟩
      | panic ch => exact hp.elim
      | outgrown => exact hp.elim
    · -- behind the iterator
      have hsp3 : ∀ (W3 : World) o', (W3.putObj (w.heap.size + 1) o').heap.size = W3.heap.size := fun W3 o' => by simp [World.putObj]
      rintro e W2 ⟨⟨v, rfl⟩, (⟨xs, hs, hi, hz, hl, hk⟩ | ⟨pre, c, hi, hz, hl, hk⟩)⟩
      · exact ⟨none, _, by have := run_endLoop (P := P) hl (by rw [hrec]; simp); rw [hrec] at this; exact this, hdone _ xs _ (Nat.le_refl _) (by rw [hsp3]; exact hz) hs (hI _ _ _ hi hz (below_putObj (Below.refl _ _) hz (by omega))) ((World.putObj_heap_other (by omega)).trans hk)⟩
      · exact ⟨some c, _, by have := run_endLoop (P := P) hl (by rw [hrec]; simp); rw [hrec] at this; exact this, hstop _ c pre _ (Nat.le_refl _) (by rw [hsp3]; exact hz) (hIx _ _ _ _ hi hz (below_putObj (Below.refl _ _) hz (by omega))) ((World.putObj_heap_other (by omega)).trans hk)⟩
end Go.Proofs.YtlnjpmpddomjiaaGreatDoor
namespace Go.Proofs.YtlnjpmpddomjiaaGreatDoor
open Go Go.RowKit

/-- The iterator's contract, whatever it may do between its rounds (St b: done above block b), whatever the body must keep (Kp); Y: what an element holds where it is handed over; In: what the iterator reads of the elder memory. -/
def SeqG {α : Type} (F : Fence) (n : Nat) (P : Program) (g : Nat) (lb : Array Value) (encs : α → Array Value) (St : Nat → World → World → Prop) (Kp : World → World → Prop) (Y : Nat → List α → α → World → Prop) (S : List α → Prop) (In : World → Prop) (w : World) : Prop :=
  ∀ (l : Nat) (J Jx : List α → World → Prop) (W : World), Below w.heap.size w W → (∀ pre A, J pre A → In A) →
    (∀ pre A B, J pre A → St W.heap.size A B → J pre B) → (∀ pre A B, Jx pre A → St W.heap.size A B → Jx pre B) →
    (∀ pre x W1, J pre W1 → W.heap.size ≤ W1.heap.size → Y W.heap.size pre x W1 → YieldAt F (n - 1) P l (encs x) W1 fun e W' =>
      (e = .returned (.bool true) ∧ J (pre ++ [x]) W' ∧ W1.heap.size ≤ W'.heap.size ∧ Kp W1 W' ∧ KeepsFrom W.heap.size W1 W') ∨ (e = .returned (.bool false) ∧ Jx (pre ++ [x]) W' ∧ W1.heap.size ≤ W'.heap.size ∧ KeepsFrom W.heap.size W1 W')) →
    J [] W →
    CallsIn F n P g (#[.func (.yield l) #[] #[]] ++ lb) W fun e W' => (∃ v, e = .returned v) ∧ ((∃ xs, S xs ∧ J xs W') ∨ (∃ pre, Jx pre W'))

variable {F : Fence} {n : Nat} {P : Program}
/-- How the body of a round may be left. -/
def gPost {α : Type} (B : Nat) (Kp : World → World → Prop) (I : List α → World → Prop) (Ix : Code → List α → World → Prop) (xs : List α) (W : World) : Exit → Act → World → Prop
  | .normal, _, W' => KeepsFrom B W W' ∧ Kp W W' ∧ I xs W'
  | .ret, _, W' => KeepsFrom B W W' ∧ Ix .ret xs W'
  | .exit id, _, W' => KeepsFrom B W W' ∧ Ix (.exit id) xs W'
  | .goto t, _, W' => KeepsFrom B W W' ∧ Ix (.goto t) xs W'
  | .panic _, _, _ => False
  | .outgrown, _, _ => False
theorem wpIn_rangeFunc_g {α : Type} {g : Operand} {ps : Array Tmp} {assign body : Code} {Q : Exit → Act → World → Prop} {a : Act} {w : World}
    (hro : F.round = none) (h1 : 1 ≤ n) {gf : Nat} {lb : Array Value} (hg : a.eval g = .func (.func gf) #[] lb) (hFg : F.fn gf) (eg : ∀ args w, (callFunc gf args).run P w = .ok (.enter gf args) w)
    {encs : α → Array Value} (St : Nat → World → World → Prop) (Kp : World → World → Prop) (Y : Nat → List α → α → World → Prop) (S : List α → Prop) (In : World → Prop) (I : List α → World → Prop) (Ix : Code → List α → World → Prop)
    (hseq : SeqG F (n - 1) P gf lb encs St Kp Y S In w) (hIn : ∀ pre A, I pre A → In A) (hps : ∀ x, (encs x).size = ps.size)
    (hStk : ∀ b A B k, St b A B → k < b → k < A.heap.size → B.heap[k]? = A.heap[k]?) (hStz : ∀ b A B, St b A B → A.heap.size ≤ B.heap.size)
    (hKt : ∀ A B C, Kp A B → Kp B C → Kp A C) (hKb : ∀ (W : World) (l : Nat) (o o' : Obj), w.heap.size ≤ l → W.heap[l]? = some o → o.isCells = false → Kp W (W.putObj l o'))
    (hI : ∀ pre A B, I pre A → St (w.heap.size + 2) A B → I pre B) (hIx : ∀ c pre A B, Ix c pre A → St (w.heap.size + 2) A B → Ix c pre B)
    (hIp : ∀ pre (A : World) (l : Nat) (o o' : Obj), I pre A → w.heap.size ≤ l → A.heap[l]? = some o → o.isCells = false → I pre (A.putObj l o')) (hIxp : ∀ c pre (A : World) (l : Nat) (o o' : Obj), Ix c pre A → w.heap.size ≤ l → A.heap[l]? = some o → o.isCells = false → Ix c pre (A.putObj l o'))
    (hYp : ∀ b pre x (A : World) (l : Nat) (o o' : Obj), Y b pre x A → l < b → A.heap[l]? = some o → o.isCells = false → Y b pre x (A.putObj l o'))
    (h0 : ∀ W, Below w.heap.size w W → W.heap.size = w.heap.size + 2 → I [] W)
    (Ax : α → Act → Prop)
    (hassign : ∀ (l : Nat) (x : α) (W : World) (K : Act → World → Prop), (∀ a', Ax x a' → K a' W) →
      assign.wpIn (F.inRound l) (n - 1 - 1) P (Exit.then K (fun _ _ _ => False)) { tmps := (ps.zip (encs x)).foldl (fun t (p, v) => t.setIfInBounds p v) a.tmps, defers := [] } W)
    (hbody : ∀ (l b : Nat) (pre : List α) (x : α) (a' : Act) (W : World), w.heap.size + 2 ≤ b → b ≤ W.heap.size → I pre W → Y b pre x W → Ax x a' → body.wpIn (F.inRound l) (n - 1 - 1) P (gPost w.heap.size Kp I Ix (pre ++ [x]) W) a' W)
    (hdone : ∀ (D : Nat) (xs : List α) (W : World), w.heap.size ≤ D → w.heap.size ≤ W.heap.size → S xs → I xs W → W.heap[D]? = some (.deferred (some [])) → Q .normal { a with defers := { target := .collected D, args := #[] } :: a.defers } W)
    (hstop : ∀ (D : Nat) (c : Code) (pre : List α) (W : World), w.heap.size ≤ D → w.heap.size ≤ W.heap.size → Ix c pre W → W.heap[D]? = some (.deferred (some [])) → c.wpIn F n P Q { a with defers := { target := .collected D, args := #[] } :: a.defers } W) :
    (Code.rangeFunc g ps assign body).wpIn F n P Q a w := by
  refine wpIn_rangeFunc ?_
  intro fn hfn
  rw [hro]
  obtain ⟨rec, hrec⟩ : ∃ rec : LoopState → Option Code → Loop, rec = fun st pe => { state := st, pending := pe, fn, tmps := a.tmps, params := ps, assign, body, defers := w.heap.size } := ⟨_, rfl⟩
  obtain ⟨W1, hW1⟩ : ∃ W1, (w.alloc (.deferred (some []))).alloc (.loop (rec .ready none)) = W1 := ⟨_, rfl⟩
  have hL1 : W1.heap[w.heap.size + 1]? = some (.loop (rec .ready none)) := by
    rw [← hW1]; have := World.alloc_heap_new (w.alloc (.deferred (some []))) (.loop (rec .ready none)); rwa [World.size_alloc] at this
  have hK1 : W1.heap[w.heap.size]? = some (.deferred (some [])) := by
    rw [← hW1]; exact (Below.heap_alloc _ _ _ (by simp)).trans (World.alloc_heap_new w _)
  have hB1 : Below w.heap.size w W1 := by rw [← hW1]; exact ((Below.refl _ w).alloc (Nat.le_refl _) _).alloc (by simp) _
  have hs1 : W1.heap.size = w.heap.size + 2 := by rw [← hW1]; simp
  have hI1 : I [] W1 := h0 W1 hB1 hs1
  refine ⟨w.heap.size + 1, [{ target := .collected w.heap.size, args := #[] }], W1, { target := .fn (.func gf) lb, args := #[.func (.yield (w.heap.size + 1)) #[] #[]] }, W1, gf,
    #[.func (.yield (w.heap.size + 1)) #[] #[]] ++ lb, W1, ?_, ?_, ?_, ?_, fun _ => h1, ?_⟩
  · rw [← hW1, hrec]; exact run_enterLoop_outer _ _ _ _ _
  · simp only [resolve, hg]
    simp [go_sem]
  · intro f' hf'; simp [Target.leads] at hf'; subst hf'; exact hFg
  · simp [invoke, go_sem, eg]
  · refine (hseq (w.heap.size + 1)
      (fun pre W => I pre W ∧ w.heap.size ≤ W.heap.size ∧ W.heap[w.heap.size + 1]? = some (.loop (rec .ready none)) ∧ W.heap[w.heap.size]? = some (.deferred (some [])))
      (fun pre W => ∃ c, Ix c pre W ∧ w.heap.size ≤ W.heap.size ∧ W.heap[w.heap.size + 1]? = some (.loop (rec .done (some c))) ∧ W.heap[w.heap.size]? = some (.deferred (some [])))
      W1 hB1 (fun pre A h => hIn _ _ h.1)
      (fun pre A B h hb => ⟨hI _ _ _ h.1 (by rw [← hs1]; exact hb), by have := hStz _ _ _ hb; have := h.2.1; omega, (hStk _ _ _ _ hb (by omega) (Array.getElem?_eq_some_iff.1 h.2.2.1).1).trans h.2.2.1, (hStk _ _ _ _ hb (by omega) (Array.getElem?_eq_some_iff.1 h.2.2.2).1).trans h.2.2.2⟩)
      (fun pre A B ⟨c, h⟩ hb => ⟨c, hIx _ _ _ _ h.1 (by rw [← hs1]; exact hb), by have := hStz _ _ _ hb; have := h.2.1; omega, (hStk _ _ _ _ hb (by omega) (Array.getElem?_eq_some_iff.1 h.2.2.1).1).trans h.2.2.1, (hStk _ _ _ _ hb (by omega) (Array.getElem?_eq_some_iff.1 h.2.2.2).1).trans h.2.2.2⟩) ?_ ⟨hI1, by omega, hL1, hK1⟩).mono ?_
    · -- one round
      rintro pre x W ⟨hi, hwz, hl, hk⟩ hWs hy0
      have hlt : w.heap.size + 1 < W.heap.size := (Array.getElem?_eq_some_iff.1 hl).1
      have hy := run_yield (P := P) (args := encs x) hl (by rw [hrec]; exact hps x)
      rw [hrec] at hy
      refine ⟨fn, _, assign, body, hy, roundIn_of_wpIn hfn (hassign _ x W _ ?_)⟩
      clear hy
      intro a' hax
      refine ⟨_, run_beginRound hl (by rw [hrec]), ?_⟩
      have hl2 : (W.putObj (w.heap.size + 1) (.loop { rec .ready none with state := .busy })).heap[w.heap.size + 1]? = some (.loop { rec .ready none with state := .busy }) := World.putObj_heap_same hlt
      have hk2 : (W.putObj (w.heap.size + 1) (.loop { rec .ready none with state := .busy })).heap[w.heap.size]? = some (.deferred (some [])) := (World.putObj_heap_other (by omega)).trans hk
      have hsp : ∀ o', (W.putObj (w.heap.size + 1) o').heap.size = W.heap.size := fun o' => by simp [World.putObj]
      refine wpIn_mono (hbody _ W1.heap.size pre x a' _ (by omega) (by rw [hsp]; exact hWs) (hIp _ _ _ _ _ hi (by omega) hl rfl) (hYp _ _ _ _ _ _ _ hy0 (by omega) hl rfl) hax) ?_
      have fin : ∀ (jump : Option Code) (W3 : World), KeepsFrom w.heap.size (W.putObj (w.heap.size + 1) (.loop { rec .ready none with state := .busy })) W3 →
          (Instr.endRound (w.heap.size + 1) jump).run P W3 = .ok (.bool jump.isNone) (W3.putObj (w.heap.size + 1) (.loop (rec (if jump.isNone then .ready else .done) jump))) ∧
          W3.heap[w.heap.size + 1]? = some (.loop { rec .ready none with state := .busy }) ∧
          (W3.putObj (w.heap.size + 1) (.loop (rec (if jump.isNone then .ready else .done) jump))).heap[w.heap.size + 1]? = some (.loop (rec (if jump.isNone then .ready else .done) jump)) ∧
          (W3.putObj (w.heap.size + 1) (.loop (rec (if jump.isNone then .ready else .done) jump))).heap[w.heap.size]? = some (.deferred (some [])) ∧ w.heap.size ≤ W3.heap.size ∧ W.heap.size ≤ W3.heap.size := fun jump W3 hk3 => by
        have hl3 := hk3.same _ _ (by omega) hl2 rfl
        have := run_endRound (P := P) jump hl3
        rw [hrec] at this ⊢
        have hz := hk3.size
        rw [hsp] at hz
        exact ⟨this, by rw [hrec] at hl3; exact hl3, World.putObj_heap_same (Array.getElem?_eq_some_iff.1 hl3).1, (World.putObj_heap_other (by omega)).trans (hk3.same _ _ (Nat.le_refl _) hk2 rfl), by omega, hz⟩
      have hsp3 : ∀ (W3 : World) o', (W3.putObj (w.heap.size + 1) o').heap.size = W3.heap.size := fun W3 o' => by simp [World.putObj]
      have keep : ∀ (W3 : World) (o' : Obj), KeepsFrom w.heap.size (W.putObj (w.heap.size + 1) (.loop { rec .ready none with state := .busy })) W3 → KeepsFrom W1.heap.size W (W3.putObj (w.heap.size + 1) o') := fun W3 o' hk3 => by
        refine ⟨by rw [hsp3]; have := hk3.size; rwa [hsp] at this, fun k o hk ho hc => ?_⟩
        exact (World.putObj_heap_other (by omega)).trans (hk3.same k o (by omega) ((World.putObj_heap_other (by omega)).trans ho) hc)
      rintro e a3 W3 hp
      cases e with
      | normal =>
        obtain ⟨hk3, hkc3, hi3⟩ := hp
        obtain ⟨hr, hl3, hl4, hk4, hz3, hz4⟩ := fin none W3 hk3
        refine ⟨_, _, hr, .inl ⟨rfl, ⟨hIp _ _ _ _ _ hi3 (by omega) hl3 rfl, by rw [hsp3]; exact hz3, hl4, hk4⟩, by rw [hsp3]; exact hz4, ?_, keep _ _ hk3⟩⟩
        exact hKt _ _ _ (hKt _ _ _ (hKb _ _ _ _ (by omega) hl rfl) hkc3) (hKb _ _ _ _ (by omega) hl3 rfl)
      | ret =>
        obtain ⟨hk3, hi3⟩ := hp
        obtain ⟨hr, hl3, hl4, hk4, hz3, hz4⟩ := fin (some .ret) W3 hk3
        exact ⟨_, _, hr, .inr ⟨rfl, ⟨.ret, hIxp _ _ _ _ _ _ hi3 (by omega) hl3 rfl, by rw [hsp3]; exact hz3, hl4, hk4⟩, by rw [hsp3]; exact hz4, keep _ _ hk3⟩⟩
      | exit id =>
        obtain ⟨hk3, hi3⟩ := hp
        obtain ⟨hr, hl3, hl4, hk4, hz3, hz4⟩ := fin (some (.exit id)) W3 hk3
        exact ⟨_, _, hr, .inr ⟨rfl, ⟨.exit id, hIxp _ _ _ _ _ _ hi3 (by omega) hl3 rfl, by rw [hsp3]; exact hz3, hl4, hk4⟩, by rw [hsp3]; exact hz4, keep _ _ hk3⟩⟩
      | goto t =>
        obtain ⟨hk3, hi3⟩ := hp
        obtain ⟨hr, hl3, hl4, hk4, hz3, hz4⟩ := fin (some (.goto t)) W3 hk3
        exact ⟨_, _, hr, .inr ⟨rfl, ⟨.goto t, hIxp _ _ _ _ _ _ hi3 (by omega) hl3 rfl, by rw [hsp3]; exact hz3, hl4, hk4⟩, by rw [hsp3]; exact hz4, keep _ _ hk3⟩⟩
      | panic ch => exact hp.elim
      | outgrown => exact hp.elim
    · -- behind the iterator
      have hsp3 : ∀ (W3 : World) o', (W3.putObj (w.heap.size + 1) o').heap.size = W3.heap.size := fun W3 o' => by simp [World.putObj]
      rintro e W2 ⟨⟨v, rfl⟩, (⟨xs, hs, hi, hz, hl, hk⟩ | ⟨pre, c, hi, hz, hl, hk⟩)⟩
      · exact ⟨none, _, by have := run_endLoop (P := P) hl (by rw [hrec]; simp); rw [hrec] at this; exact this, hdone _ xs _ (Nat.le_refl _) (by rw [hsp3]; exact hz) hs (hIp _ _ _ _ _ hi (by omega) hl rfl) ((World.putObj_heap_other (by omega)).trans hk)⟩
      · exact ⟨some c, _, by have := run_endLoop (P := P) hl (by rw [hrec]; simp); rw [hrec] at this; exact this, hstop _ c pre _ (Nat.le_refl _) (by rw [hsp3]; exact hz) (hIxp _ _ _ _ _ _ hi (by omega) hl rfl) ((World.putObj_heap_other (by omega)).trans hk)⟩
end Go.Proofs.YtlnjpmpddomjiaaGreatDoor
namespace Go.Proofs.YtlnjpmpddomjiaaGreatDoor
open Go Go.RowKit
variable {F : Fence} {n : Nat} {P : Program}
/-- The same where the loop's variables lie in new memory (a struct). -/
theorem wpIn_rangeFunc_ga {α : Type} {g : Operand} {ps : Array Tmp} {assign body : Code} {Q : Exit → Act → World → Prop} {a : Act} {w : World}
    (hro : F.round = none) (h1 : 1 ≤ n) {gf : Nat} {lb : Array Value} (hg : a.eval g = .func (.func gf) #[] lb) (hFg : F.fn gf) (eg : ∀ args w, (callFunc gf args).run P w = .ok (.enter gf args) w)
    {encs : α → Array Value} (St : Nat → World → World → Prop) (Kp : World → World → Prop) (Y : Nat → List α → α → World → Prop) (S : List α → Prop) (In : World → Prop) (I : List α → World → Prop) (Ix : Code → List α → World → Prop)
    (hseq : SeqG F (n - 1) P gf lb encs St Kp Y S In w) (hIn : ∀ pre A, I pre A → In A) (hps : ∀ x, (encs x).size = ps.size)
    (hStk : ∀ b A B k, St b A B → k < b → k < A.heap.size → B.heap[k]? = A.heap[k]?) (hStz : ∀ b A B, St b A B → A.heap.size ≤ B.heap.size)
    (hKt : ∀ A B C, Kp A B → Kp B C → Kp A C) (hKb : ∀ (W : World) (l : Nat) (o o' : Obj), w.heap.size ≤ l → W.heap[l]? = some o → o.isCells = false → Kp W (W.putObj l o'))
    (hI : ∀ pre A B, I pre A → St (w.heap.size + 2) A B → I pre B) (hIx : ∀ c pre A B, Ix c pre A → St (w.heap.size + 2) A B → Ix c pre B)
    (hIp : ∀ pre (A : World) (l : Nat) (o o' : Obj), I pre A → w.heap.size ≤ l → A.heap[l]? = some o → o.isCells = false → I pre (A.putObj l o')) (hIxp : ∀ c pre (A : World) (l : Nat) (o o' : Obj), Ix c pre A → w.heap.size ≤ l → A.heap[l]? = some o → o.isCells = false → Ix c pre (A.putObj l o'))
    (hYp : ∀ b pre x (A : World) (l : Nat) (o o' : Obj), Y b pre x A → l < b → A.heap[l]? = some o → o.isCells = false → Y b pre x (A.putObj l o'))
    (h0 : ∀ W, Below w.heap.size w W → W.heap.size = w.heap.size + 2 → I [] W)
    (hIb : ∀ pre (A B : World), I pre A → w.heap.size + 2 ≤ A.heap.size → Below A.heap.size A B → I pre B) (hYb : ∀ b pre x (A B : World), Y b pre x A → Below A.heap.size A B → Y b pre x B) (hKw : ∀ (A B : World), Below A.heap.size A B → Kp A B)
    (Ax : α → World → Act → World → Prop) (hAw : ∀ x A a' B, Ax x A a' B → Below A.heap.size A B)
    (hassign : ∀ (l : Nat) (x : α) (W : World) (K : Act → World → Prop), (∀ a' V, Ax x W a' V → K a' V) →
      assign.wpIn (F.inRound l) (n - 1 - 1) P (Exit.then K (fun _ _ _ => False)) { tmps := (ps.zip (encs x)).foldl (fun t (p, v) => t.setIfInBounds p v) a.tmps, defers := [] } W)
    (hbody : ∀ (l b : Nat) (pre : List α) (x : α) (a' : Act) (W : World), w.heap.size + 2 ≤ b → b ≤ W.heap.size → I pre W → Y b pre x W → (∃ A V, Ax x A a' V ∧ KC 0 V W ∧ w.heap.size + 2 ≤ A.heap.size) → body.wpIn (F.inRound l) (n - 1 - 1) P (gPost w.heap.size Kp I Ix (pre ++ [x]) W) a' W)
    (hdone : ∀ (D : Nat) (xs : List α) (W : World), w.heap.size ≤ D → w.heap.size ≤ W.heap.size → S xs → I xs W → W.heap[D]? = some (.deferred (some [])) → Q .normal { a with defers := { target := .collected D, args := #[] } :: a.defers } W)
    (hstop : ∀ (D : Nat) (c : Code) (pre : List α) (W : World), w.heap.size ≤ D → w.heap.size ≤ W.heap.size → Ix c pre W → W.heap[D]? = some (.deferred (some [])) → c.wpIn F n P Q { a with defers := { target := .collected D, args := #[] } :: a.defers } W) :
    (Code.rangeFunc g ps assign body).wpIn F n P Q a w := by
  refine wpIn_rangeFunc ?_
  intro fn hfn
  rw [hro]
  obtain ⟨rec, hrec⟩ : ∃ rec : LoopState → Option Code → Loop, rec = fun st pe => { state := st, pending := pe, fn, tmps := a.tmps, params := ps, assign, body, defers := w.heap.size } := ⟨_, rfl⟩
  obtain ⟨W1, hW1⟩ : ∃ W1, (w.alloc (.deferred (some []))).alloc (.loop (rec .ready none)) = W1 := ⟨_, rfl⟩
  have hL1 : W1.heap[w.heap.size + 1]? = some (.loop (rec .ready none)) := by
    rw [← hW1]; have := World.alloc_heap_new (w.alloc (.deferred (some []))) (.loop (rec .ready none)); rwa [World.size_alloc] at this
  have hK1 : W1.heap[w.heap.size]? = some (.deferred (some [])) := by
    rw [← hW1]; exact (Below.heap_alloc _ _ _ (by simp)).trans (World.alloc_heap_new w _)
  have hB1 : Below w.heap.size w W1 := by rw [← hW1]; exact ((Below.refl _ w).alloc (Nat.le_refl _) _).alloc (by simp) _
  have hs1 : W1.heap.size = w.heap.size + 2 := by rw [← hW1]; simp
  have hI1 : I [] W1 := h0 W1 hB1 hs1
  refine ⟨w.heap.size + 1, [{ target := .collected w.heap.size, args := #[] }], W1, { target := .fn (.func gf) lb, args := #[.func (.yield (w.heap.size + 1)) #[] #[]] }, W1, gf,
    #[.func (.yield (w.heap.size + 1)) #[] #[]] ++ lb, W1, ?_, ?_, ?_, ?_, fun _ => h1, ?_⟩
  · rw [← hW1, hrec]; exact run_enterLoop_outer _ _ _ _ _
  · simp only [resolve, hg]
    simp [go_sem]
  · intro f' hf'; simp [Target.leads] at hf'; subst hf'; exact hFg
  · simp [invoke, go_sem, eg]
  · refine (hseq (w.heap.size + 1)
      (fun pre W => I pre W ∧ w.heap.size ≤ W.heap.size ∧ W.heap[w.heap.size + 1]? = some (.loop (rec .ready none)) ∧ W.heap[w.heap.size]? = some (.deferred (some [])))
      (fun pre W => ∃ c, Ix c pre W ∧ w.heap.size ≤ W.heap.size ∧ W.heap[w.heap.size + 1]? = some (.loop (rec .done (some c))) ∧ W.heap[w.heap.size]? = some (.deferred (some [])))
      W1 hB1 (fun pre A h => hIn _ _ h.1)
      (fun pre A B h hb => ⟨hI _ _ _ h.1 (by rw [← hs1]; exact hb), by have := hStz _ _ _ hb; have := h.2.1; omega, (hStk _ _ _ _ hb (by omega) (Array.getElem?_eq_some_iff.1 h.2.2.1).1).trans h.2.2.1, (hStk _ _ _ _ hb (by omega) (Array.getElem?_eq_some_iff.1 h.2.2.2).1).trans h.2.2.2⟩)
      (fun pre A B ⟨c, h⟩ hb => ⟨c, hIx _ _ _ _ h.1 (by rw [← hs1]; exact hb), by have := hStz _ _ _ hb; have := h.2.1; omega, (hStk _ _ _ _ hb (by omega) (Array.getElem?_eq_some_iff.1 h.2.2.1).1).trans h.2.2.1, (hStk _ _ _ _ hb (by omega) (Array.getElem?_eq_some_iff.1 h.2.2.2).1).trans h.2.2.2⟩) ?_ ⟨hI1, by omega, hL1, hK1⟩).mono ?_
    · -- one round
      rintro pre x Wa ⟨hia, hwza, hla, hka⟩ hWsa hy0a
      have hlta : w.heap.size + 1 < Wa.heap.size := (Array.getElem?_eq_some_iff.1 hla).1
      have hy := run_yield (P := P) (args := encs x) hla (by rw [hrec]; exact hps x)
      rw [hrec] at hy
      refine ⟨fn, _, assign, body, hy, roundIn_of_wpIn hfn (hassign _ x Wa _ ?_)⟩
      clear hy
      intro a' W hax
      have hVb := hAw _ _ _ _ hax
      have hVz := hVb.size
      have hi := hIb _ _ _ hia (by omega) hVb
      have hwz : w.heap.size ≤ W.heap.size := by omega
      have hl := (hVb.block _ hlta).trans hla
      have hk := (hVb.block _ (by omega)).trans hka
      have hWs : W1.heap.size ≤ W.heap.size := by omega
      have hy0 := hYb _ _ _ _ _ hy0a hVb
      have hlt : w.heap.size + 1 < W.heap.size := by omega
      have keepB : KeepsFrom W1.heap.size Wa W := ⟨hVz, fun k o _ ho _ => (hVb.block k (Array.getElem?_eq_some_iff.1 ho).1).trans ho⟩
      refine ⟨_, run_beginRound hl (by rw [hrec]), ?_⟩
      have hl2 : (W.putObj (w.heap.size + 1) (.loop { rec .ready none with state := .busy })).heap[w.heap.size + 1]? = some (.loop { rec .ready none with state := .busy }) := World.putObj_heap_same hlt
      have hk2 : (W.putObj (w.heap.size + 1) (.loop { rec .ready none with state := .busy })).heap[w.heap.size]? = some (.deferred (some [])) := (World.putObj_heap_other (by omega)).trans hk
      have hsp : ∀ o', (W.putObj (w.heap.size + 1) o').heap.size = W.heap.size := fun o' => by simp [World.putObj]
      refine wpIn_mono (hbody _ W1.heap.size pre x a' _ (by omega) (by rw [hsp]; exact hWs) (hIp _ _ _ _ _ hi (by omega) hl rfl) (hYp _ _ _ _ _ _ _ hy0 (by omega) hl rfl) ⟨_, _, hax, kc_putObj hl rfl, by omega⟩) ?_
      have fin : ∀ (jump : Option Code) (W3 : World), KeepsFrom w.heap.size (W.putObj (w.heap.size + 1) (.loop { rec .ready none with state := .busy })) W3 →
          (Instr.endRound (w.heap.size + 1) jump).run P W3 = .ok (.bool jump.isNone) (W3.putObj (w.heap.size + 1) (.loop (rec (if jump.isNone then .ready else .done) jump))) ∧
          W3.heap[w.heap.size + 1]? = some (.loop { rec .ready none with state := .busy }) ∧
          (W3.putObj (w.heap.size + 1) (.loop (rec (if jump.isNone then .ready else .done) jump))).heap[w.heap.size + 1]? = some (.loop (rec (if jump.isNone then .ready else .done) jump)) ∧
          (W3.putObj (w.heap.size + 1) (.loop (rec (if jump.isNone then .ready else .done) jump))).heap[w.heap.size]? = some (.deferred (some [])) ∧ w.heap.size ≤ W3.heap.size ∧ W.heap.size ≤ W3.heap.size := fun jump W3 hk3 => by
        have hl3 := hk3.same _ _ (by omega) hl2 rfl
        have := run_endRound (P := P) jump hl3
        rw [hrec] at this ⊢
        have hz := hk3.size
        rw [hsp] at hz
        exact ⟨this, by rw [hrec] at hl3; exact hl3, World.putObj_heap_same (Array.getElem?_eq_some_iff.1 hl3).1, (World.putObj_heap_other (by omega)).trans (hk3.same _ _ (Nat.le_refl _) hk2 rfl), by omega, hz⟩
      have hsp3 : ∀ (W3 : World) o', (W3.putObj (w.heap.size + 1) o').heap.size = W3.heap.size := fun W3 o' => by simp [World.putObj]
      have keep : ∀ (W3 : World) (o' : Obj), KeepsFrom w.heap.size (W.putObj (w.heap.size + 1) (.loop { rec .ready none with state := .busy })) W3 → KeepsFrom W1.heap.size W (W3.putObj (w.heap.size + 1) o') := fun W3 o' hk3 => by
        refine ⟨by rw [hsp3]; have := hk3.size; rwa [hsp] at this, fun k o hk ho hc => ?_⟩
        exact (World.putObj_heap_other (by omega)).trans (hk3.same k o (by omega) ((World.putObj_heap_other (by omega)).trans ho) hc)
      rintro e a3 W3 hp
      cases e with
      | normal =>
        obtain ⟨hk3, hkc3, hi3⟩ := hp
        obtain ⟨hr, hl3, hl4, hk4, hz3, hz4⟩ := fin none W3 hk3
        refine ⟨_, _, hr, .inl ⟨rfl, ⟨hIp _ _ _ _ _ hi3 (by omega) hl3 rfl, by rw [hsp3]; exact hz3, hl4, hk4⟩, by rw [hsp3]; omega, ?_, keepB.trans (keep _ _ hk3)⟩⟩
        exact hKt _ _ _ (hKw _ _ hVb) (hKt _ _ _ (hKt _ _ _ (hKb _ _ _ _ (by omega) hl rfl) hkc3) (hKb _ _ _ _ (by omega) hl3 rfl))
      | ret =>
        obtain ⟨hk3, hi3⟩ := hp
        obtain ⟨hr, hl3, hl4, hk4, hz3, hz4⟩ := fin (some .ret) W3 hk3
        exact ⟨_, _, hr, .inr ⟨rfl, ⟨.ret, hIxp _ _ _ _ _ _ hi3 (by omega) hl3 rfl, by rw [hsp3]; exact hz3, hl4, hk4⟩, by rw [hsp3]; omega, keepB.trans (keep _ _ hk3)⟩⟩
      | exit id =>
        obtain ⟨hk3, hi3⟩ := hp
        obtain ⟨hr, hl3, hl4, hk4, hz3, hz4⟩ := fin (some (.exit id)) W3 hk3
        exact ⟨_, _, hr, .inr ⟨rfl, ⟨.exit id, hIxp _ _ _ _ _ _ hi3 (by omega) hl3 rfl, by rw [hsp3]; exact hz3, hl4, hk4⟩, by rw [hsp3]; omega, keepB.trans (keep _ _ hk3)⟩⟩
      | goto t =>
        obtain ⟨hk3, hi3⟩ := hp
        obtain ⟨hr, hl3, hl4, hk4, hz3, hz4⟩ := fin (some (.goto t)) W3 hk3
        exact ⟨_, _, hr, .inr ⟨rfl, ⟨.goto t, hIxp _ _ _ _ _ _ hi3 (by omega) hl3 rfl, by rw [hsp3]; exact hz3, hl4, hk4⟩, by rw [hsp3]; omega, keepB.trans (keep _ _ hk3)⟩⟩
      | panic ch => exact hp.elim
      | outgrown => exact hp.elim
    · -- behind the iterator
      have hsp3 : ∀ (W3 : World) o', (W3.putObj (w.heap.size + 1) o').heap.size = W3.heap.size := fun W3 o' => by simp [World.putObj]
      rintro e W2 ⟨⟨v, rfl⟩, (⟨xs, hs, hi, hz, hl, hk⟩ | ⟨pre, c, hi, hz, hl, hk⟩)⟩
      · exact ⟨none, _, by have := run_endLoop (P := P) hl (by rw [hrec]; simp); rw [hrec] at this; exact this, hdone _ xs _ (Nat.le_refl _) (by rw [hsp3]; exact hz) hs (hIp _ _ _ _ _ hi (by omega) hl rfl) ((World.putObj_heap_other (by omega)).trans hk)⟩
      · exact ⟨some c, _, by have := run_endLoop (P := P) hl (by rw [hrec]; simp); rw [hrec] at this; exact this, hstop _ c pre _ (Nat.le_refl _) (by rw [hsp3]; exact hz) (hIxp _ _ _ _ _ _ hi (by omega) hl rfl) ((World.putObj_heap_other (by omega)).trans hk)⟩
end Go.Proofs.YtlnjpmpddomjiaaGreatDoor
namespace Go.Proofs.YtlnjpmpddomjiaaGreatDoor
open Go Go.RowKit
variable {F : Fence} {n : Nat} {P : Program}
/-- The same where the body is told of its own loop's record. -/
theorem wpIn_rangeFunc_gh {α : Type} {g : Operand} {ps : Array Tmp} {assign body : Code} {Q : Exit → Act → World → Prop} {a : Act} {w : World}
    (hro : F.round = none) (h1 : 1 ≤ n) {gf : Nat} {lb : Array Value} (hg : a.eval g = .func (.func gf) #[] lb) (hFg : F.fn gf) (eg : ∀ args w, (callFunc gf args).run P w = .ok (.enter gf args) w)
    {encs : α → Array Value} (St : Nat → World → World → Prop) (Kp : World → World → Prop) (Y : Nat → List α → α → World → Prop) (S : List α → Prop) (In : World → Prop) (I : List α → World → Prop) (Ix : Code → List α → World → Prop)
    (hseq : SeqG F (n - 1) P gf lb encs St Kp Y S In w) (hIn : ∀ pre A, I pre A → In A) (hps : ∀ x, (encs x).size = ps.size)
    (hStk : ∀ b A B k, St b A B → k < b → k < A.heap.size → B.heap[k]? = A.heap[k]?) (hStz : ∀ b A B, St b A B → A.heap.size ≤ B.heap.size)
    (hKt : ∀ A B C, Kp A B → Kp B C → Kp A C) (hKb : ∀ (W : World) (l : Nat) (o o' : Obj), w.heap.size ≤ l → W.heap[l]? = some o → o.isCells = false → Kp W (W.putObj l o'))
    (hI : ∀ pre A B, I pre A → St (w.heap.size + 2) A B → I pre B) (hIx : ∀ c pre A B, Ix c pre A → St (w.heap.size + 2) A B → Ix c pre B)
    (hIp : ∀ pre (A : World) (l : Nat) (o o' : Obj), I pre A → w.heap.size ≤ l → A.heap[l]? = some o → o.isCells = false → I pre (A.putObj l o')) (hIxp : ∀ c pre (A : World) (l : Nat) (o o' : Obj), Ix c pre A → w.heap.size ≤ l → A.heap[l]? = some o → o.isCells = false → Ix c pre (A.putObj l o'))
    (hYp : ∀ b pre x (A : World) (l : Nat) (o o' : Obj), Y b pre x A → l < b → A.heap[l]? = some o → o.isCells = false → Y b pre x (A.putObj l o'))
    (h0 : ∀ W, Below w.heap.size w W → W.heap.size = w.heap.size + 2 → I [] W)
    (hIb : ∀ pre (A B : World), I pre A → w.heap.size + 2 ≤ A.heap.size → Below A.heap.size A B → I pre B) (hYb : ∀ b pre x (A B : World), Y b pre x A → Below A.heap.size A B → Y b pre x B) (hKw : ∀ (A B : World), Below A.heap.size A B → Kp A B)
    (Ax : α → World → Act → World → Prop) (hAw : ∀ x A a' B, Ax x A a' B → Below A.heap.size A B)
    (hassign : ∀ (l : Nat) (x : α) (W : World) (K : Act → World → Prop), (∀ a' V, Ax x W a' V → K a' V) →
      assign.wpIn (F.inRound l) (n - 1 - 1) P (Exit.then K (fun _ _ _ => False)) { tmps := (ps.zip (encs x)).foldl (fun t (p, v) => t.setIfInBounds p v) a.tmps, defers := [] } W)
    (hbody : ∀ (l b : Nat) (pre : List α) (x : α) (a' : Act) (W : World), w.heap.size ≤ l → (∃ r, W.heap[l]? = some (.loop r)) → w.heap.size + 2 ≤ b → b ≤ W.heap.size → I pre W → Y b pre x W → (∃ A V, Ax x A a' V ∧ KC 0 V W ∧ w.heap.size + 2 ≤ A.heap.size) → body.wpIn (F.inRound l) (n - 1 - 1) P (gPost w.heap.size Kp I Ix (pre ++ [x]) W) a' W)
    (hdone : ∀ (D : Nat) (xs : List α) (W : World), w.heap.size ≤ D → w.heap.size ≤ W.heap.size → S xs → I xs W → W.heap[D]? = some (.deferred (some [])) → Q .normal { a with defers := { target := .collected D, args := #[] } :: a.defers } W)
    (hstop : ∀ (D : Nat) (c : Code) (pre : List α) (W : World), w.heap.size ≤ D → w.heap.size ≤ W.heap.size → Ix c pre W → W.heap[D]? = some (.deferred (some [])) → c.wpIn F n P Q { a with defers := { target := .collected D, args := #[] } :: a.defers } W) :
    (Code.rangeFunc g ps assign body).wpIn F n P Q a w := by
  refine wpIn_rangeFunc ?_
  intro fn hfn
  rw [hro]
  obtain ⟨rec, hrec⟩ : ∃ rec : LoopState → Option Code → Loop, rec = fun st pe => { state := st, pending := pe, fn, tmps := a.tmps, params := ps, assign, body, defers := w.heap.size } := ⟨_, rfl⟩
  obtain ⟨W1, hW1⟩ : ∃ W1, (w.alloc (.deferred (some []))).alloc (.loop (rec .ready none)) = W1 := ⟨_, rfl⟩
  have hL1 : W1.heap[w.heap.size + 1]? = some (.loop (rec .ready none)) := by
    rw [← hW1]; have := World.alloc_heap_new (w.alloc (.deferred (some []))) (.loop (rec .ready none)); rwa [World.size_alloc] at this
  have hK1 : W1.heap[w.heap.size]? = some (.deferred (some [])) := by
    rw [← hW1]; exact (Below.heap_alloc _ _ _ (by simp)).trans (World.alloc_heap_new w _)
  have hB1 : Below w.heap.size w W1 := by rw [← hW1]; exact ((Below.refl _ w).alloc (Nat.le_refl _) _).alloc (by simp) _
  have hs1 : W1.heap.size = w.heap.size + 2 := by rw [← hW1]; simp
  have hI1 : I [] W1 := h0 W1 hB1 hs1
  refine ⟨w.heap.size + 1, [{ target := .collected w.heap.size, args := #[] }], W1, { target := .fn (.func gf) lb, args := #[.func (.yield (w.heap.size + 1)) #[] #[]] }, W1, gf,
    #[.func (.yield (w.heap.size + 1)) #[] #[]] ++ lb, W1, ?_, ?_, ?_, ?_, fun _ => h1, ?_⟩
  · rw [← hW1, hrec]; exact run_enterLoop_outer _ _ _ _ _
  · simp only [resolve, hg]
    simp [go_sem]
  · intro f' hf'; simp [Target.leads] at hf'; subst hf'; exact hFg
  · simp [invoke, go_sem, eg]
  · refine (hseq (w.heap.size + 1)
      (fun pre W => I pre W ∧ w.heap.size ≤ W.heap.size ∧ W.heap[w.heap.size + 1]? = some (.loop (rec .ready none)) ∧ W.heap[w.heap.size]? = some (.deferred (some [])))
      (fun pre W => ∃ c, Ix c pre W ∧ w.heap.size ≤ W.heap.size ∧ W.heap[w.heap.size + 1]? = some (.loop (rec .done (some c))) ∧ W.heap[w.heap.size]? = some (.deferred (some [])))
      W1 hB1 (fun pre A h => hIn _ _ h.1)
      (fun pre A B h hb => ⟨hI _ _ _ h.1 (by rw [← hs1]; exact hb), by have := hStz _ _ _ hb; have := h.2.1; omega, (hStk _ _ _ _ hb (by omega) (Array.getElem?_eq_some_iff.1 h.2.2.1).1).trans h.2.2.1, (hStk _ _ _ _ hb (by omega) (Array.getElem?_eq_some_iff.1 h.2.2.2).1).trans h.2.2.2⟩)
      (fun pre A B ⟨c, h⟩ hb => ⟨c, hIx _ _ _ _ h.1 (by rw [← hs1]; exact hb), by have := hStz _ _ _ hb; have := h.2.1; omega, (hStk _ _ _ _ hb (by omega) (Array.getElem?_eq_some_iff.1 h.2.2.1).1).trans h.2.2.1, (hStk _ _ _ _ hb (by omega) (Array.getElem?_eq_some_iff.1 h.2.2.2).1).trans h.2.2.2⟩) ?_ ⟨hI1, by omega, hL1, hK1⟩).mono ?_
    · -- one round
      rintro pre x Wa ⟨hia, hwza, hla, hka⟩ hWsa hy0a
      have hlta : w.heap.size + 1 < Wa.heap.size := (Array.getElem?_eq_some_iff.1 hla).1
      have hy := run_yield (P := P) (args := encs x) hla (by rw [hrec]; exact hps x)
      rw [hrec] at hy
      refine ⟨fn, _, assign, body, hy, roundIn_of_wpIn hfn (hassign _ x Wa _ ?_)⟩
      clear hy
      intro a' W hax
      have hVb := hAw _ _ _ _ hax
      have hVz := hVb.size
      have hi := hIb _ _ _ hia (by omega) hVb
      have hwz : w.heap.size ≤ W.heap.size := by omega
      have hl := (hVb.block _ hlta).trans hla
      have hk := (hVb.block _ (by omega)).trans hka
      have hWs : W1.heap.size ≤ W.heap.size := by omega
      have hy0 := hYb _ _ _ _ _ hy0a hVb
      have hlt : w.heap.size + 1 < W.heap.size := by omega
      have keepB : KeepsFrom W1.heap.size Wa W := ⟨hVz, fun k o _ ho _ => (hVb.block k (Array.getElem?_eq_some_iff.1 ho).1).trans ho⟩
      refine ⟨_, run_beginRound hl (by rw [hrec]), ?_⟩
      have hl2 : (W.putObj (w.heap.size + 1) (.loop { rec .ready none with state := .busy })).heap[w.heap.size + 1]? = some (.loop { rec .ready none with state := .busy }) := World.putObj_heap_same hlt
      have hk2 : (W.putObj (w.heap.size + 1) (.loop { rec .ready none with state := .busy })).heap[w.heap.size]? = some (.deferred (some [])) := (World.putObj_heap_other (by omega)).trans hk
      have hsp : ∀ o', (W.putObj (w.heap.size + 1) o').heap.size = W.heap.size := fun o' => by simp [World.putObj]
      refine wpIn_mono (hbody _ W1.heap.size pre x a' _ (by omega) ⟨_, hl2⟩ (by omega) (by rw [hsp]; exact hWs) (hIp _ _ _ _ _ hi (by omega) hl rfl) (hYp _ _ _ _ _ _ _ hy0 (by omega) hl rfl) ⟨_, _, hax, kc_putObj hl rfl, by omega⟩) ?_
      have fin : ∀ (jump : Option Code) (W3 : World), KeepsFrom w.heap.size (W.putObj (w.heap.size + 1) (.loop { rec .ready none with state := .busy })) W3 →
          (Instr.endRound (w.heap.size + 1) jump).run P W3 = .ok (.bool jump.isNone) (W3.putObj (w.heap.size + 1) (.loop (rec (if jump.isNone then .ready else .done) jump))) ∧
          W3.heap[w.heap.size + 1]? = some (.loop { rec .ready none with state := .busy }) ∧
          (W3.putObj (w.heap.size + 1) (.loop (rec (if jump.isNone then .ready else .done) jump))).heap[w.heap.size + 1]? = some (.loop (rec (if jump.isNone then .ready else .done) jump)) ∧
          (W3.putObj (w.heap.size + 1) (.loop (rec (if jump.isNone then .ready else .done) jump))).heap[w.heap.size]? = some (.deferred (some [])) ∧ w.heap.size ≤ W3.heap.size ∧ W.heap.size ≤ W3.heap.size := fun jump W3 hk3 => by
        have hl3 := hk3.same _ _ (by omega) hl2 rfl
        have := run_endRound (P := P) jump hl3
        rw [hrec] at this ⊢
        have hz := hk3.size
        rw [hsp] at hz
        exact ⟨this, by rw [hrec] at hl3; exact hl3, World.putObj_heap_same (Array.getElem?_eq_some_iff.1 hl3).1, (World.putObj_heap_other (by omega)).trans (hk3.same _ _ (Nat.le_refl _) hk2 rfl), by omega, hz⟩
      have hsp3 : ∀ (W3 : World) o', (W3.putObj (w.heap.size + 1) o').heap.size = W3.heap.size := fun W3 o' => by simp [World.putObj]
      have keep : ∀ (W3 : World) (o' : Obj), KeepsFrom w.heap.size (W.putObj (w.heap.size + 1) (.loop { rec .ready none with state := .busy })) W3 → KeepsFrom W1.heap.size W (W3.putObj (w.heap.size + 1) o') := fun W3 o' hk3 => by
        refine ⟨by rw [hsp3]; have := hk3.size; rwa [hsp] at this, fun k o hk ho hc => ?_⟩
        exact (World.putObj_heap_other (by omega)).trans (hk3.same k o (by omega) ((World.putObj_heap_other (by omega)).trans ho) hc)
      rintro e a3 W3 hp
      cases e with
      | normal =>
        obtain ⟨hk3, hkc3, hi3⟩ := hp
        obtain ⟨hr, hl3, hl4, hk4, hz3, hz4⟩ := fin none W3 hk3
        refine ⟨_, _, hr, .inl ⟨rfl, ⟨hIp _ _ _ _ _ hi3 (by omega) hl3 rfl, by rw [hsp3]; exact hz3, hl4, hk4⟩, by rw [hsp3]; omega, ?_, keepB.trans (keep _ _ hk3)⟩⟩
        exact hKt _ _ _ (hKw _ _ hVb) (hKt _ _ _ (hKt _ _ _ (hKb _ _ _ _ (by omega) hl rfl) hkc3) (hKb _ _ _ _ (by omega) hl3 rfl))
      | ret =>
        obtain ⟨hk3, hi3⟩ := hp
        obtain ⟨hr, hl3, hl4, hk4, hz3, hz4⟩ := fin (some .ret) W3 hk3
        exact ⟨_, _, hr, .inr ⟨rfl, ⟨.ret, hIxp _ _ _ _ _ _ hi3 (by omega) hl3 rfl, by rw [hsp3]; exact hz3, hl4, hk4⟩, by rw [hsp3]; omega, keepB.trans (keep _ _ hk3)⟩⟩
      | exit id =>
        obtain ⟨hk3, hi3⟩ := hp
        obtain ⟨hr, hl3, hl4, hk4, hz3, hz4⟩ := fin (some (.exit id)) W3 hk3
        exact ⟨_, _, hr, .inr ⟨rfl, ⟨.exit id, hIxp _ _ _ _ _ _ hi3 (by omega) hl3 rfl, by rw [hsp3]; exact hz3, hl4, hk4⟩, by rw [hsp3]; omega, keepB.trans (keep _ _ hk3)⟩⟩
      | goto t =>
        obtain ⟨hk3, hi3⟩ := hp
        obtain ⟨hr, hl3, hl4, hk4, hz3, hz4⟩ := fin (some (.goto t)) W3 hk3
        exact ⟨_, _, hr, .inr ⟨rfl, ⟨.goto t, hIxp _ _ _ _ _ _ hi3 (by omega) hl3 rfl, by rw [hsp3]; exact hz3, hl4, hk4⟩, by rw [hsp3]; omega, keepB.trans (keep _ _ hk3)⟩⟩
      | panic ch => exact hp.elim
      | outgrown => exact hp.elim
    · -- behind the iterator
      have hsp3 : ∀ (W3 : World) o', (W3.putObj (w.heap.size + 1) o').heap.size = W3.heap.size := fun W3 o' => by simp [World.putObj]
      rintro e W2 ⟨⟨v, rfl⟩, (⟨xs, hs, hi, hz, hl, hk⟩ | ⟨pre, c, hi, hz, hl, hk⟩)⟩
      · exact ⟨none, _, by have := run_endLoop (P := P) hl (by rw [hrec]; simp); rw [hrec] at this; exact this, hdone _ xs _ (Nat.le_refl _) (by rw [hsp3]; exact hz) hs (hIp _ _ _ _ _ hi (by omega) hl rfl) ((World.putObj_heap_other (by omega)).trans hk)⟩
      · exact ⟨some c, _, by have := run_endLoop (P := P) hl (by rw [hrec]; simp); rw [hrec] at this; exact this, hstop _ c pre _ (Nat.le_refl _) (by rw [hsp3]; exact hz) (hIxp _ _ _ _ _ _ hi (by omega) hl rfl) ((World.putObj_heap_other (by omega)).trans hk)⟩
/-- The same within a round of loop l₀. -/
theorem wpIn_rangeFunc_gn {α : Type} {g : Operand} {ps : Array Tmp} {assign body : Code} {Q : Exit → Act → World → Prop} {a : Act} {w : World}
    {l₀ : Nat} {r₀ : Loop} (hro : F.round = some l₀) (hl₀ : w.heap[l₀]? = some (.loop r₀)) (h1 : 1 ≤ n) {gf : Nat} {lb : Array Value} (hg : a.eval g = .func (.func gf) #[] lb) (hFg : F.fn gf) (eg : ∀ args w, (callFunc gf args).run P w = .ok (.enter gf args) w)
    {encs : α → Array Value} (St : Nat → World → World → Prop) (Kp : World → World → Prop) (Y : Nat → List α → α → World → Prop) (S : List α → Prop) (In : World → Prop) (I : List α → World → Prop) (Ix : Code → List α → World → Prop)
    (hseq : SeqG F (n - 1) P gf lb encs St Kp Y S In w) (hIn : ∀ pre A, I pre A → In A) (hps : ∀ x, (encs x).size = ps.size)
    (hStk : ∀ b A B k, St b A B → k < b → k < A.heap.size → B.heap[k]? = A.heap[k]?) (hStz : ∀ b A B, St b A B → A.heap.size ≤ B.heap.size)
    (hKt : ∀ A B C, Kp A B → Kp B C → Kp A C) (hKb : ∀ (W : World) (l : Nat) (o o' : Obj), w.heap.size ≤ l → W.heap[l]? = some o → o.isCells = false → Kp W (W.putObj l o'))
    (hI : ∀ pre A B, I pre A → St (w.heap.size + 1) A B → I pre B) (hIx : ∀ c pre A B, Ix c pre A → St (w.heap.size + 1) A B → Ix c pre B)
    (hIp : ∀ pre (A : World) (l : Nat) (o o' : Obj), I pre A → w.heap.size ≤ l → A.heap[l]? = some o → o.isCells = false → I pre (A.putObj l o')) (hIxp : ∀ c pre (A : World) (l : Nat) (o o' : Obj), Ix c pre A → w.heap.size ≤ l → A.heap[l]? = some o → o.isCells = false → Ix c pre (A.putObj l o'))
    (hYp : ∀ b pre x (A : World) (l : Nat) (o o' : Obj), Y b pre x A → l < b → A.heap[l]? = some o → o.isCells = false → Y b pre x (A.putObj l o'))
    (h0 : ∀ W, Below w.heap.size w W → W.heap.size = w.heap.size + 1 → I [] W)
    (hIb : ∀ pre (A B : World), I pre A → w.heap.size + 1 ≤ A.heap.size → Below A.heap.size A B → I pre B) (hYb : ∀ b pre x (A B : World), Y b pre x A → Below A.heap.size A B → Y b pre x B) (hKw : ∀ (A B : World), Below A.heap.size A B → Kp A B)
    (Ax : α → World → Act → World → Prop) (hAw : ∀ x A a' B, Ax x A a' B → Below A.heap.size A B)
    (hassign : ∀ (l : Nat) (x : α) (W : World) (K : Act → World → Prop), (∀ a' V, Ax x W a' V → K a' V) →
      assign.wpIn (F.inRound l) (n - 1 - 1) P (Exit.then K (fun _ _ _ => False)) { tmps := (ps.zip (encs x)).foldl (fun t (p, v) => t.setIfInBounds p v) a.tmps, defers := [] } W)
    (hbody : ∀ (l b : Nat) (pre : List α) (x : α) (a' : Act) (W : World), w.heap.size ≤ l → (∃ r, W.heap[l]? = some (.loop r)) → w.heap.size + 1 ≤ b → b ≤ W.heap.size → I pre W → Y b pre x W → (∃ A V, Ax x A a' V ∧ KC 0 V W ∧ w.heap.size + 1 ≤ A.heap.size) → body.wpIn (F.inRound l) (n - 1 - 1) P (gPost w.heap.size Kp I Ix (pre ++ [x]) W) a' W)
    (hdone : ∀ (xs : List α) (W : World), w.heap.size ≤ W.heap.size → S xs → I xs W → Q .normal a W)
    (hstop : ∀ (c : Code) (pre : List α) (W : World), w.heap.size ≤ W.heap.size → Ix c pre W → c.wpIn F n P Q a W) :
    (Code.rangeFunc g ps assign body).wpIn F n P Q a w := by
  refine wpIn_rangeFunc ?_
  intro fn hfn
  rw [hro]
  obtain ⟨rec, hrec⟩ : ∃ rec : LoopState → Option Code → Loop, rec = fun st pe => { state := st, pending := pe, fn, tmps := a.tmps, params := ps, assign, body, defers := r₀.defers } := ⟨_, rfl⟩
  obtain ⟨W1, hW1⟩ : ∃ W1, w.alloc (.loop (rec .ready none)) = W1 := ⟨_, rfl⟩
  have hL1 : W1.heap[w.heap.size]? = some (.loop (rec .ready none)) := by
    rw [← hW1]; exact World.alloc_heap_new w _
  have hB1 : Below w.heap.size w W1 := by rw [← hW1]; exact (Below.refl _ w).alloc (Nat.le_refl _) _
  have hs1 : W1.heap.size = w.heap.size + 1 := by rw [← hW1]; simp
  have hI1 : I [] W1 := h0 W1 hB1 hs1
  refine ⟨w.heap.size, [], W1, { target := .fn (.func gf) lb, args := #[.func (.yield (w.heap.size)) #[] #[]] }, W1, gf,
    #[.func (.yield (w.heap.size)) #[] #[]] ++ lb, W1, ?_, ?_, ?_, ?_, fun _ => h1, ?_⟩
  · rw [← hW1, hrec]; exact run_enterLoop_inner hl₀ _ _ _ _ _
  · simp only [resolve, hg]
    simp [go_sem]
  · intro f' hf'; simp [Target.leads] at hf'; subst hf'; exact hFg
  · simp [invoke, go_sem, eg]
  · refine (hseq (w.heap.size)
      (fun pre W => I pre W ∧ w.heap.size ≤ W.heap.size ∧ W.heap[w.heap.size]? = some (.loop (rec .ready none)))
      (fun pre W => ∃ c, Ix c pre W ∧ w.heap.size ≤ W.heap.size ∧ W.heap[w.heap.size]? = some (.loop (rec .done (some c))))
      W1 hB1 (fun pre A h => hIn _ _ h.1)
      (fun pre A B h hb => ⟨hI _ _ _ h.1 (by rw [← hs1]; exact hb), by have := hStz _ _ _ hb; have := h.2.1; omega, (hStk _ _ _ _ hb (by omega) (Array.getElem?_eq_some_iff.1 h.2.2).1).trans h.2.2⟩)
      (fun pre A B ⟨c, h⟩ hb => ⟨c, hIx _ _ _ _ h.1 (by rw [← hs1]; exact hb), by have := hStz _ _ _ hb; have := h.2.1; omega, (hStk _ _ _ _ hb (by omega) (Array.getElem?_eq_some_iff.1 h.2.2).1).trans h.2.2⟩) ?_ ⟨hI1, by omega, hL1⟩).mono ?_
    · -- one round
      rintro pre x Wa ⟨hia, hwza, hla⟩ hWsa hy0a
      have hlta : w.heap.size < Wa.heap.size := (Array.getElem?_eq_some_iff.1 hla).1
      have hy := run_yield (P := P) (args := encs x) hla (by rw [hrec]; exact hps x)
      rw [hrec] at hy
      refine ⟨fn, _, assign, body, hy, roundIn_of_wpIn hfn (hassign _ x Wa _ ?_)⟩
      clear hy
      intro a' W hax
      have hVb := hAw _ _ _ _ hax
      have hVz := hVb.size
      have hi := hIb _ _ _ hia (by omega) hVb
      have hwz : w.heap.size ≤ W.heap.size := by omega
      have hl := (hVb.block _ hlta).trans hla
      have hWs : W1.heap.size ≤ W.heap.size := by omega
      have hy0 := hYb _ _ _ _ _ hy0a hVb
      have hlt : w.heap.size < W.heap.size := by omega
      have keepB : KeepsFrom W1.heap.size Wa W := ⟨hVz, fun k o _ ho _ => (hVb.block k (Array.getElem?_eq_some_iff.1 ho).1).trans ho⟩
      refine ⟨_, run_beginRound hl (by rw [hrec]), ?_⟩
      have hl2 : (W.putObj (w.heap.size) (.loop { rec .ready none with state := .busy })).heap[w.heap.size]? = some (.loop { rec .ready none with state := .busy }) := World.putObj_heap_same hlt
      have hsp : ∀ o', (W.putObj (w.heap.size) o').heap.size = W.heap.size := fun o' => by simp [World.putObj]
      refine wpIn_mono (hbody _ W1.heap.size pre x a' _ (Nat.le_refl _) ⟨_, hl2⟩ (by omega) (by rw [hsp]; exact hWs) (hIp _ _ _ _ _ hi (by omega) hl rfl) (hYp _ _ _ _ _ _ _ hy0 (by omega) hl rfl) ⟨_, _, hax, kc_putObj hl rfl, by omega⟩) ?_
      have fin : ∀ (jump : Option Code) (W3 : World), KeepsFrom w.heap.size (W.putObj (w.heap.size) (.loop { rec .ready none with state := .busy })) W3 →
          (Instr.endRound (w.heap.size) jump).run P W3 = .ok (.bool jump.isNone) (W3.putObj (w.heap.size) (.loop (rec (if jump.isNone then .ready else .done) jump))) ∧
          W3.heap[w.heap.size]? = some (.loop { rec .ready none with state := .busy }) ∧
          (W3.putObj (w.heap.size) (.loop (rec (if jump.isNone then .ready else .done) jump))).heap[w.heap.size]? = some (.loop (rec (if jump.isNone then .ready else .done) jump)) ∧ w.heap.size ≤ W3.heap.size ∧ W.heap.size ≤ W3.heap.size := fun jump W3 hk3 => by
        have hl3 := hk3.same _ _ (by omega) hl2 rfl
        have := run_endRound (P := P) jump hl3
        rw [hrec] at this ⊢
        have hz := hk3.size
        rw [hsp] at hz
        exact ⟨this, by rw [hrec] at hl3; exact hl3, World.putObj_heap_same (Array.getElem?_eq_some_iff.1 hl3).1, by omega, hz⟩
      have hsp3 : ∀ (W3 : World) o', (W3.putObj (w.heap.size) o').heap.size = W3.heap.size := fun W3 o' => by simp [World.putObj]
      have keep : ∀ (W3 : World) (o' : Obj), KeepsFrom w.heap.size (W.putObj (w.heap.size) (.loop { rec .ready none with state := .busy })) W3 → KeepsFrom W1.heap.size W (W3.putObj (w.heap.size) o') := fun W3 o' hk3 => by
        refine ⟨by rw [hsp3]; have := hk3.size; rwa [hsp] at this, fun k o hk ho hc => ?_⟩
        exact (World.putObj_heap_other (by omega)).trans (hk3.same k o (by omega) ((World.putObj_heap_other (by omega)).trans ho) hc)
      rintro e a3 W3 hp
      cases e with
      | normal =>
        obtain ⟨hk3, hkc3, hi3⟩ := hp
        obtain ⟨hr, hl3, hl4, hz3, hz4⟩ := fin none W3 hk3
        refine ⟨_, _, hr, .inl ⟨rfl, ⟨hIp _ _ _ _ _ hi3 (by omega) hl3 rfl, by rw [hsp3]; exact hz3, hl4⟩, by rw [hsp3]; omega, ?_, keepB.trans (keep _ _ hk3)⟩⟩
        exact hKt _ _ _ (hKw _ _ hVb) (hKt _ _ _ (hKt _ _ _ (hKb _ _ _ _ (by omega) hl rfl) hkc3) (hKb _ _ _ _ (by omega) hl3 rfl))
      | ret =>
        obtain ⟨hk3, hi3⟩ := hp
        obtain ⟨hr, hl3, hl4, hz3, hz4⟩ := fin (some .ret) W3 hk3
        exact ⟨_, _, hr, .inr ⟨rfl, ⟨.ret, hIxp _ _ _ _ _ _ hi3 (by omega) hl3 rfl, by rw [hsp3]; exact hz3, hl4⟩, by rw [hsp3]; omega, keepB.trans (keep _ _ hk3)⟩⟩
      | exit id =>
        obtain ⟨hk3, hi3⟩ := hp
        obtain ⟨hr, hl3, hl4, hz3, hz4⟩ := fin (some (.exit id)) W3 hk3
        exact ⟨_, _, hr, .inr ⟨rfl, ⟨.exit id, hIxp _ _ _ _ _ _ hi3 (by omega) hl3 rfl, by rw [hsp3]; exact hz3, hl4⟩, by rw [hsp3]; omega, keepB.trans (keep _ _ hk3)⟩⟩
      | goto t =>
        obtain ⟨hk3, hi3⟩ := hp
        obtain ⟨hr, hl3, hl4, hz3, hz4⟩ := fin (some (.goto t)) W3 hk3
        exact ⟨_, _, hr, .inr ⟨rfl, ⟨.goto t, hIxp _ _ _ _ _ _ hi3 (by omega) hl3 rfl, by rw [hsp3]; exact hz3, hl4⟩, by rw [hsp3]; omega, keepB.trans (keep _ _ hk3)⟩⟩
      | panic ch => exact hp.elim
      | outgrown => exact hp.elim
    · -- behind the iterator
      have hsp3 : ∀ (W3 : World) o', (W3.putObj (w.heap.size) o').heap.size = W3.heap.size := fun W3 o' => by simp [World.putObj]
      rintro e W2 ⟨⟨v, rfl⟩, (⟨xs, hs, hi, hz, hl⟩ | ⟨pre, c, hi, hz, hl⟩)⟩
      · exact ⟨none, _, by have := run_endLoop (P := P) hl (by rw [hrec]; simp); rw [hrec] at this; exact this, hdone xs _ (by rw [hsp3]; exact hz) hs (hIp _ _ _ _ _ hi (by omega) hl rfl)⟩
      · exact ⟨some c, _, by have := run_endLoop (P := P) hl (by rw [hrec]; simp); rw [hrec] at this; exact this, hstop c pre _ (by rw [hsp3]; exact hz) (hIxp _ _ _ _ _ _ hi (by omega) hl rfl)⟩
end Go.Proofs.YtlnjpmpddomjiaaGreatDoor
