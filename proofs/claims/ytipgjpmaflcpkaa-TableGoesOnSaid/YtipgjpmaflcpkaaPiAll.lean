/- table: All: the iterator over copies of all entries, whatever happens to the table meanwhile. -/
import Derived.Test.YtipgjpmaflcpkaaPiList
set_option maxRecDepth 100000
namespace Go.Proofs.Ytipgjpmaflcpkaa
open Go.RowKit Go.Shelf
attribute [local go_sem] Oper.semAt_some
abbrev aF : Nat := 30
theorem rowC_at : ∀ (xs : List Nd) (p nx : Option Nat) (i : Nat) (h : i < xs.length), ∃ p' n', ∀ k, k < 4 → (rowC p xs nx)[i * 4 + k]? = (ndC xs[i] p' n')[k]?
  | [], _, _, _, h => absurd h (by simp)
  | x :: t, p, nx, 0, _ => ⟨p, hd t nx, fun k hk => by
    show (ndC x p (hd t nx) ++ rowC (some x.b) t nx)[0 * 4 + k]? = (ndC x p (hd t nx))[k]?
    rw [List.getElem?_append_left (by show 0 * 4 + k < 4; omega), Nat.zero_mul, Nat.zero_add]⟩
  | x :: t, p, nx, i + 1, h => by
    obtain ⟨p', n', hk⟩ := rowC_at t (some x.b) nx i (by simpa using h)
    refine ⟨p', n', fun k h4 => ?_⟩
    show (ndC x p (hd t nx) ++ rowC (some x.b) t nx)[(i + 1) * 4 + k]? = (ndC (t[i]'(by simpa using h)) p' n')[k]?
    rw [List.getElem?_append_right (by show 4 ≤ (i + 1) * 4 + k; omega), ← hk k h4]
    congr 1
    show (i + 1) * 4 + k - 4 = i * 4 + k
    omega
theorem all_any (T : Nat) (w : World) : Calls Try.prog 10 #[tP T] w fun e w' => e = .returned (.func (.func aF) #[] #[.pointer (some ⟨w.heap.size, 0, none⟩)]) ∧ w' = w.alloc (.cells #[tP T] 24) := by
  have hmf : ∀ (fn : Fn) (first cap : Array Value) (w : World), (Instr.makeFunc fn first cap).run Try.prog w = .ok (.func fn first cap) w := fun _ _ _ _ => rfl
  go_enter Try.func10, Try.ntmps10
  go_wp2_with fail
  go_ret
  exact ⟨rfl, rfl⟩
theorem enRow_block {W : World} {base g n c : Nat} {e : TypeId} {size : Nat} {A : Option Addr} {xs : List Value} (h : W.ownsRow base e size (.slice A n c) n xs) (hA : A = some ⟨g, 0, none⟩) : ∃ cur f, W.heap[g]? = some (.cells cur e f) ∧ base ≤ g := by
  rcases h.2 with ⟨h0, _⟩ | ⟨g', cap, cur, h0, hb, hg, _⟩
  · injection h0 with e1 _ _; rw [hA] at e1; cases e1
  · injection h0 with e1 _ _
    rw [hA] at e1
    injection e1 with e1
    injection e1 with e1 _ _
    subst e1
    exact ⟨cur, _, hg, hb⟩
theorem enRow_at {W W' : World} {base g n c : Nat} {e : TypeId} {size : Nat} {xs : List Value} (h : W.ownsRow base e size (.slice (some ⟨g, 0, none⟩) n c) n xs) (hg : W'.heap[g]? = W.heap[g]?) : W'.ownsRow base e size (.slice (some ⟨g, 0, none⟩) n c) n xs := by
  obtain ⟨h1, h2 | ⟨g', cap, cur, h0, hbg, hgb, h3⟩⟩ := h
  · exact ⟨h1, .inl h2⟩
  · refine ⟨h1, .inr ⟨g', cap, cur, h0, hbg, ?_, h3⟩⟩
    injection h0 with e1 _ _
    injection e1 with e1
    injection e1 with e1 _ _
    subst e1
    exact hg.trans hgb
set_option maxHeartbeats 2000000 in
theorem all1_r (d : Nat) (hd0 : 1 ≤ d) (Bt T m cap : Nat) (xs : List Nd) (w : World) (h : Tb w T m cap xs) (hbx : Boxed w Bt 24 (tP T)) (Kp : World → World → Prop) (R : World → Nat → Prop)
    (hR1 : ∀ (W W2 : World) (g : Nat) (c : Array Value) (f : Nat × Nat), Below w.heap.size w W → Below W.heap.size W W2 → W.heap.size ≤ g → W2.heap[g]? = some (.cells c tE f) → R W2 g)
    (hR2 : ∀ (A B : World) (g : Nat) (c : Array Value) (f : Nat × Nat), R A g → A.heap[g]? = some (.cells c tE f) → Kp A B → B.heap[g]? = A.heap[g]? ∧ R B g)
    (hR3 : ∀ (A B : World) (g : Nat), R A g → g < A.heap.size → Below A.heap.size A B → R B g) :
    SeqG Fence.wide d Try.prog aF #[.pointer (some ⟨Bt, 0, none⟩)] (fun x : List UInt8 × VT => #[strT x.1, vv x.2]) StR Kp (fun _ pre x _ => pre ++ [x] <+: tbs xs) (fun ys => ys = tbs xs) (fun _ => True) w := by
  intro l J Jx W hW hIn hJ hJx hY h0
  clear hIn hJx
  have hT := h.keep hW
  have hn4 : xs.length ≤ 4096 := by have := h.cnt; have := h.cap; omega
  have hB : Boxed W Bt 24 (tP T) := (hW.block _ hbx.lt).trans hbx
  have hc := hB.cell
  have hwz := hW.size
  have HY := Lib.hid hY; clear hY
  have hct := (callsIn_wide (n := d - 1)).2 (list_any hT)
  refine callsIn_of_wp Try.func30 rfl trivial ?_ rfl
  simp only [Try.ntmps30, List.size_toArray, List.length_cons, List.length_nil, Nat.reduceAdd, Nat.reduceSub, Array.replicate_succ, Array.replicate_zero, List.push_toArray, List.append_toArray, List.nil_append, List.cons_append]
  gi_wp2
  refine ⟨trivial, hct.mono ?_⟩
  rintro e w2 ⟨v, rfl, hrow, hb2⟩
  obtain ⟨As, cs, rfl, _, _⟩ := enRow_form hrow
  have hJ2 : J [] w2 := hJ [] W w2 h0 hb2
  have hz2 := hb2.size
  have HR := Lib.hid hrow
  have HR0 : Hid (∀ g, As = some ⟨g, 0, none⟩ → R w2 g) := Lib.hid (fun g hg => by
    obtain ⟨c, f, hgb, hgl⟩ := enRow_block hrow hg
    exact hR1 W w2 g c f hW hb2 hgl hgb)
  have HR2 := Lib.hid hR2
  have HR3 := Lib.hid hR3
  clear hrow hct hB hc hT h0 hb2 hR1 hR2 hR3
  gi_wp2
  gi_loopw [8] (fun i wr => ∃ (j : Nat), j ≤ xs.length ∧ i = .int .i64 (j : Int) ∧ J ((tbs xs).take j) wr ∧ W.heap.size ≤ wr.heap.size ∧ wr.ownsRow W.heap.size tE 4 (.slice As xs.length cs) xs.length (rowC none xs none) ∧ ∀ g, As = some ⟨g, 0, none⟩ → R wr g)
    (fun i _ => xs.length - (intOf i).toNat)
  case atStart => exact ⟨0, by omega, rfl, hJ2, hz2, HR.out, HR0.out⟩
  case round =>
    obtain ⟨j, hj, rfl, hJs, hzr, hrow, hRr⟩ := hrel
    have HJ := Lib.hid hJs; clear hJs
    by_cases hlt : j < xs.length
    · obtain ⟨g, hAs⟩ : ∃ g, As = some ⟨g, 0, none⟩ := by
        rcases hrow.2 with ⟨e, _⟩ | ⟨g, cap', cur, e, _⟩
        · injection e with _ e2 _; omega
        · injection e with e1 _ _; exact ⟨g, e1⟩
      subst hAs
      obtain ⟨O, N, hat⟩ := rowC_at xs none none j hlt
      obtain ⟨y, hy⟩ : ∃ y, y = xs[j] := ⟨_, rfl⟩
      rw [← hy] at hat
      have hcell : ∀ k, k < 4 → wr.cell? ⟨g, j * 4 + k, none⟩ = (ndC y O N)[k]? := fun k hk => (World.ownsRow.cellAt hrow (j * 4 + k) (by omega)).trans (hat k hk)
      have c0 : wr.cell? ⟨g, j * 4, none⟩ = some (strT y.key) := hcell 0 (by omega)
      have c1 : wr.cell? ⟨g, j * 4 + 1, none⟩ = some (.int .i64 y.v) := hcell 1 (by omega)
      have c5 : wr.cell? ⟨g, j * 4 + 2, none⟩ = some (pt O) := hcell 2 (by omega)
      have c6 : wr.cell? ⟨g, j * 4 + 3, none⟩ = some (pt N) := hcell 3 (by omega)
      have htk : (tbs xs).take (j + 1) = (tbs xs).take j ++ [(y.key, y.v)] := by
        unfold tbs
        have hl : j < (xs.map fun x => (x.key, x.v)).length := by rw [List.length_map]; exact hlt
        rw [List.take_succ_eq_append_getElem hl, List.getElem_map, ← hy]
      have hpre : (tbs xs).take j ++ [(y.key, y.v)] <+: tbs xs := by rw [← htk]; exact List.take_prefix _ _
      obtain ⟨A2, hA2⟩ : ∃ A2, A2 = wr.alloc (.cells #[strT y.key, .int .i64 y.v, pt O, pt N] tE) := ⟨_, rfl⟩
      have hBA : Below wr.heap.size wr A2 := by rw [hA2]; exact (Below.refl _ wr).alloc (Nat.le_refl _) _
      have hrowA := enRow_below hrow hBA
      have hzA := hBA.size
      obtain ⟨fn, tmps, assign, body, hyl, hR⟩ := HY.out ((tbs xs).take j) (y.key, y.v) A2 (hJ _ wr A2 HJ.out hBA) (by omega) hpre
      rw [hA2] at hyl
      unfold vv at hyl
      have HRA := Lib.hid hrowA
      have HRG : Hid (R A2 g) := Lib.hid (HR3.out wr A2 g (hRr g rfl) (World.block_lt_of_cell? wr ⟨g, j * 4, none⟩ c0) hBA)
      have HTK := Lib.hid htk
      clear hat hy hcell hpre hrow htk hrowA hBA hRr
      cases O <;> cases N
      all_goals
        simp only [pt_none, pt_some] at c5 c6 hyl hA2
        gi_wp2
        rw [hA2] at hR
        refine hR.mono ?_
        rw [← hA2]
        rintro e W3 (⟨rfl, hJ3, hz3, hk3, _⟩ | ⟨rfl, hJx3, _, _⟩)
        · obtain ⟨hr3, hg3⟩ : W3.ownsRow W.heap.size tE 4 (.slice (some ⟨g, 0, none⟩) xs.length cs) xs.length (rowC none xs none) ∧ R W3 g := by
            obtain ⟨c, f, hgb, _⟩ := enRow_block HRA.out rfl
            obtain ⟨h1, h2⟩ := HR2.out A2 W3 g c f HRG.out hgb hk3
            exact ⟨enRow_at HRA.out h1, h2⟩
          gi_wp2
          go_roundw
          case rel => exact ⟨j + 1, by omega, by go_num, by rw [HTK.out]; exact hJ3, by omega, hr3, fun g' hg' => by cases hg'; exact hg3⟩
          case measure => simp [intOf]; omega
        · gi_wp2
          refine bodyPost_ret (results_none rfl _ _ _) rfl ?_
          exact ⟨⟨_, rfl⟩, .inr ⟨_, hJx3⟩⟩
    · have hjx : j = xs.length := by omega
      have hall : (tbs xs).take j = tbs xs := List.take_of_length_le (by unfold tbs; rw [List.length_map]; omega)
      rw [hall] at HJ
      gi_wp2
      go_end0
      exact ⟨⟨_, rfl⟩, .inl ⟨_, rfl, HJ.out⟩⟩
theorem all1_g (d : Nat) (hd0 : 1 ≤ d) (Bt T m cap : Nat) (xs : List Nd) (w : World) (h : Tb w T m cap xs) (hbx : Boxed w Bt 24 (tP T)) :
    SeqG Fence.wide d Try.prog aF #[.pointer (some ⟨Bt, 0, none⟩)] (fun x : List UInt8 × VT => #[strT x.1, vv x.2]) StR (KC w.heap.size) (fun _ pre x _ => pre ++ [x] <+: tbs xs) (fun ys => ys = tbs xs) (fun _ => True) w :=
  all1_r d hd0 Bt T m cap xs w h hbx (KC w.heap.size) (fun _ g => w.heap.size ≤ g) (fun W _ g _ _ hW _ hg _ => by have := hW.size; omega)
    (fun A B g c f hg hc hk => ⟨(hk _ _ _ _ hg hc).trans hc.symm, hg⟩) (fun _ _ _ h _ _ => h)
end Go.Proofs.Ytipgjpmaflcpkaa
