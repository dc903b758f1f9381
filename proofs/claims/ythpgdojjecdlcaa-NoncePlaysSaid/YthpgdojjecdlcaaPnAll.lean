/- table: All: the iterator over copies of all entries, whatever happens to the table meanwhile. -/
import Derived.Test.YthpgdojjecdlcaaPnList
set_option maxRecDepth 100000
namespace Go.Proofs.Ythpgdojjecdlcaa
open Go.RowKit Go.Shelf
attribute [local go_sem] Oper.semAt_some
abbrev aF : Nat := 58
theorem rowC_at : ∀ (xs : List Nd) (p nx : Option Nat) (i : Nat) (h : i < xs.length), ∃ p' n', ∀ k, k < 7 → (rowC p xs nx)[i * 7 + k]? = (ndC xs[i] p' n')[k]?
  | [], _, _, _, h => absurd h (by simp)
  | x :: t, p, nx, 0, _ => ⟨p, hd t nx, fun k hk => by
    show (ndC x p (hd t nx) ++ rowC (some x.b) t nx)[0 * 7 + k]? = (ndC x p (hd t nx))[k]?
    rw [List.getElem?_append_left (by show 0 * 7 + k < 7; omega), Nat.zero_mul, Nat.zero_add]⟩
  | x :: t, p, nx, i + 1, h => by
    obtain ⟨p', n', hk⟩ := rowC_at t (some x.b) nx i (by simpa using h)
    refine ⟨p', n', fun k h7 => ?_⟩
    show (ndC x p (hd t nx) ++ rowC (some x.b) t nx)[(i + 1) * 7 + k]? = (ndC (t[i]'(by simpa using h)) p' n')[k]?
    rw [List.getElem?_append_right (by show 7 ≤ (i + 1) * 7 + k; omega), ← hk k h7]
    congr 1
    show (i + 1) * 7 + k - 7 = i * 7 + k
    omega
theorem all_any (T : Nat) (w : World) : Calls Try.prog 49 #[tP T] w fun e w' => e = .returned (.func (.func aF) #[] #[.pointer (some ⟨w.heap.size, 0, none⟩)]) ∧ w' = w.alloc (.cells #[tP T] 69) := by
  have hmf : ∀ (fn : Fn) (first cap : Array Value) (w : World), (Instr.makeFunc fn first cap).run Try.prog w = .ok (.func fn first cap) w := fun _ _ _ _ => rfl
  go_enter Try.func49, Try.ntmps49
  go_wp2_with fail
  go_ret
  exact ⟨rfl, rfl⟩
set_option maxHeartbeats 2000000 in
theorem all1_g (d : Nat) (hd0 : 1 ≤ d) (Bt T m cap : Nat) (xs : List Nd) (w : World) (h : Tb w T m cap xs) (hbx : Boxed w Bt 69 (tP T)) :
    SeqG Fence.wide d Try.prog aF #[.pointer (some ⟨Bt, 0, none⟩)] (fun x : List UInt8 × VT => #[strT x.1, vv x.2]) StR (KC w.heap.size) (fun _ pre x _ => pre ++ [x] <+: tbs xs) (fun ys => ys = tbs xs) (fun _ => True) w := by
  intro l J Jx W hW hIn hJ hJx hY h0
  clear hIn hJx
  have hT := h.keep hW
  have hn4 : xs.length ≤ 4096 := by have := h.cnt; have := h.cap; omega
  have hB : Boxed W Bt 69 (tP T) := (hW.block _ hbx.lt).trans hbx
  have hc := hB.cell
  have hwz := hW.size
  have HY := Lib.hid hY; clear hY
  have hct := (callsIn_wide (n := d - 1)).2 (list_any hT)
  refine callsIn_of_wp Try.func58 rfl trivial ?_ rfl
  simp only [Try.ntmps58, List.size_toArray, List.length_cons, List.length_nil, Nat.reduceAdd, Nat.reduceSub, Array.replicate_succ, Array.replicate_zero, List.push_toArray, List.append_toArray, List.nil_append, List.cons_append]
  gi_wp2
  refine ⟨trivial, hct.mono ?_⟩
  rintro e w2 ⟨v, rfl, hrow, hb2⟩
  obtain ⟨As, cs, rfl, _, _⟩ := enRow_form hrow
  have hJ2 : J [] w2 := hJ [] W w2 h0 hb2
  have hz2 := hb2.size
  have HR := Lib.hid hrow
  clear hrow hct hB hc hT h0 hb2
  gi_wp2
  gi_loopw [8] (fun i wr => ∃ (j : Nat), j ≤ xs.length ∧ i = .int .i64 (j : Int) ∧ J ((tbs xs).take j) wr ∧ W.heap.size ≤ wr.heap.size ∧ wr.ownsRow W.heap.size tE 7 (.slice As xs.length cs) xs.length (rowC none xs none))
    (fun i _ => xs.length - (intOf i).toNat)
  case atStart => exact ⟨0, by omega, rfl, hJ2, hz2, HR.out⟩
  case round =>
    obtain ⟨j, hj, rfl, hJs, hzr, hrow⟩ := hrel
    have HJ := Lib.hid hJs; clear hJs
    by_cases hlt : j < xs.length
    · obtain ⟨g, hAs⟩ : ∃ g, As = some ⟨g, 0, none⟩ := by
        rcases hrow.2 with ⟨e, _⟩ | ⟨g, cap', cur, e, _⟩
        · injection e with _ e2 _; omega
        · injection e with e1 _ _; exact ⟨g, e1⟩
      subst hAs
      obtain ⟨O, N, hat⟩ := rowC_at xs none none j hlt
      obtain ⟨y, hy⟩ : ∃ y, y = xs[j] := ⟨_, rfl⟩
      rw [← hy] at hat
      have hcell : ∀ k, k < 7 → wr.cell? ⟨g, j * 7 + k, none⟩ = (ndC y O N)[k]? := fun k hk => (World.ownsRow.cellAt hrow (j * 7 + k) (by omega)).trans (hat k hk)
      have c0 : wr.cell? ⟨g, j * 7, none⟩ = some (strT y.key) := hcell 0 (by omega)
      have c1 : wr.cell? ⟨g, j * 7 + 1, none⟩ = some (strT y.v.s) := hcell 1 (by omega)
      have c2 : wr.cell? ⟨g, j * 7 + 2, none⟩ = some (.int .u64 y.v.a) := hcell 2 (by omega)
      have c3 : wr.cell? ⟨g, j * 7 + 3, none⟩ = some (.bool y.v.sp) := hcell 3 (by omega)
      have c4 : wr.cell? ⟨g, j * 7 + 4, none⟩ = some (.int .u32 y.v.ct) := hcell 4 (by omega)
      have c5 : wr.cell? ⟨g, j * 7 + 5, none⟩ = some (pt O) := hcell 5 (by omega)
      have c6 : wr.cell? ⟨g, j * 7 + 6, none⟩ = some (pt N) := hcell 6 (by omega)
      have htk : (tbs xs).take (j + 1) = (tbs xs).take j ++ [(y.key, y.v)] := by
        unfold tbs
        have hl : j < (xs.map fun x => (x.key, x.v)).length := by rw [List.length_map]; exact hlt
        rw [List.take_succ_eq_append_getElem hl, List.getElem_map, ← hy]
      have hpre : (tbs xs).take j ++ [(y.key, y.v)] <+: tbs xs := by rw [← htk]; exact List.take_prefix _ _
      obtain ⟨A2, hA2⟩ : ∃ A2, A2 = wr.alloc (.cells #[strT y.key, strT y.v.s, .int .u64 y.v.a, .bool y.v.sp, .int .u32 y.v.ct, pt O, pt N] tE) := ⟨_, rfl⟩
      have hBA : Below wr.heap.size wr A2 := by rw [hA2]; exact (Below.refl _ wr).alloc (Nat.le_refl _) _
      have hrowA := enRow_below hrow hBA
      have hzA := hBA.size
      obtain ⟨fn, tmps, assign, body, hyl, hR⟩ := HY.out ((tbs xs).take j) (y.key, y.v) A2 (hJ _ wr A2 HJ.out hBA) (by omega) hpre
      rw [hA2] at hyl
      unfold vv at hyl
      have HRA := Lib.hid hrowA
      have HTK := Lib.hid htk
      clear hat hy hcell hpre hrow htk hrowA hBA
      cases O <;> cases N
      all_goals
        simp only [pt_none, pt_some] at c5 c6 hyl hA2
        gi_wp2
        rw [hA2] at hR
        refine hR.mono ?_
        rw [← hA2]
        rintro e W3 (⟨rfl, hJ3, hz3, hk3, _⟩ | ⟨rfl, hJx3, _, _⟩)
        · have hr3 := ownsRow_kc HRA.out hwz hk3
          gi_wp2
          go_roundw
          case rel => exact ⟨j + 1, by omega, by go_num, by rw [HTK.out]; exact hJ3, by omega, hr3⟩
          case measure => simp [intOf]; omega
        · gi_wp2
          refine bodyPost_ret (results_none rfl _ _ _) rfl ?_
          exact ⟨⟨_, rfl⟩, .inr ⟨_, hJx3⟩⟩
    · have hjx : j = xs.length := by omega
      have hall : (tbs xs).take j = tbs xs := List.take_of_length_le (by unfold tbs; rw [List.length_map]; omega)
      rw [hall] at HJ
      gi_wp2
      go_end0
      exact ⟨⟨_, rfl⟩, .inl ⟨_, rfl, HJ.out⟩⟩
end Go.Proofs.Ythpgdojjecdlcaa
