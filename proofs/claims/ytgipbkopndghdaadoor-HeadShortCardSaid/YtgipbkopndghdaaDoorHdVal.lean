/- The law's values: those of a name, at most so many; two rows of texts alike. -/
import Derived.Test.YtgipbkopndghdaaDoorHdCol
import Derived.Deep.QuietTactic
import Derived.BigQuiet
import Derived.StillTailTactics
set_option maxRecDepth 100000
namespace Go.Proofs.YtgipbkopndghdaaDoor
open Go.RowKit Go.Shelf
attribute [local go_sem] Oper.semAt_some
set_option maxHeartbeats 2000000 in
theorem values_any (v0 : Value) (xs : Prs) (n : List UInt8) (m : Nat) (w : World) (hv : PrIn w v0 xs) (hl : xs.length ≤ 1000) (hn : n.length ≤ 1000) (hs : ∀ x ∈ xs, x.1.length ≤ 1000) (hm : 1 ≤ m) (hm2 : m ≤ 1000) :
    Calls Tryd.prog 21 #[v0, str n, .int .i64 (m : Int)] w fun e w' => ∃ v', e = .returned v' ∧ OwnT w' w.heap.size v' ((getL xs n).take m) ∧ Below w.heap.size w w' := by
  have hb2 : Below w.heap.size w ((w.alloc (.cells #[.int .i64 (m : Int)] 3)).alloc (.cells #[.slice none 0 0] 39)) := ((Below.refl _ w).alloc (Nat.le_refl _) _).alloc (by simp) _
  have HC := Lib.hid (get_any v0 xs n _ (hv.below hb2) hl)
  have q1 := (Boxed.new w 3 (.int .i64 (m : Int))).alloc (.cells #[.slice none 0 0] 39)
  have q2 := Boxed.new (w.alloc (.cells #[.int .i64 (m : Int)] 3)) 39 (.slice none 0 0)
  rw [World.size_alloc] at q2
  have Q1 := Lib.hid q1; have Q2 := Lib.hid q2; have HB2 := Lib.hid hb2
  obtain ⟨A0, c0, rfl, hq⟩ := hv
  clear hq hb2 q1 q2
  have hll := getL_len xs n
  obtain ⟨R, hR⟩ : ∃ R, R = getL xs n := ⟨_, rfl⟩
  have HR := Lib.hid hR
  rw [← hR] at hll ⊢
  clear hR
  refine (callsIn_wide (n := 10)).1 ?_
  refine callsIn_of_wp_marks Tryd.func21 rfl trivial ?_ rfl
  simp only [Tryd.ntmps21, List.size_toArray, List.length_cons, List.length_nil, Nat.reduceAdd, Nat.reduceSub, Array.replicate_succ, Array.replicate_zero, List.push_toArray, List.append_toArray, List.nil_append, List.cons_append]
  gi_wp2
  refine ⟨trivial, (callsIn_wide.2 HC.out).mono ?_⟩
  rintro e W3 ⟨rfl, ⟨v3, hG⟩, hB3, hz3⟩
  simp only [World.size_alloc, Nat.add_assoc, Nat.reduceAdd] at hG hB3 hz3 ⊢
  have hbm : Boxed W3 w.heap.size 3 (.int .i64 (m : Int)) := (hB3.block _ (by omega)).trans Q1.out
  have hP : Vs W3 (w.heap.size + 1) W3.heap.size [] (.slice none 0 0) W3 := ⟨(hB3.block _ (by omega)).trans Q2.out, OwnT.nil _ _, World.grownBy.refl _ _, by omega, Nat.le_refl _⟩
  have HBW := Lib.hid (HB2.out.trans (hB3.mono (by omega)))
  have HSQ := Lib.hid (get1_g (10 - 1) (by omega) (w.heap.size + 2) v3 xs n hl hn hs W3)
  unfold GtY at HSQ
  rw [← HR.out] at HSQ
  have HBM := Lib.hid (fun (A : World) (h : W3.grownBy A (some (w.heap.size + 1))) => show Boxed A w.heap.size 3 (.int .i64 (m : Int)) from hbm.kept h (by simp))
  have HP := Lib.hid hP
  have HG := Lib.hid hG
  clear hP hG hB3 HC hbm
  gi_wp2
  refine wpIn_rangeFunc_g rfl (by omega) (gf := gGet) (lb := #[.pointer (some ⟨w.heap.size + 2, 0, none⟩), .pointer (some ⟨w.heap.size + 2 + 1, 0, none⟩)]) rfl trivial (fun _ _ => rfl) (encs := fun x : List UInt8 => #[str x]) StL (fun _ _ => True) (fun _ pre x _ => pre ++ [x] <+: R) (fun ys => ys = R)
    (GetIn (w.heap.size + 2) v3 xs n)
    (fun pre A => (∃ va, Vs W3 (w.heap.size + 1) W3.heap.size pre va A) ∧ pre.length < m)
    (fun cd pre A => cd = .exit 0 ∧ (∃ va, Vs W3 (w.heap.size + 1) W3.heap.size pre va A) ∧ pre.length = m ∧ pre <+: R)
    HSQ.out (fun pre A h => by obtain ⟨⟨va, h⟩, _⟩ := h; exact HG.out.grown h.fr (by omega)) (fun _ => rfl)
    (fun _ _ _ _ h _ hk => h.block _ hk) (fun _ _ _ h => h.size) (fun _ _ _ _ _ => trivial) (fun _ _ _ _ _ _ _ => trivial)
    (fun pre A B h hst => by obtain ⟨⟨va, h⟩, hn⟩ := h; exact ⟨⟨va, h.below hst⟩, hn⟩)
    (fun c pre A B h hst => by obtain ⟨e, ⟨va, h⟩, hn⟩ := h; exact ⟨e, ⟨va, h.below hst⟩, hn⟩)
    (fun pre A l o o' h hl ho hc => by obtain ⟨⟨va, h⟩, hn⟩ := h; exact ⟨⟨va, h.put hl ho hc⟩, hn⟩)
    (fun c pre A l o o' h hl ho hc => by obtain ⟨e, ⟨va, h⟩, hn⟩ := h; exact ⟨e, ⟨va, h.put hl ho hc⟩, hn⟩)
    (fun _ _ _ _ _ _ _ h _ _ _ => h)
    (fun W' hb hs => ⟨⟨_, HP.out.below hb⟩, by simp; omega⟩)
    (fun x a' => a' = { tmps := #[.slice A0 xs.length c0, str n, .int .i64 (m : Int), undef, undef, .pointer (some ⟨w.heap.size, 0, none⟩), .slice none 0 0, .pointer (some ⟨w.heap.size + 1, 0, none⟩), str x, .slice A0 xs.length c0, str n, gvGet (w.heap.size + 2), str x, undef, undef, undef, undef, undef, undef, undef, undef, undef], defers := [] })
    ?assign ?body ?done ?stop
  case assign =>
    rintro k x A K hK
    have HK := Lib.hid hK; clear hK
    gi_wp2
    exact HK.out _ rfl
  case done =>
    rintro D ys A hD hz rfl ⟨⟨va, hJ⟩, hn⟩ hK
    have c4 := hJ.bo.cell
    have hJ2 := hJ.put (o' := .deferred none) (l := D) (by omega) hK rfl
    have HTK := Lib.hid (show ys.take m = ys from List.take_of_length_le (by omega))
    have HJ2 := Lib.hid hJ2; clear hJ2
    gi_wp2
    show LeavesInM _ _ _ _ _ _ _ _ _
    refine ⟨by simp, .inl ⟨_, _, rfl, run_takeDeferred hK, ?_⟩⟩
    exact ⟨_, results_tmp (t := 6) rfl _ _ _, _, rfl, by rw [HTK.out]; exact HJ2.out.own.le (by omega), belowQ HJ2.out.fr HBW.out (by omega)⟩
  case stop =>
    rintro D c pre A hD hz ⟨rfl, ⟨va, hJ⟩, hn, hpre⟩ hK
    have c4 := hJ.bo.cell
    have hJ2 := hJ.put (o' := .deferred none) (l := D) (by omega) hK rfl
    have HTK := Lib.hid (show R.take m = pre from by rw [← hn]; exact (List.prefix_iff_eq_take.1 hpre).symm)
    have HJ2 := Lib.hid hJ2; clear hJ2
    gi_wp2
    show LeavesInM _ _ _ _ _ _ _ _ _
    refine ⟨by simp, .inl ⟨_, _, rfl, run_takeDeferred hK, ?_⟩⟩
    exact ⟨_, results_tmp (t := 6) rfl _ _ _, _, rfl, by rw [HTK.out]; exact HJ2.out.own.le (by omega), belowQ HJ2.out.fr HBW.out (by omega)⟩
  case body =>
    rintro k bb pre x a' A hbb hbz ⟨⟨va, hJ⟩, hn⟩ hpre rfl
    have hpl := List.IsPrefix.length_le hpre
    rw [List.length_append, List.length_singleton] at hpl
    have hz4 := hJ.fr.size
    have c4 := hJ.bo.cell
    have HJ := Lib.hid hJ
    have HPRE := Lib.hid hpre
    have HOW := Lib.hid (hJ.own.below ((Below.refl A.heap.size A).alloc (Nat.le_refl _) (.cells #[str x] 9)))
    have HNW := Lib.hid (heap_alloc_new A (.cells #[str x] 9))
    have hzA : W3.heap.size ≤ (A.alloc (.cells #[str x] 9)).heap.size := by simp; omega
    have hpl2 : pre.length ≤ 100000 := by omega
    have hKl : (pre ++ [x]).length = pre.length + 1 := by rw [List.length_append]; rfl
    obtain ⟨N, hN⟩ : ∃ N, N = (pre ++ [x]).length := ⟨_, rfl⟩
    have HN := Lib.hid hN
    clear hJ hpre hpl
    by_cases hNm : N = m
    · clear hKl hN
      subst hNm
      gi_wp2_with (gi_at_builtin; (refine wpListIn_appT rfl (.tmp 13) (.tmp 15) rfl W3.heap.size va pre x rfl HOW.out A.heap.size rfl HNW.out hpl2 hzA ?_); intro v5 A1 hO5 hg5; obtain ⟨A5, c5, e5⟩ := hO5.slice; rw [← HN.out] at e5; subst e5; obtain ⟨hb5, hP5, hF5⟩ := HJ.out.out rfl (x := x) hg5 hO5; have n3 := hb5.cell; have n3' := hb5.frozen; have n4 := (HBM.out _ hP5.fr).cell; have n5 := hP5.bo.cell; have HP5 := Lib.hid hP5; have HF5 := Lib.hid hF5; clear hO5 hg5 hb5 hP5 hF5)
      gi_wp2
      exact ⟨HF5.out, rfl, ⟨_, HP5.out⟩, HN.out.symm, HPRE.out⟩
    · have hbe : ((N : Int) == (m : Int)) = false := by rw [beq_eq_false_iff_ne]; omega
      clear hKl hN
      gi_wp2_with (gi_at_builtin; (refine wpListIn_appT rfl (.tmp 13) (.tmp 15) rfl W3.heap.size va pre x rfl HOW.out A.heap.size rfl HNW.out hpl2 hzA ?_); intro v5 A1 hO5 hg5; obtain ⟨A5, c5, e5⟩ := hO5.slice; rw [← HN.out] at e5; subst e5; obtain ⟨hb5, hP5, hF5⟩ := HJ.out.out rfl (x := x) hg5 hO5; have n3 := hb5.cell; have n3' := hb5.frozen; have n4 := (HBM.out _ hP5.fr).cell; have n5 := hP5.bo.cell; have HP5 := Lib.hid hP5; have HF5 := Lib.hid hF5; clear hO5 hg5 hb5 hP5 hF5)
      gi_wp2
      exact ⟨HF5.out, trivial, ⟨_, HP5.out⟩, by have := HN.out; rw [List.length_append, List.length_singleton] at this ⊢; omega⟩
/-- Texts that lie in memory. -/
def TxIn (W : World) (v : Value) (ls : List (List UInt8)) : Prop :=
  ∃ A c, v = .slice A ls.length c ∧ ls.length ≤ c ∧ ∀ k (hk : k < ls.length), ∃ g, A = some ⟨g, 0, none⟩ ∧ W.cell? ⟨g, 0 + k, none⟩ = some (str (ls[k]'hk))
theorem OwnT.txIn {W : World} {base : Nat} {v : Value} {ls : List (List UInt8)} (h : OwnT W base v ls) : TxIn W v ls := by
  rcases h.form with ⟨h1, h2⟩ | ⟨g, cap, h1, _, _, h3, _, h4⟩
  · subst h2; exact ⟨none, 0, h1, by simp, fun k hk => by simp at hk⟩
  · exact ⟨_, cap, h1, h3, fun k hk => ⟨g, rfl, by rw [Nat.zero_add]; exact h4 k hk⟩⟩
theorem TxIn.below {W W' : World} {v : Value} {ls : List (List UInt8)} (h : TxIn W v ls) (hb : Below W.heap.size W W') : TxIn W' v ls := by
  obtain ⟨A, c, e, hc, h⟩ := h
  refine ⟨A, c, e, hc, fun k hk => ?_⟩
  obtain ⟨g, hg, h1⟩ := h k hk
  exact ⟨g, hg, cell_below h1 hb⟩
theorem TxIn.take {W : World} {A : Option Addr} {c m : Nat} {ls : List (List UInt8)} (h : TxIn W (.slice A ls.length c) ls) (hm : m ≤ ls.length) : TxIn W (.slice A m c) (ls.take m) := by
  obtain ⟨A', c', e, hc, h⟩ := h
  injection e with e1 e2 e3
  subst e1 e3
  have hl : (ls.take m).length = m := by rw [List.length_take]; omega
  refine ⟨A, c, by rw [hl], by rw [hl]; omega, fun k hk => ?_⟩
  obtain ⟨g, hg, h1⟩ := h k (by omega)
  rw [List.getElem_take]
  exact ⟨g, hg, h1⟩
theorem slice_hT (A : Option Addr) (n c k : Nat) (hk : k ≤ c) (w : World) : (Instr.slice 39 (.slice A n c) none (some (.int .i64 (k : Int))) none).run Tryd.prog w = .ok (.slice A k c) w := by
  rw [run_slice_h w 39 A n c Tryd.underlying39 .i64 k (by omega) (by omega)]
  by_cases h0 : c = 0 <;> simp [sliced, go_sem, h0]
set_option maxHeartbeats 1000000 in
theorem equalT_any (v u : Value) (xs : List (List UInt8)) (w : World) (hv : TxIn w v xs) (hu : TxIn w u xs) (hl : xs.length ≤ 1000) :
    Calls Tryd.prog 18 #[v, u] w fun e w' => e = .returned (.bool true) ∧ Below w.heap.size w w' := by
  have HV := Lib.hid hv
  have HU := Lib.hid hu
  obtain ⟨A, c, rfl, _⟩ := hv
  obtain ⟨A2, c2, rfl, _⟩ := hu
  go_enter Tryd.func18, Tryd.ntmps18
  go_wp2_with fail
  go_loopw [13] (fun i wr => ∃ k : Nat, k ≤ xs.length ∧ i = .int .i64 (k : Int) ∧ Below w.heap.size w wr) (fun i _ => xs.length - (intOf i).toNat)
  case atStart => exact ⟨0, by omega, rfl, Below.refl _ _⟩
  case round =>
    obtain ⟨k, hk, rfl, hb⟩ := hrel
    by_cases hlt : k < xs.length
    · obtain ⟨A', c', he, _, hin⟩ := HV.out.below hb
      injection he with he1 he2 he3
      subst he1 he3
      obtain ⟨g, rfl, c0⟩ := hin k hlt
      obtain ⟨A', c', he, _, hin'⟩ := HU.out.below hb
      injection he with he1 he2' he3
      subst he1 he3
      obtain ⟨g2, rfl, d0⟩ := hin' k hlt
      rw [Nat.zero_add] at c0 d0
      clear hin hin' he2 he2'
      obtain ⟨x, hx⟩ : ∃ x, x = xs[k] := ⟨_, rfl⟩
      rw [← hx] at c0 d0
      clear hx
      have HB := Lib.hid hb
      go_wp2_with fail
      go_quiet (fail)
      go_wp2_with fail
      go_roundw
      case rel => exact ⟨k + 1, by omega, by go_num, below_drewN HB.out _⟩
      case measure => simp [intOf]; omega
    · obtain rfl : k = xs.length := by omega
      have HB := Lib.hid hb
      go_wp2_with fail
      go_ret
      exact ⟨rfl, HB.out⟩
end Go.Proofs.YtgipbkopndghdaaDoor
