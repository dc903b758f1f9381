/- trace: an event that has no line. trace: chainAfter at an event that has no line; a Trace's Add that refuses. Events in memory: rows of them, the call's own or others; the steps that append to them. The library's Delete of one event of a row of the call's own. trace: the chain behind an event; a Trace in memory; Add. trace: Add. -/
import Derived.Test.YtoehkhbppmgfkaaGreatDoorTcLn
import Derived.Test.YtoehkhbppmgfkaaGreatDoorTrs
import Derived.Test.YtoehkhbppmgfkaaGreatDoorKc
import Derived.Laws.AppendOwnNone
import Derived.Deep.AppendLies
import Derived.Lib.SliceRun
import Derived.Deep.RegionLaw
import Derived.OwnWalk
import Derived.Test.YtoehkhbppmgfkaaGreatDoorTvSh
import Derived.Deep.QuietTactic
import Derived.BigQuiet
import Derived.StillTailTactics
set_option maxRecDepth 100000
namespace Go.Proofs.YtoehkhbppmgfkaaGreatDoor
open Go.RowKit Go.Shelf
attribute [local go_sem] Oper.semAt_some
set_option maxHeartbeats 4000000 in
theorem hasLine_bad (e : EvL) (hk600 : e.kind.length ≤ 600) (ho : ¬ e.Ok) (w : World) :
    Calls Tryz.prog 14 #[evA e] w fun x w' => x = .returned (.bool false) ∧ Below w.heap.size w w' := by
  obtain ⟨n, t, k, c, s⟩ := e
  have HB0 := Lib.hid (show Below w.heap.size w (w.alloc (.cells #[.int .u64 n, .int .u64 t, str k, .int .i64 c, str s] 29)) from (Below.refl _ w).alloc (Nat.le_refl _) _)
  have HK0 := Lib.hid (show Blk (w.alloc (.cells #[.int .u64 n, .int .u64 t, str k, .int .i64 c, str s] 29)) w.heap.size [.int .u64 n, .int .u64 t, str k, .int .i64 c, str s] from Blk.new w _ _)
  simp only at hk600
  have HC := Lib.hid (fun W => plain_any k W hk600)
  have HO := Lib.hid ho
  clear ho hk600
  by_cases i1 : (1 : Int) ≤ (n : Int)
  case neg =>
    have d1 : decide ((1 : Int) ≤ (n : Int)) = false := decide_eq_false i1
    unfold evA
    go_enter Tryz.func14, Tryz.ntmps14
    go_wp2_with fail
    go_ret
    exact ⟨rfl, HB0.out⟩
  by_cases i2 : (n : Int) ≤ 9007199254740992
  case neg =>
    have d1 : decide ((n : Int) ≤ 9007199254740992) = false := decide_eq_false i2
    unfold evA
    go_enter Tryz.func14, Tryz.ntmps14
    go_wp2_with fail
    go_ret
    exact ⟨rfl, HB0.out⟩
  by_cases i3 : (t : Int) ≤ 1099511627776
  case neg =>
    have d1 : decide ((t : Int) ≤ 1099511627776) = false := decide_eq_false i3
    unfold evA
    go_enter Tryz.func14, Tryz.ntmps14
    go_wp2_with fail
    go_ret
    exact ⟨rfl, HB0.out⟩
  cases hp : plainL k
  case false =>
    unfold evA
    go_enter Tryz.func14, Tryz.ntmps14
    go_wp2_with fail
    refine (HC.out _).mono ?_
    rintro e w1 ⟨rfl, hB⟩
    have HB1 := Lib.hid (HB0.out.trans (hB.mono HB0.out.size))
    have hK1 := HK0.out.below hB HK0.out.lt
    have d3 := hK1.at (o := 3) rfl
    have d4 := hK1.at (o := 4) rfl
    rw [hp]
    clear hB hK1 HC
    go_wp2_with fail
    go_ret
    exact ⟨rfl, HB1.out⟩
  by_cases i5 : (0 : Int) ≤ c
  case neg =>
    have d1 : decide ((0 : Int) ≤ c) = false := decide_eq_false i5
    unfold evA
    go_enter Tryz.func14, Tryz.ntmps14
    go_wp2_with fail
    refine (HC.out _).mono ?_
    rintro e w1 ⟨rfl, hB⟩
    have HB1 := Lib.hid (HB0.out.trans (hB.mono HB0.out.size))
    have hK1 := HK0.out.below hB HK0.out.lt
    have d3 := hK1.at (o := 3) rfl
    have d4 := hK1.at (o := 4) rfl
    rw [hp]
    clear hB hK1 HC
    go_wp2_with fail
    go_ret
    exact ⟨rfl, HB1.out⟩
  by_cases i6 : c ≤ 2147483647
  case neg =>
    have d1 : decide (c ≤ 2147483647) = false := decide_eq_false i6
    unfold evA
    go_enter Tryz.func14, Tryz.ntmps14
    go_wp2_with fail
    refine (HC.out _).mono ?_
    rintro e w1 ⟨rfl, hB⟩
    have HB1 := Lib.hid (HB0.out.trans (hB.mono HB0.out.size))
    have hK1 := HK0.out.below hB HK0.out.lt
    have d3 := hK1.at (o := 3) rfl
    have d4 := hK1.at (o := 4) rfl
    rw [hp]
    clear hB hK1 HC
    go_wp2_with fail
    go_ret
    exact ⟨rfl, HB1.out⟩
  by_cases i7 : (s.length : Int) ≤ 200
  case neg =>
    have d1 : decide ((s.length : Int) ≤ 200) = false := decide_eq_false i7
    unfold evA
    go_enter Tryz.func14, Tryz.ntmps14
    go_wp2_with fail
    refine (HC.out _).mono ?_
    rintro e w1 ⟨rfl, hB⟩
    have HB1 := Lib.hid (HB0.out.trans (hB.mono HB0.out.size))
    have hK1 := HK0.out.below hB HK0.out.lt
    have d3 := hK1.at (o := 3) rfl
    have d4 := hK1.at (o := 4) rfl
    rw [hp]
    clear hB hK1 HC
    go_wp2_with fail
    go_ret
    exact ⟨rfl, HB1.out⟩
  exact absurd (⟨by show 1 ≤ n; omega, by show n ≤ _; omega, by show t ≤ _; omega, hp, i5, i6, by show s.length ≤ _; omega⟩ : EvL.Ok ⟨n, t, k, c, s⟩) HO.out
theorem evLine_bad (e : EvL) (hk600 : e.kind.length ≤ 600) (ho : ¬ e.Ok) (w : World) :
    Calls Tryz.prog 6 #[evA e] w fun x w' => x = .returned (.tuple #[str [], .int .i64 4]) ∧ Below w.heap.size w w' := by
  have HH := Lib.hid (fun W => hasLine_bad e hk600 ho W)
  obtain ⟨n, t, k, c, s⟩ := e
  have HB0 := Lib.hid (show Below w.heap.size w (w.alloc (.cells #[.int .u64 n, .int .u64 t, str k, .int .i64 c, str s] 29)) from (Below.refl _ w).alloc (Nat.le_refl _) _)
  unfold evA at HH ⊢
  simp only at HH ⊢
  clear ho hk600
  go_enter Tryz.func6, Tryz.ntmps6
  go_wp2_with fail
  refine (HH.out _).mono ?_
  rintro e w1 ⟨rfl, hB⟩
  have HB1 := Lib.hid (HB0.out.trans (hB.mono HB0.out.size))
  clear hB
  go_wp2_with fail
  go_ret2
  exact ⟨rfl, HB1.out⟩
end Go.Proofs.YtoehkhbppmgfkaaGreatDoor
set_option maxRecDepth 100000
namespace Go.Proofs.YtoehkhbppmgfkaaGreatDoor
open Go.RowKit Go.Shelf
attribute [local go_sem] Oper.semAt_some
set_option maxHeartbeats 1000000 in
theorem chain_bad (v : Value) (e : EvL) (hk600 : e.kind.length ≤ 600) (ho : ¬ e.Ok) (w : World) :
    Calls Tryz.prog 29 #[v, evA e] w fun x w' => x = .returned (.tuple #[.slice none 0 0, .int .i64 4]) ∧ Below w.heap.size w w' := by
  have HH := Lib.hid (fun W => evLine_bad e hk600 ho W)
  obtain ⟨n, t, k, c, s⟩ := e
  have HB0 := Lib.hid (show Below w.heap.size w (w.alloc (.cells #[.int .u64 n, .int .u64 t, str k, .int .i64 c, str s] 29)) from (Below.refl _ w).alloc (Nat.le_refl _) _)
  unfold evA at HH ⊢
  simp only at HH ⊢
  clear ho hk600
  go_enter Tryz.func29, Tryz.ntmps29
  go_wp2_with fail
  refine (HH.out _).mono ?_
  rintro e w1 ⟨rfl, hB⟩
  have HB1 := Lib.hid (HB0.out.trans (hB.mono HB0.out.size))
  clear hB
  go_wp2_with fail
  go_ret2
  exact ⟨rfl, HB1.out⟩
end Go.Proofs.YtoehkhbppmgfkaaGreatDoor
set_option maxRecDepth 100000
namespace Go.Proofs.YtoehkhbppmgfkaaGreatDoor
open Go.RowKit Go.Shelf
attribute [local go_sem] Oper.semAt_some
abbrev tEv : TypeId := 29
abbrev tEvs : TypeId := 43
abbrev zev : Value := .agg #[.int .u64 0, .int .u64 0, str [], .int .i64 0, str []]
theorem info_ev : (Tryz.prog.info? tEv).map (fun i => (i.zero, i.size, i.bytes)) = some (some zev, 5, 56) := by kernel_rfl
/-- The cells of events. -/
def vcs (xs : List EvL) : List Value := xs.flatMap EvL.cells
theorem vcs_snoc (xs : List EvL) (x : EvL) : vcs (xs ++ [x]) = vcs xs ++ EvL.cells x := by unfold vcs; simp
theorem vcs_app (xs ys : List EvL) : vcs (xs ++ ys) = vcs xs ++ vcs ys := by unfold vcs; simp
theorem vcs_len (xs : List EvL) : (vcs xs).length = 5 * xs.length := by
  induction xs with
  | nil => rfl
  | cons x t ih => show (EvL.cells x ++ vcs t).length = _; rw [List.length_append, ih, List.length_cons]; show 5 + _ = _; omega
theorem vcs_at : ∀ (xs : List EvL) (k : Nat) (hk : k < xs.length) (i : Nat), i < 5 → (vcs xs)[k * 5 + i]? = (EvL.cells (xs[k]'hk))[i]?
  | [], k, hk, _, _ => by simp at hk
  | x :: t, 0, hk, i, hi => by
    show (EvL.cells x ++ vcs t)[0 * 5 + i]? = _
    rw [List.getElem?_append_left (by show 0 * 5 + i < 5; omega)]
    simp
  | x :: t, k + 1, hk, i, hi => by
    have ih := vcs_at t k (by simpa using hk) i hi
    show (EvL.cells x ++ vcs t)[(k + 1) * 5 + i]? = _
    rw [List.getElem?_append_right (by show 5 ≤ (k + 1) * 5 + i; omega), show (k + 1) * 5 + i - (EvL.cells x).length = k * 5 + i by show (k + 1) * 5 + i - 5 = _; omega]
    exact ih
theorem vcs_one (xs : List EvL) : ∀ u ∈ vcs xs, u.oneCell' = true := by
  intro u hu
  unfold vcs at hu
  rw [List.mem_flatMap] at hu
  obtain ⟨x, _, hx⟩ := hu
  unfold EvL.cells at hx
  simp only [List.mem_cons, List.not_mem_nil, or_false] at hx
  rcases hx with rfl | rfl | rfl | rfl | rfl <;> rfl
/-- A row of events (of type t) of the call's own. -/
def OwnV (t : TypeId) (w : World) (base : Nat) (v : Value) (xs : List EvL) : Prop := w.ownsRow base t 5 v xs.length (vcs xs)
section
variable {t : TypeId} {w w' : World} {base base' : Nat} {v : Value} {xs : List EvL}
theorem OwnV.nil (t : TypeId) (w : World) (base : Nat) : OwnV t w base (.slice none 0 0) [] := World.ownsRow_nil w base _ 5
theorem OwnV.below (h : OwnV t w base v xs) (hb : Below w.heap.size w w') : OwnV t w' base v xs :=
  World.ownsRow.kept h (grown_of_below hb none) (by by_cases e : v.ownBlock = none; exact .inl e; exact .inr e)
theorem OwnV.form (h : OwnV t w base v xs) : ∃ A c, v = .slice A xs.length c ∧ xs.length ≤ c ∧ c ≤ 9223372036854775807 := by
  obtain ⟨h1, ⟨h2, h3⟩ | ⟨g, cap, cur, h0, hb, hg, hc, hm, h4⟩⟩ := id h
  · have hx : xs = [] := List.eq_nil_of_length_eq_zero h3
    subst hx
    exact ⟨none, 0, h2, by simp, by omega⟩
  · exact ⟨_, cap, h0, hc, by unfold maxLen at hm; omega⟩
theorem OwnV.le (h : OwnV t w base v xs) (hb : base' ≤ base) : OwnV t w base' v xs := by
  obtain ⟨h1, h2 | ⟨g, cap, cur, h0, hbg, hg, h3⟩⟩ := h
  · exact ⟨h1, .inl h2⟩
  · exact ⟨h1, .inr ⟨g, cap, cur, h0, by omega, hg, h3⟩⟩
theorem OwnV.lt (h : OwnV t w base v xs) : ∀ k, v.ownBlock = some k → base ≤ k ∧ k < w.heap.size := World.ownsRow.lt h
theorem OwnV.set {b i : Nat} (h : OwnV t w base v xs) (hb : b < base) (u : Value) : OwnV t (w.setCell ⟨b, i, none⟩ u) base v xs :=
  World.ownsRow.kept h (grown_set w ⟨b, i, none⟩ u) (.inr (fun e => by have := (h.lt b e).1; omega))
end
/-- Events that lie in memory, below block B. -/
def EvIn (W : World) (B : Nat) (v : Value) (xs : List EvL) : Prop :=
  ∃ A c, v = .slice A xs.length c ∧ xs.length ≤ c ∧ (c ≤ 9223372036854775807 ∧ (A = none → c = 0)) ∧ (0 < xs.length → ∃ g o, A = some ⟨g, o, none⟩ ∧ g < B ∧ ∀ k (hk : k < xs.length) i, i < 5 → W.cell? ⟨g, o + k * 5 + i, none⟩ = (EvL.cells (xs[k]'hk))[i]?)
theorem OwnV.evIn {t : TypeId} {W : World} {base : Nat} {v : Value} {xs : List EvL} (h : OwnV t W base v xs) : EvIn W W.heap.size v xs := by
  obtain ⟨h1, ⟨h2, h3⟩ | ⟨g, cap, cur, h0, hb, hg, hc, hm, h3⟩⟩ := id h
  · have hx : xs = [] := List.eq_nil_of_length_eq_zero h3
    subst hx
    exact ⟨none, 0, h2, by simp, ⟨by omega, fun _ => rfl⟩, fun h => by simp at h⟩
  · refine ⟨_, cap, h0, hc, ⟨by unfold maxLen at hm; omega, fun e => by cases e⟩, fun _ => ⟨g, 0, rfl, (Array.getElem?_eq_some_iff.1 hg).1, fun k hk i hi => ?_⟩⟩
    have hat := vcs_at xs k hk i hi
    have hsome : (EvL.cells xs[k])[i]? = some ((EvL.cells xs[k])[i]'hi) := List.getElem?_eq_getElem hi
    rw [hsome] at hat ⊢
    have := World.ownsRow.cells h (g := g) (by rw [h0]; rfl) (k * 5 + i) _ hat
    rw [Addr.add_lit] at this
    rw [Nat.zero_add]
    simpa using this
theorem EvIn.below {W W' : World} {B B' : Nat} {v : Value} {xs : List EvL} (h : EvIn W B v xs) (hb : Below B' W W') (hB : B ≤ B') : EvIn W' B v xs := by
  obtain ⟨A, c, e, h1, h2, h⟩ := h
  refine ⟨A, c, e, h1, h2, fun hl => ?_⟩
  obtain ⟨g, o, hg, hlt, h3⟩ := h hl
  exact ⟨g, o, hg, hlt, fun k hk i hi => (hb.cell (p := ⟨g, o + k * 5 + i, none⟩) (by show g < B'; omega)).trans (h3 k hk i hi)⟩
theorem EvIn.more {W : World} {B B' : Nat} {v : Value} {xs : List EvL} (h : EvIn W B v xs) (hB : B ≤ B') : EvIn W B' v xs := by
  obtain ⟨A, c, e, h1, h2, h⟩ := h
  refine ⟨A, c, e, h1, h2, fun hl => ?_⟩
  obtain ⟨g, o, hg, hlt, h3⟩ := h hl
  exact ⟨g, o, hg, by omega, h3⟩
/-- The five cells of one of them. -/
theorem EvIn.five {W : World} {B : Nat} {A : Option Addr} {n c : Nat} {xs : List EvL} (h : EvIn W B (.slice A n c) xs) (k : Nat) (hk : k < xs.length) :
    ∃ g o, A = some ⟨g, o, none⟩ ∧ g < B ∧ W.cell? ⟨g, o + k * 5, none⟩ = some (.int .u64 xs[k].n) ∧ W.cell? ⟨g, o + k * 5 + 1, none⟩ = some (.int .u64 xs[k].tick) ∧ W.cell? ⟨g, o + k * 5 + 2, none⟩ = some (str xs[k].kind) ∧
      W.cell? ⟨g, o + k * 5 + 3, none⟩ = some (.int .i64 xs[k].conn) ∧ W.cell? ⟨g, o + k * 5 + 4, none⟩ = some (str xs[k].text) := by
  obtain ⟨A', c', e, _, _, h⟩ := h
  obtain ⟨g, o, hg, hlt, h3⟩ := h (by omega)
  injection e with e1 e2 e3
  subst e1
  exact ⟨g, o, hg, hlt, h3 k hk 0 (by omega), h3 k hk 1 (by omega), h3 k hk 2 (by omega), h3 k hk 3 (by omega), h3 k hk 4 (by omega)⟩
theorem EvIn.cells {W : World} {B : Nat} {g o c : Nat} {xs : List EvL} (h : EvIn W B (.slice (some ⟨g, o, none⟩) xs.length c) xs) : ∀ j u, (vcs xs)[j]? = some u → W.cell? ⟨g, o + j, none⟩ = some u := by
  obtain ⟨A', c', e, _, _, h⟩ := h
  intro j u hu
  have hj : j < (vcs xs).length := by
    rcases Nat.lt_or_ge j (vcs xs).length with h | h
    · exact h
    · rw [List.getElem?_eq_none h] at hu; cases hu
  rw [vcs_len] at hj
  obtain ⟨g', o', hg, hlt, h3⟩ := h (by omega)
  injection e with e1 e2 e3
  subst e1
  cases hg
  have h4 := h3 (j / 5) (by omega) (j % 5) (by omega)
  have h5 := vcs_at xs (j / 5) (by omega) (j % 5) (by omega)
  rw [← h5, Nat.add_assoc, show j / 5 * 5 + j % 5 = j by omega, hu] at h4
  exact h4
theorem OwnV.belowBase {t : TypeId} {w w' : World} {base : Nat} {v : Value} {xs : List EvL} (h : OwnV t w base v xs) (hg : w.grownBy w' v.ownBlock) (hb : base ≤ w.heap.size) : Below base w w' :=
  (Below.refl _ _).grown hg hb (fun k hk => (h.lt k hk).1)
theorem OwnV.kept {t : TypeId} {w w' : World} {base : Nat} {v : Value} {xs : List EvL} {row : Option Nat} (h : OwnV t w base v xs) (hg : w.grownBy w' row) (hne : v.ownBlock = none ∨ v.ownBlock ≠ row) : OwnV t w' base v xs := World.ownsRow.kept h hg hne
theorem OwnV.trs {t : TypeId} {S : List Nat} {w w' : World} {base : Nat} {v : Value} {l : List EvL} (h : OwnV t w base v l) (ht : Trs S w w') (hb : ∀ k, v.ownBlock = some k → k ∉ S) : OwnV t w' base v l := by
  obtain ⟨h1, h2 | ⟨g, cap, cur, rfl, hb', hg, h3⟩⟩ := h
  · exact ⟨h1, .inl h2⟩
  · exact ⟨h1, .inr ⟨g, cap, cur, rfl, hb', (ht.block g (Array.getElem?_eq_some_iff.1 hg).1 (hb g rfl)).trans hg, h3⟩⟩
theorem OwnV.empty (t : TypeId) (w : World) : OwnV t (w.alloc (.cells #[] t)) w.heap.size (.slice (some ⟨w.heap.size, 0, none⟩) 0 0) [] :=
  ⟨by simp [vcs], .inr ⟨w.heap.size, 0, #[], rfl, Nat.le_refl _, heap_alloc_new w _, by simp, by unfold maxLen; omega, by simp, by simp [vcs]⟩⟩
theorem news_ev {w : World} {gb : Nat} {q : EvL} {t : TypeId} (h : w.heap[gb]? = some (.cells q.cells.toArray t (0, 0))) : ∀ j u, q.cells[j]? = some u → w.cell? ((⟨gb, 0, none⟩ : Addr).add j) = some u := by
  intro j u hu
  rw [Addr.add_lit]
  simpa [World.cell?, h] using hu
theorem evc_one (q : EvL) : ∀ u ∈ q.cells, u.oneCell' = true := by
  intro u hu
  unfold EvL.cells at hu
  simp only [List.mem_cons, List.not_mem_nil, or_false] at hu
  rcases hu with rfl | rfl | rfl | rfl | rfl <;> rfl
/-- A type of events, and one of slices of them. -/
structure EvT (tS tE : TypeId) : Prop where
  u : Tryz.prog.underlying tS = some (.slice tE)
  i : (Tryz.prog.info? tE).map (fun i => (i.zero, i.size, i.bytes)) = some (some zev, 5, 56)
theorem evT : EvT tEvs tEv := ⟨Tryz.underlying43, info_ev⟩
theorem EvIn.adds {W : World} {B : Nat} {A : Addr} {n c : Nat} {xs : List EvL} (h : EvIn W B (.slice (some A) n c) xs) : ∀ j u, (vcs xs)[j]? = some u → W.cell? (A.add j) = some u := by
  intro j u hu
  have hj : j < (vcs xs).length := by
    rcases Nat.lt_or_ge j (vcs xs).length with h | h
    · exact h
    · rw [List.getElem?_eq_none h] at hu; cases hu
  rw [vcs_len] at hj
  obtain ⟨A', c', e, _, _, h3⟩ := id h
  obtain ⟨g, o, hg, _, _⟩ := h3 (by omega)
  injection e with e1 e2 e3
  subst e1; subst e2
  cases hg
  rw [Addr.add_mid]
  exact h.cells j u hu
section
variable {w : World} {ops : Array Oper} {rest : List Oper} {o : Oper} {a : Act} {Q : Exit → Act → World → Prop} {K : Act → World → Prop} {F : Fence} {n : Nat} {i : Nat} {tS tE : TypeId}
/-- append(row, events...). -/
theorem wpList_app_evs (hT : EvT tS tE) (hgd : o.guard = none) (s x : Operand) (ho : o.op = .call { callee := .builtin .append, args := #[s, x], argTypes := #[tS, tS] })
    (base : Nat) (v : Value) (l ms : List EvL) (hs : a.eval s = v) (hown : OwnV tE w base v l) (B : Nat) (vx : Value) (hx : a.eval x = vx) (hsrc : EvIn w B vx ms) (hlen : l.length + ms.length ≤ 100000) (hbase : base ≤ w.heap.size)
    (h : ∀ v' w', OwnV tE w' base v' (l ++ ms) → w.grownBy w' v.ownBlock → (v'.ownBlock = v.ownBlock ∨ v'.ownBlock = some w.heap.size) → wpList Tryz.prog ops Q rest (a.put o.dst v') w') : wpList Tryz.prog ops Q (o :: rest) a w := by
  obtain ⟨i0, hi, hz0, hz1, hz2⟩ := info_parts hT.i
  obtain ⟨A, c, rfl, h1, h2, h3⟩ := id hsrc
  cases A with
  | none =>
    obtain rfl : ms = [] := by
      cases ms with
      | nil => rfl
      | cons y t => obtain ⟨g, o, e, _⟩ := h3 (by simp); cases e
    obtain rfl := h2.2 rfl
    exact wpList_append_own_none hgd s x tS ho base tE i0 5 hT.u hi v l.length (vcs l) hs hown hx (h v w (by simpa using hown) (World.grownBy.refl w _) (.inl rfl))
  | some ad =>
    refine wpList_append_own_at w hgd s x tS ho base tE i0 _ 5 56 hT.u hi hz0 hz1 hz2 rfl (by decide) v l.length (vcs l) hs hown ad ms.length c (vcs ms) hx (by rw [vcs_len]; omega) hsrc.adds (vcs_one ms) (by unfold maxLen; omega) (by omega) hbase ?_
    intro v' w' g1 g2 _ g4
    refine h v' w' ?_ g2 g4
    unfold OwnV
    rw [List.length_append, vcs_app]
    exact g1
/-- append(row, one event). -/
theorem wpList_app_ev (hT : EvT tS tE) (hgd : o.guard = none) (s x : Operand) (ho : o.op = .call { callee := .builtin .append, args := #[s, x], argTypes := #[tS, tS] })
    (base : Nat) (v : Value) (l : List EvL) (q : EvL) (hs : a.eval s = v) (hown : OwnV tE w base v l) (g : Nat) (hx : a.eval x = .slice (some ⟨g, 0, none⟩) 1 1)
    (hg : w.heap[g]? = some (.cells q.cells.toArray tE (0, 0))) (hlen : l.length ≤ 100000) (hbase : base ≤ w.heap.size)
    (h : ∀ v' w', OwnV tE w' base v' (l ++ [q]) → w.grownBy w' v.ownBlock → (v'.ownBlock = v.ownBlock ∨ v'.ownBlock = some w.heap.size) → wpList Tryz.prog ops Q rest (a.put o.dst v') w') : wpList Tryz.prog ops Q (o :: rest) a w := by
  obtain ⟨i0, hi, hz0, hz1, hz2⟩ := info_parts hT.i
  refine wpList_append_own_at w hgd s x tS ho base tE i0 _ 5 56 hT.u hi hz0 hz1 hz2 rfl (by decide) v l.length (vcs l) hs hown ⟨g, 0, none⟩ 1 1 q.cells hx rfl (news_ev hg) (evc_one q) (by unfold maxLen; omega) (by omega) hbase ?_
  intro v' w' g1 g2 _ g4
  refine h v' w' ?_ g2 g4
  unfold OwnV
  rw [List.length_append, vcs_snoc]
  exact g1
theorem wpListIn_app_ev (hT : EvT tS tE) (hgd : o.guard = none) (s x : Operand) (ho : o.op = .call { callee := .builtin .append, args := #[s, x], argTypes := #[tS, tS] })
    (base : Nat) (v : Value) (l : List EvL) (q : EvL) (hs : a.eval s = v) (hown : OwnV tE w base v l) (g : Nat) (hx : a.eval x = .slice (some ⟨g, 0, none⟩) 1 1)
    (hg : w.heap[g]? = some (.cells q.cells.toArray tE (0, 0))) (hlen : l.length ≤ 100000) (hbase : base ≤ w.heap.size)
    (h : ∀ v' w', OwnV tE w' base v' (l ++ [q]) → w.grownBy w' v.ownBlock → (v'.ownBlock = v.ownBlock ∨ v'.ownBlock = some w.heap.size) → wpListIn F n Tryz.prog ops Q rest (a.put o.dst v') w') : wpListIn F n Tryz.prog ops Q (o :: rest) a w := by
  obtain ⟨i0, hi, hz0, hz1, hz2⟩ := info_parts hT.i
  refine wpListIn_append_own_at w hgd s x tS ho base tE i0 _ 5 56 hT.u hi hz0 hz1 hz2 rfl (by decide) v l.length (vcs l) hs hown ⟨g, 0, none⟩ 1 1 q.cells hx rfl (news_ev hg) (evc_one q) (by unfold maxLen; omega) (by omega) hbase ?_
  intro v' w' g1 g2 _ g4
  refine h v' w' ?_ g2 g4
  unfold OwnV
  rw [List.length_append, vcs_snoc]
  exact g1
end
end Go.Proofs.YtoehkhbppmgfkaaGreatDoor
set_option maxRecDepth 100000
namespace Go.Proofs.YtoehkhbppmgfkaaGreatDoor
open Go.RowKit Go.Shelf
attribute [local go_sem] Oper.semAt_some
theorem heap_setCellsV {b : Nat} {t : TypeId} {vs : List Value} : ∀ {w : World} {cs : List Value} (_ : w.heap[b]? = some (.cells cs.toArray t (0, 0))) (o : Nat) (_ : o + vs.length ≤ cs.length), (w.setCells b o vs).heap[b]? = some (.cells (cs.take o ++ vs ++ cs.drop (o + vs.length)).toArray t (0, 0)) := by
  induction vs with
  | nil => intro w cs h o _; simpa [World.setCells] using h
  | cons v vs ih =>
    intro w cs h o hl
    simp only [List.length_cons] at hl
    have h0 : (w.setCell ⟨b, o, none⟩ v).heap[b]? = some (.cells (cs.set o v).toArray t (0, 0)) := by
      simp only [World.setCell]; rw [Array.getElem?_modify, if_pos rfl, h]; simp
    have h1 := ih h0 (o + 1) (by simp; omega)
    have e : (cs.set o v).take (o + 1) ++ vs ++ (cs.set o v).drop (o + 1 + vs.length) = cs.take o ++ v :: vs ++ cs.drop (o + (v :: vs).length) := by
      rw [List.take_set, List.drop_set_of_lt (by omega), List.take_succ_eq_append_getElem (by omega), List.set_append_right _ _ (by simp; omega)]
      simp [Nat.min_eq_left (show o ≤ cs.length by omega), show o + 1 + vs.length = o + (vs.length + 1) by omega]
    rw [← e]; exact h1
theorem OwnV.heap {t : TypeId} {w : World} {base g n cap : Nat} {l : List EvL} (h : OwnV t w base (.slice (some ⟨g, 0, none⟩) n cap) l) :
    ∃ cs : List Value, w.heap[g]? = some (.cells cs.toArray t (0, 0)) ∧ cs.length = cap * 5 ∧ cs.take (l.length * 5) = vcs l ∧ base ≤ g ∧ l.length ≤ cap ∧ cap ≤ maxLen ∧ n = l.length := by
  obtain ⟨h1, h2 | ⟨g', cap', cur, e, hb, hg, hc, hm, hs, ht⟩⟩ := h
  · exact absurd h2.1 (by simp)
  · injection e with e1 e2 e3
    injection e1 with e1
    injection e1 with e1 _ _
    subst e1 e3
    exact ⟨cur.toList, by simpa using hg, by simpa using hs, by simpa using ht, hb, hc, hm, e2⟩
theorem OwnV.of_heap {t : TypeId} {w : World} {base g cap n : Nat} {cs : List Value} {l : List EvL} (hb : base ≤ g) (hg : w.heap[g]? = some (.cells cs.toArray t (0, 0))) (hc : cs.length = cap * 5) (hm : cap ≤ maxLen) (hn : l.length = n) (hl : cs.take (n * 5) = vcs l) (hnc : n ≤ cap) :
    OwnV t w base (.slice (some ⟨g, 0, none⟩) n cap) l := by
  subst hn
  exact ⟨by rw [vcs_len]; omega, .inr ⟨g, cap, cs.toArray, rfl, hb, hg, hnc, hm, by simpa using hc, by simpa using hl⟩⟩
abbrev zevC : List Value := [.int .u64 0, .int .u64 0, str [], .int .i64 0, str []]
/-- clear of one event. -/
theorem run_clear_ev (w : World) (ty : TypeId) (b o c : Nat) (hc : ∀ j, j < 5 → (w.cell? ⟨b, o + j, none⟩).isSome = true) (hf : ∀ j, j < 5 → w.frozen? ⟨b, o + j, none⟩ = false) :
    (Builtin.clear_ #[tEvs] ty #[.slice (some ⟨b, o, none⟩) 1 c]).run Tryz.prog w = .ok (.tuple #[]) (w.setCells b o zevC) := by
  have hv : ∀ w, (zeroValue tEv).run Tryz.prog w = .ok zev w := fun w => by kernel_rfl
  have hzc : (Builtin.zeroCells (Value.cells zev) 1).toList = zevC := by kernel_rfl
  have hst := run_storeCells_cells (P := Tryz.prog) b o zevC 0 w (by simpa using hc) (by simpa using hf) (by simp [Value.oneCell'])
  simp only [Nat.add_zero] at hst
  simp [Builtin.clear_, run_underlying Tryz.underlying43, hv, hzc, hst]
theorem vcs_take (xs : List EvL) (k : Nat) (hk : k ≤ xs.length) : (vcs xs).take (k * 5) = vcs (xs.take k) := by
  conv => lhs; rw [← List.take_append_drop k xs, vcs_app]
  rw [List.take_append_of_le_length (by rw [vcs_len, List.length_take]; omega), List.take_of_length_le (by rw [vcs_len, List.length_take]; omega)]
theorem vcs_drop (xs : List EvL) (k : Nat) (hk : k ≤ xs.length) : (vcs xs).drop (k * 5) = vcs (xs.drop k) := by
  conv => lhs; rw [← List.take_append_drop k xs, vcs_app]
  rw [List.drop_append_of_le_length (by rw [vcs_len, List.length_take]; omega), List.drop_of_length_le (by rw [vcs_len, List.length_take]; omega), List.nil_append]
set_option maxHeartbeats 2000000 in
theorem delete_ev (base g cap : Nat) (l : List EvL) (k j : Nat) (hj : j = k + 1) (w : World) (hO : OwnV tEv w base (.slice (some ⟨g, 0, none⟩) l.length cap) l) (hk : k < l.length) (hl : l.length ≤ 100000) :
    Calls Tryz.prog 30 #[.slice (some ⟨g, 0, none⟩) l.length cap, .int .i64 (k : Int), .int .i64 (j : Int)] w fun e w' => e = .returned (.slice (some ⟨g, 0, none⟩) (l.length - 1) cap) ∧ OwnV tEv w' base (.slice (some ⟨g, 0, none⟩) (l.length - 1) cap) (l.take k ++ l.drop j) ∧ w.grownBy w' (some g) := by
  obtain ⟨cs, hheap, hcs, htk, hbg, hlc, hcm, _⟩ := hO.heap
  have hcm' : cap ≤ 9223372036854775807 := by unfold maxLen at hcm; exact hcm
  obtain ⟨i0, hi, hz0, hz1, hz2⟩ := info_parts info_ev
  obtain ⟨m, hm⟩ : ∃ m, m = l.length - 1 := ⟨_, rfl⟩
  obtain ⟨D, hD⟩ : ∃ D, D = l.drop j := ⟨_, rfl⟩
  have hDl : D.length = l.length - j := by rw [hD, List.length_drop]
  rw [← hm, ← hD]
  have hB : Blk w g cs := ⟨_, hheap⟩
  have hvl : (vcs D).length = 5 * D.length := vcs_len D
  have hcell : ∀ i u, (vcs D)[i]? = some u → cs[j * 5 + i]? = some u := by
    intro i u hu
    have hj2 : i < (vcs D).length := (List.getElem?_eq_some_iff.1 hu).1
    have h1 : (cs.take (l.length * 5))[j * 5 + i]? = (vcs l)[j * 5 + i]? := by rw [htk]
    rw [List.getElem?_take, if_pos (by omega)] at h1
    rw [h1, ← List.getElem?_drop, vcs_drop l j (by omega), ← hD]
    exact hu
  obtain ⟨A, hA, hsrc⟩ : ∃ A : Addr, (if cap = j then some (⟨g, 0, none⟩ : Addr) else some ⟨g, j * 5, none⟩) = some A ∧ Hid (∀ i u, (vcs D)[i]? = some u → w.drew.cell? (A.add i) = some u) := by
    refine ⟨if cap = j then ⟨g, 0, none⟩ else ⟨g, j * 5, none⟩, by split <;> rfl, fun i u hu => ?_⟩
    have hj2 : i < (vcs D).length := (List.getElem?_eq_some_iff.1 hu).1
    rw [if_neg (by omega)]
    rw [Addr.add_mid]
    exact hB.at (hcell i u hu)
  have hspare : Hid (∀ j, j < (vcs D).length → (w.drew.cell? ⟨g, 0 + k * 5 + j, none⟩).isSome = true ∧ w.drew.frozen? ⟨g, 0 + k * 5 + j, none⟩ = false) := Lib.hid fun j hj => by
    have hj' : k * 5 + j < cs.length := by omega
    refine ⟨?_, hB.free _⟩
    show (w.cell? _).isSome = true
    rw [hB.cell, show 0 + k * 5 + j = k * 5 + j by omega, List.getElem?_eq_getElem hj']; rfl
  obtain ⟨W1, hW1⟩ : ∃ W1, W1 = w.drew.setCells g (0 + k * 5) (vcs D) := ⟨_, rfl⟩
  have hH1 := heap_setCellsV (w := w.drew) (vs := vcs D) hheap (0 + k * 5) (by omega)
  rw [← hW1] at hH1
  obtain ⟨cs1, hcs1⟩ : ∃ c : List Value, c = cs.take (0 + k * 5) ++ vcs D ++ cs.drop (0 + k * 5 + (vcs D).length) := ⟨_, rfl⟩
  rw [← hcs1] at hH1
  have hlen1 : cs1.length = cap * 5 := by rw [hcs1]; simp; omega
  have htk1 : cs1.take (m * 5) = vcs (l.take k ++ D) := by
    have e0 : cs.take (k * 5) = vcs (l.take k) := by
      rw [← vcs_take l k (by omega), ← htk, List.take_take, Nat.min_eq_left (by omega)]
    rw [hcs1, Nat.zero_add, e0, ← vcs_app, List.take_append_of_le_length (by rw [vcs_len, List.length_append, List.length_take]; omega), List.take_of_length_le (by rw [vcs_len, List.length_append, List.length_take]; omega)]
  have hB1 : Blk W1 g cs1 := ⟨_, hH1⟩
  have hcl : ∀ ty, (Builtin.clear_ #[tEvs] ty #[.slice (some ⟨g, m * 5, none⟩) 1 (cap - m)]).run Tryz.prog W1 = .ok (.tuple #[]) (W1.setCells g (m * 5) zevC) := fun ty =>
    run_clear_ev W1 ty g (m * 5) (cap - m) (fun j hj => by rw [hB1.cell, List.getElem?_eq_getElem (by omega)]; rfl) (fun j hj => hB1.free _)
  have hH2 := heap_setCellsV (w := W1) (vs := zevC) hH1 (m * 5) (by show m * 5 + 5 ≤ _; omega)
  have hfin : Hid (OwnV tEv (W1.setCells g (m * 5) zevC) base (.slice (some ⟨g, 0, none⟩) m cap) (l.take k ++ D)) := Lib.hid (by
    refine OwnV.of_heap hbg hH2 ?_ hcm (by rw [List.length_append, List.length_take]; omega) ?_ (by omega)
    · have : zevC.length = 5 := rfl
      simp only [List.length_append, List.length_take, List.length_drop]
      omega
    · rw [List.append_assoc, List.take_append_of_le_length (by rw [List.length_take]; omega), List.take_take, Nat.min_self, htk1])
  have hgr : Hid (w.grownBy (W1.setCells g (m * 5) zevC) (some g)) := Lib.hid (by
    have h1 : w.grownBy W1 (some g) := by rw [hW1]; exact (grown_drewN (World.grownBy.refl w (some g)) 1).trans (grown_setCells g _ _ _)
    exact h1.trans (grown_setCells g _ _ _))
  have HL2 : Hid (k + (l.length - j) = l.length - 1) := Lib.hid (by omega)
  have hm1 : l.length - 1 ≤ l.length := by omega
  have hm2 : l.length - 1 ≤ cap := by omega
  have hjc : j ≤ cap := by omega
  have hjl : j ≤ l.length := by omega
  have hkj : k ≤ j := by omega
  have hkc : k ≤ cap := by omega
  have hW : Hid (W1 = w.drew.setCells g (0 + k * 5) (vcs D)) := hW1
  have s1 : Hid ((vcs D).length = (l.length - j) * 5) := Lib.hid (by omega)
  have s2 : Hid (∀ u ∈ vcs D, u.oneCell' = true) := Lib.hid (vcs_one _)
  have hn0 : ((k : Int) == (j : Int)) = false := beq_eq_false_iff_ne.2 (by omega)
  subst hm
  have hcl2 : ∀ ty, (Builtin.clear_ #[tEvs] ty #[.slice (some ⟨g, (l.length - 1) * 5, none⟩) (l.length - (l.length - 1)) (cap - (l.length - 1))]).run Tryz.prog W1 = .ok (.tuple #[]) (W1.setCells g ((l.length - 1) * 5) zevC) := by
    rw [show l.length - (l.length - 1) = 1 from by omega]; exact hcl
  clear hcl
  clear hO hheap hcs htk hB hcell hW1 hH1 hcs1 hlen1 htk1 hB1 hH2 hcm hDl hvl hD hj
  go_enter Tryz.func30, Tryz.ntmps30
  go_wp2_with fail
  go_region_law ((refine step_append_room rfl (.tmp 22) (.tmp 25) tEvs rfl tEv i0 5 Tryz.underlying43 hi hz1 g 0 k cap (by go_simp) A (l.length - j) (cap - j) (vcs D) (by simp [Act.eval, Act.put]) s1.out hsrc.out s2.out (by omega) hspare.out ?_; rw [← hW.out, HL2.out]))
  go_wp2_with fail
  go_ret
  exact ⟨rfl, hfin.out, hgr.out⟩
end Go.Proofs.YtoehkhbppmgfkaaGreatDoor
set_option maxRecDepth 100000
namespace Go.Proofs.YtoehkhbppmgfkaaGreatDoor
open Go.RowKit Go.Shelf
attribute [local go_sem] Oper.semAt_some
theorem evLine_len (e : EvL) (ho : e.Ok) : (evLine e).length ≤ 1000 := by
  obtain ⟨n, t, k, c, s⟩ := e
  obtain ⟨o1, o2, o3, o4, o5, o6, o7⟩ := ho
  simp only at o1 o2 o3 o4 o5 o6 o7
  have hk32 : k.length ≤ 32 := by
    unfold plainL at o4
    simp only [Bool.and_eq_true, decide_eq_true_eq] at o4
    omega
  have l1 : (Lib.decDigits n).length ≤ 20 := by rw [Lib.decDigits_length]; exact Lib.nDigits_le20 n (by omega)
  have l2 : (Lib.decDigits t).length ≤ 20 := by rw [Lib.decDigits_length]; exact Lib.nDigits_le20 t (by omega)
  have l3 : (Lib.itoa c).length ≤ 100 := by have := Lib.itoa_length_le c (by omega) (by omega); omega
  have l4 : (textF s).length ≤ 800 := by
    unfold textF
    split
    · simp
    · unfold encH; rw [letters_length]; unfold many; omega
  unfold evLine
  simp only [List.length_append, List.length_cons]
  omega
set_option maxHeartbeats 2000000 in
theorem chain_ok (v : Value) (ch : List UInt8) (e : EvL) (ho : e.Ok) (w : World) (hv : Sl w w.heap.size v ch) (hc : ch.length ≤ 1000) (hT : TabA w) (hE : PowE w) :
    Calls Tryz.prog 29 #[v, evA e] w fun x w' => ∃ v', x = .returned (.tuple #[v', .int .i64 0]) ∧ OwnB w' w.heap.size v' (sumL (ch ++ evLine e)) ∧ Below w.heap.size w w' := by
  have HH := Lib.hid (fun W h => evLine_ok e ho W h)
  have hll : (evLine e).length ≤ 1000 := evLine_len e ho
  generalize evLine e = X at HH hll ⊢
  obtain ⟨n, t, k, c, s⟩ := e
  have HB0 := Lib.hid (show Below w.heap.size w (w.alloc (.cells #[.int .u64 n, .int .u64 t, str k, .int .i64 c, str s] 29)) from (Below.refl _ w).alloc (Nat.le_refl _) _)
  have hG := tab_lt hT
  have HV := Lib.hid hv
  obtain ⟨A0, c0, rfl, -⟩ := hv
  have HT := Lib.hid hT
  have HE := Lib.hid hE
  have HLL := Lib.hid hll
  have HC := Lib.hid hc
  unfold evA at HH ⊢
  simp only at HH ⊢
  clear ho hT hE hll hc
  go_enter Tryz.func29, Tryz.ntmps29
  go_wp2_with fail
  refine (HH.out _ (HE.out.below HB0.out)).mono ?_
  rintro e w1 ⟨rfl, hB⟩
  have HB1 := Lib.hid (HB0.out.trans (hB.mono HB0.out.size))
  clear hB HH
  obtain ⟨vx, W2, hrun, hB2, hS2⟩ := conv_tx X w1 (by have := HLL.out; omega)
  have HB2 := Lib.hid (HB1.out.trans (hB2.mono HB1.out.size))
  have HS2 := Lib.hid hS2
  obtain ⟨A1, c1, rfl, -⟩ := hS2
  clear hB2
  go_wp2_with fail
  obtain ⟨W3, hW3⟩ : ∃ W, W = W2.alloc (.cells #[.slice A0 ch.length c0, .slice A1 X.length c1] 49) := ⟨_, rfl⟩
  have hb3 : Below W2.heap.size W2 W3 := by rw [hW3]; exact (Below.refl _ _).alloc (Nat.le_refl _) _
  have hz3 : W3.heap.size = W2.heap.size + 1 := by rw [hW3]; simp
  have hz1 := HB1.out.size
  have hz2 := HB2.out.size
  have hk : Blk W3 W2.heap.size [.slice A0 ch.length c0, .slice A1 X.length c1] := by rw [hW3]; exact Blk.new W2 [.slice A0 ch.length c0, .slice A1 X.length c1] _
  have HB3 := Lib.hid (HB2.out.trans (hb3.mono hz2))
  have hsl : Sls W3 W3.heap.size (.slice (some ⟨W2.heap.size, 0, none⟩) 2 2) [ch, X] := by
    refine ⟨_, 2, rfl, by simp, by omega, fun _ => ⟨W2.heap.size, 0, rfl, by omega, fun j hj => ?_⟩⟩
    match j, hj with
    | 0, _ => exact ⟨_, by rw [hk.cell]; rfl, ((HV.out.below HB2.out (Nat.le_refl _)).below hb3 hz2).more (by omega)⟩
    | 1, _ => exact ⟨_, by rw [hk.cell]; rfl, (HS2.out.below hb3 (by omega)).more (by omega)⟩
    | j + 2, h => simp at h; omega
  rw [← hW3]
  have HSL := Lib.hid hsl
  clear hsl hk hb3 hW3 hrun
  refine (shaSum_any _ [ch, X] W3 HSL.out (by intro l hl; simp only [List.mem_cons, List.not_mem_nil, or_false] at hl; rcases hl with rfl | rfl; have := HC.out; omega; have := HLL.out; omega) (HT.out.below HB3.out hG)).mono ?_
  rintro e w4 ⟨v', rfl, hO, hB4⟩
  have HB4 := Lib.hid (HB3.out.trans (hB4.mono (by omega)))
  have HO := Lib.hid hO
  clear hO hB4
  go_wp2_with fail
  go_ret2
  refine ⟨v', rfl, ?_, HB4.out⟩
  have := HO.out
  simp only [List.flatten_cons, List.flatten_nil, List.append_nil] at this
  exact this.lower (by omega)
/-- The blocks of a Trace. -/
def trS (b : Nat) (V C : Value) : List Nat := b :: (V.ownBlock.toList ++ C.ownBlock.toList)
theorem mem_trS {b k : Nat} {V C : Value} : k ∈ trS b V C ↔ k = b ∨ V.ownBlock = some k ∨ C.ownBlock = some k := by
  unfold trS
  simp only [List.mem_cons, List.mem_append, Option.mem_toList]
def trCs (room : Nat) (V C : Value) (last : Nat) : List Value := [.int .i64 (room : Int), V, .int .u64 (last : Int), C]
/-- A Trace at block b; all of it lies from base on. -/
structure TR (w : World) (base b room : Nat) (V C : Value) (L : List EvL) (last : Nat) (ch : List UInt8) : Prop where
  blk : Blk w b (trCs room V C last)
  own : OwnV tEv w base V L
  chn : OwnB w base C ch
  geb : base ≤ b
  apb : V.ownBlock ≠ some b ∧ C.ownBlock ≠ some b
  apv : ∀ k, V.ownBlock = some k → C.ownBlock ≠ some k
  r1 : 1 ≤ room
  r2 : room ≤ 256
  len : L.length ≤ 1000
  lst : last ≤ 1000000
  c32 : ch.length = 32
  tab : TabA w
  pow : PowE w
  gt : 4 < base
  gp : 0 < base
section
variable {w w' : World} {base b room last : Nat} {V C : Value} {L : List EvL} {ch : List UInt8}
theorem TR.inS (h : TR w base b room V C L last ch) : ∀ k ∈ trS b V C, base ≤ k ∧ k < w.heap.size := by
  intro k hk
  rcases mem_trS.1 hk with rfl | hk | hk
  · exact ⟨h.geb, h.blk.lt⟩
  · exact h.own.lt k hk
  · exact h.chn.lt k hk
theorem TR.size (h : TR w base b room V C L last ch) : base ≤ w.heap.size := Nat.le_trans h.geb (Nat.le_of_lt h.blk.lt)
theorem PowE.trs {S : List Nat} (h : PowE w) (ht : Trs S w w') (hb : 0 ∉ S) : PowE w' := by
  obtain ⟨h1, h2⟩ := h
  refine ⟨?_, by have := ht.size; omega⟩
  unfold Lib.TabIs World.var? at h1 ⊢
  have hg : Tryz.prog.globalNamed "internal/strconv.uint64pow10" = some 0 := by kernel_rfl
  simp only [hg, Option.bind_some] at h1 ⊢
  rw [ht.block 0 h2 hb]
  exact h1
theorem TabA.trs {S : List Nat} (h : TabA w) (ht : Trs S w w') (hb : 4 ∉ S) : TabA w' := fun j hj => by
  have hl : 4 < w.heap.size := tab_lt h
  rw [← h j hj]
  simp only [World.cell?, ht.block _ hl hb]
theorem OwnB.trsV {S : List Nat} {w w' : World} {base : Nat} {v : Value} {l : List UInt8} (h : OwnB w base v l) (ht : Trs S w w') (hb : ∀ k, v.ownBlock = some k → k ∉ S) : OwnB w' base v l := by
  obtain ⟨h1, h2 | ⟨g, cap, cur, rfl, hb', hg, h3⟩⟩ := h
  · exact ⟨h1, .inl h2⟩
  · exact ⟨h1, .inr ⟨g, cap, cur, rfl, hb', (ht.block g (Array.getElem?_eq_some_iff.1 hg).1 (hb g rfl)).trans hg, h3⟩⟩
/-- What doesn't turn a Trace's blocks keeps it. -/
theorem TR.trs {S : List Nat} (h : TR w base b room V C L last ch) (ht : Trs S w w') (hS : ∀ k ∈ trS b V C, k ∉ S) (hg : ∀ k ∈ S, base ≤ k) : TR w' base b room V C L last ch := by
  refine ⟨ht.blk h.blk (hS _ (mem_trS.2 (.inl rfl))), h.own.trs ht (fun k hk => hS _ (mem_trS.2 (.inr (.inl hk)))), h.chn.trsV ht (fun k hk => hS _ (mem_trS.2 (.inr (.inr hk)))), h.geb, h.apb, h.apv, h.r1, h.r2, h.len, h.lst, h.c32, h.tab.trs ht (fun hk => ?_), h.pow.trs ht (fun hk => ?_), h.gt, h.gp⟩
  · have := hg _ hk; have := h.gt; omega
  · have := hg _ hk; have := h.gp; omega
theorem TR.below (h : TR w base b room V C L last ch) (hb : Below w.heap.size w w') : TR w' base b room V C L last ch :=
  h.trs (S := []) (Trs.of_below hb) (fun _ _ => by simp) (fun _ hk => by simp at hk)
/-- A Trace that has turned. -/
theorem TR.turn (h : TR w base b room V C L last ch) {V' C' : Value} {L' : List EvL} {last' : Nat} {ch' : List UInt8} (hk : Blk w' b (trCs room V' C' last')) (ho : OwnV tEv w' base V' L') (hc : OwnB w' base C' ch')
    (ap : (V'.ownBlock ≠ some b ∧ C'.ownBlock ≠ some b) ∧ ∀ k, V'.ownBlock = some k → C'.ownBlock ≠ some k) (hl : L'.length ≤ 1000) (hn : last' ≤ 1000000) (h32 : ch'.length = 32) (ht : Trs (trS b V C) w w') : TR w' base b room V' C' L' last' ch' := by
  refine ⟨hk, ho, hc, h.geb, ap.1, ap.2, h.r1, h.r2, hl, hn, h32, h.tab.trs ht (fun hk => ?_), h.pow.trs ht (fun hk => ?_), h.gt, h.gp⟩
  · have := (h.inS _ hk).1; have := h.gt; omega
  · have := (h.inS _ hk).1; have := h.gp; omega
theorem TR.low (h : TR w base b room V C L last ch) (ht : Trs (trS b V C) w w') : Below base w w' := ht.toBelow h.size (fun k hk => (h.inS k hk).1)
end
/-- What there is room for. -/
def keepL (room : Nat) (xs : List EvL) : List EvL := if room < xs.length then xs.drop 1 else xs
end Go.Proofs.YtoehkhbppmgfkaaGreatDoor
set_option maxRecDepth 100000
namespace Go.Proofs.YtoehkhbppmgfkaaGreatDoor
open Go.RowKit Go.Shelf
attribute [local go_sem] Oper.semAt_some
theorem wpOp_appEv {tS tE : TypeId} (hT : EvT tS tE) {ops : Array Oper} {Q : Exit → Act → World → Prop} {K : Act → World → Prop} {a : Act} {w : World} {i : Nat} {o : Oper} (d : Tmp) (hi : ops[i]? = some o) (hd : o.dst = some d) (hgd : o.guard = none) (s x : Operand) (ho : o.op = .call { callee := .builtin .append, args := #[s, x], argTypes := #[tS, tS] })
    (base : Nat) (v : Value) (xs : List EvL) (hs : a.eval s = v) (hown : OwnV tE w base v xs) (gb : Nat) (q : EvL) (hx : a.eval x = .slice (some ⟨gb, 0, none⟩) 1 1)
    (hnew : w.heap[gb]? = some (.cells q.cells.toArray tE (0, 0))) (hn : xs.length ≤ 100000) (hbase : base ≤ w.heap.size)
    (h : ∀ g cap w', OwnV tE w' base (.slice (some ⟨g, 0, none⟩) (xs.length + 1) cap) (xs ++ [q]) → w.grownBy w' v.ownBlock → (v.ownBlock = some g ∨ g = w.heap.size) → K (a.put (some d) (.slice (some ⟨g, 0, none⟩) (xs.length + 1) cap)) w') : wpOp Tryz.prog ops Q i K a w := by
  refine wpOp_of_wp hi (by simp [Region.wanted, hgd]) ?_
  obtain ⟨i0, hi, hz0, hz1, hz2⟩ := info_parts hT.i
  refine wp_append_lies w s x tS ho base tE i0 _ 5 56 hT.u hi hz0 hz1 hz2 rfl (by decide) v xs.length (vcs xs) hs hown ⟨gb, 0, none⟩ 1 1 q.cells hx rfl (news_ev hnew) (evc_one q) (by omega) (by unfold maxLen; omega) (by omega) hbase w.heap.size rfl ?_
  intro g cap w' h1 h2 h3 _
  rw [hd]
  refine h g cap w' ?_ h2 h3
  unfold OwnV
  rw [List.length_append, vcs_snoc]
  exact h1
/-- An event has come behind the others. -/
theorem TR.push {W W4 w4 : World} {base b room last : Nat} {V C V5 : Value} {L : List EvL} {ch : List UInt8} (h : TR W base b room V C L last ch) (e : EvL) (hl : L.length + 1 ≤ 1000) (hW : Below W.heap.size W W4) (hO : OwnV tEv w4 base V5 (L ++ [e])) (hg : W4.grownBy w4 V.ownBlock) (ho : V5.ownBlock = V.ownBlock ∨ V5.ownBlock = some W4.heap.size) :
    TR (w4.setCell ⟨b, 1, none⟩ V5) base b room V5 C (L ++ [e]) last ch ∧ Trs (trS b V C) W (w4.setCell ⟨b, 1, none⟩ V5) ∧ (V5.ownBlock = V.ownBlock ∨ ∀ k, V5.ownBlock = some k → W.heap.size ≤ k) := by
  have h4 := h.below hW
  have hz := hW.size
  have hbl := h.blk.lt
  have ht1 : Trs (trS b V C) W w4 := ((Trs.of_below hW : Trs (trS b V C) W W4)).grown hg (fun k hk => mem_trS.2 (.inr (.inl hk)))
  have ht2 := ht1.set (p := ⟨b, 1, none⟩) (mem_trS.2 (.inl rfl)) V5
  have hb5 : V5.ownBlock ≠ some b := by
    rcases ho with e | e
    · rw [e]; exact h.apb.1
    · rw [e]; intro e2; have := Option.some.inj e2; omega
  refine ⟨h.turn (((h4.blk.grown hg (fun e => h.apb.1 e.symm)).set 1 V5)) (World.ownsRow.kept hO (grown_set w4 ⟨b, 1, none⟩ V5) (.inr hb5)) ?_ ⟨⟨hb5, h.apb.2⟩, ?_⟩ (by rw [List.length_append, List.length_singleton]; exact hl) h.lst h.c32 ht2, ht2, ?_⟩
  · refine (h4.chn.kept hg ?_).kept (grown_set w4 ⟨b, 1, none⟩ V5) (.inr h.apb.2)
    by_cases hc : C.ownBlock = none
    · exact .inl hc
    · refine .inr (fun e => ?_)
      cases hv : V.ownBlock with
      | none => rw [hv] at e; exact hc e
      | some k => rw [hv] at e; exact h.apv k hv e
  · intro k hk hc
    rcases ho with e | e
    · rw [e] at hk; exact h.apv k hk hc
    · rw [e] at hk
      have := Option.some.inj hk
      have := (h.chn.lt k hc).2
      omega
  · rcases ho with e | e
    · exact .inl e
    · exact .inr (fun k hk => by rw [e] at hk; have := Option.some.inj hk; omega)
theorem Trs.next {S S' : List Nat} {w w1 w' : World} (h : Trs S w w1) (k : Trs S' w1 w') (hs : ∀ i ∈ S', i ∈ S ∨ w.heap.size ≤ i) : Trs S w w' :=
  ⟨k.os.trans h.os, k.tape.trans h.tape, k.output.trans h.output, Nat.le_trans h.size k.size, fun i hi hn => (k.block i (Nat.lt_of_lt_of_le hi h.size) (fun e => by rcases hs i e with q | q; exact hn q; omega)).trans (h.block i hi hn)⟩
/-- The first one has gone. -/
theorem TR.gone {W W6 : World} {base b room last g n n' cap : Nat} {C : Value} {L L6 : List EvL} {ch : List UInt8} (h : TR W base b room (.slice (some ⟨g, 0, none⟩) n cap) C L last ch) (hO : OwnV tEv W6 base (.slice (some ⟨g, 0, none⟩) n' cap) L6) (hg : W.grownBy W6 (some g)) (hl : L6.length ≤ 1000) :
    TR (W6.setCell ⟨b, 1, none⟩ (.slice (some ⟨g, 0, none⟩) n' cap)) base b room (.slice (some ⟨g, 0, none⟩) n' cap) C L6 last ch ∧ Trs (trS b (.slice (some ⟨g, 0, none⟩) n cap) C) W (W6.setCell ⟨b, 1, none⟩ (.slice (some ⟨g, 0, none⟩) n' cap)) := by
  have hgb : g ≠ b := fun e => h.apb.1 (by rw [e]; rfl)
  have hgc : C.ownBlock ≠ some g := h.apv g rfl
  have ht1 : Trs (trS b (.slice (some ⟨g, 0, none⟩) n cap) C) W W6 := (Trs.refl _ W).grown hg (fun k hk => mem_trS.2 (.inr (.inl (by rw [← hk]; rfl))))
  have ht2 := ht1.set (p := ⟨b, 1, none⟩) (mem_trS.2 (.inl rfl)) (.slice (some ⟨g, 0, none⟩) n' cap)
  refine ⟨h.turn ((h.blk.grown hg (fun e => hgb (Option.some.inj e).symm)).set 1 _) (World.ownsRow.kept hO (grown_set W6 ⟨b, 1, none⟩ _) (.inr (fun e => hgb (Option.some.inj e)))) ((h.chn.kept hg (.inr hgc)).kept (grown_set W6 ⟨b, 1, none⟩ _) (.inr h.apb.2)) ⟨⟨(fun e => hgb (Option.some.inj e)), h.apb.2⟩, fun k hk => by cases hk; exact hgc⟩ hl h.lst h.c32 ht2, ht2⟩
/-- The number and the chain. -/
theorem TR.fin {W : World} {base b room last N B : Nat} {V C C2 : Value} {L : List EvL} {ch ch2 : List UInt8} (h : TR W base b room V C L last ch) (hO : OwnB W B C2 ch2) (hB : base ≤ B) (hb : b < B) (hV : ∀ k, V.ownBlock = some k → C2.ownBlock ≠ some k) (hN : N ≤ 1000000) (h32 : ch2.length = 32) :
    TR ((W.setCell ⟨b, 2, none⟩ (.int .u64 (N : Int))).setCell ⟨b, 3, none⟩ C2) base b room V C2 L N ch2 ∧ Trs (trS b V C) W ((W.setCell ⟨b, 2, none⟩ (.int .u64 (N : Int))).setCell ⟨b, 3, none⟩ C2) := by
  have hcb : C2.ownBlock ≠ some b := fun e => by have := (hO.lt b e).1; omega
  have ht := ((Trs.refl (trS b V C) W).set (p := ⟨b, 2, none⟩) (mem_trS.2 (.inl rfl)) (.int .u64 (N : Int))).set (p := ⟨b, 3, none⟩) (mem_trS.2 (.inl rfl)) C2
  refine ⟨h.turn ((h.blk.set 2 (.int .u64 (N : Int))).set 3 C2) (World.ownsRow.kept (World.ownsRow.kept h.own (grown_set W ⟨b, 2, none⟩ _) (.inr h.apb.1)) (grown_set _ ⟨b, 3, none⟩ _) (.inr h.apb.1)) (((hO.kept (grown_set W ⟨b, 2, none⟩ _) (.inr hcb)).kept (grown_set _ ⟨b, 3, none⟩ _) (.inr hcb)).lower hB) ⟨⟨h.apb.1, hcb⟩, hV⟩ h.len hN h32 ht, ht⟩
theorem wpOp_storeV {P : Program} {ops : Array Oper} {Q : Exit → Act → World → Prop} {K : Act → World → Prop} {a : Act} {w : World} {i : Nat} {o : Oper} {w' : World} (hi : ops[i]? = some o) (hd : o.dst = none) (hw : Region.wanted o (yielded ops a.tmps) = true)
    (hr : (execOp a.eval o).run P w = .ok .skip w') (h : K a w') : wpOp P ops Q i K a w :=
  wpOp_of_wp hi hw (by unfold Oper.wp; rw [hr]; show K (a.put o.dst undef) w'; rw [hd]; exact h)
set_option maxHeartbeats 4000000 in
theorem add_ok {w : World} {base b room last : Nat} {V C : Value} {L : List EvL} {ch : List UInt8} (h : TR w base b room V C L last ch) (hl : L.length ≤ room) (tick : Nat) (kd : List UInt8) (cn : Int) (tx : List UInt8) (ho : EvL.Ok ⟨last + 1, tick, kd, cn, tx⟩) (hlast : last < 1000000) :
    Calls Tryz.prog 11 #[.pointer (some ⟨b, 0, none⟩), .int .u64 tick, str kd, .int .i64 cn, str tx] w fun x w' => x = .returned (.tuple #[.int .u64 ((last + 1 : Nat) : Int), .int .i64 0]) ∧
      ∃ V' C', TR w' base b room V' C' (keepL room (L ++ [⟨last + 1, tick, kd, cn, tx⟩])) (last + 1) (sumL (ch ++ evLine ⟨last + 1, tick, kd, cn, tx⟩)) ∧ Trs (trS b V C) w w' ∧ (∀ k ∈ trS b V' C', k ∈ trS b V C ∨ w.heap.size ≤ k) := by
  obtain ⟨e, he⟩ : ∃ e : EvL, e = ⟨last + 1, tick, kd, cn, tx⟩ := ⟨_, rfl⟩
  have HCH := Lib.hid (fun v W h1 h2 h3 => chain_ok v ch e (by rw [he]; exact ho) W h1 (by rw [h.c32]; omega) h2 h3)
  rw [← he] at ho ⊢
  obtain ⟨N, hN⟩ : ∃ N : Nat, N = last + 1 := ⟨_, rfl⟩
  have hwr : IntKind.u64.wrap ((last : Int) + 1) = (N : Int) := by rw [hN]; rw [IntWalk.u64_in _ (by omega)]; omega
  obtain ⟨W, hW⟩ : ∃ W, W = w.alloc (.cells #[.int .u64 (N : Int), .int .u64 tick, str kd, .int .i64 cn, str tx] 29) := ⟨_, rfl⟩
  have hec : e.cells = [.int .u64 (N : Int), .int .u64 tick, str kd, .int .i64 cn, str tx] := by rw [he, hN]; rfl
  have hea : evA e = .agg #[.int .u64 (N : Int), .int .u64 tick, str kd, .int .i64 cn, str tx] := by rw [he, hN]; rfl
  have k2 : w.cell? ⟨b, 2, none⟩ = some (.int .u64 (last : Int)) := h.blk.at (o := 2) rfl
  have hbW : Below w.heap.size w W := by rw [hW]; exact (Below.refl _ w).alloc (Nat.le_refl _) _
  have hkW : Blk W w.heap.size e.cells := by rw [hW, hec]; exact Blk.new w _ _
  have HW := h.below hbW
  have k3 : W.cell? ⟨b, 3, none⟩ = some C := HW.blk.at (o := 3) rfl
  have hk5 := hkW
  rw [hec] at hk5
  have e0 : W.cell? ⟨w.heap.size, 0, none⟩ = some (.int .u64 (N : Int)) := hk5.at (o := 0) rfl
  have e1 : W.cell? ⟨w.heap.size, 1, none⟩ = some (.int .u64 tick) := hk5.at (o := 1) rfl
  have e2 : W.cell? ⟨w.heap.size, 2, none⟩ = some (str kd) := hk5.at (o := 2) rfl
  have e3 : W.cell? ⟨w.heap.size, 3, none⟩ = some (.int .i64 cn) := hk5.at (o := 3) rfl
  have e4 : W.cell? ⟨w.heap.size, 4, none⟩ = some (str tx) := hk5.at (o := 4) rfl
  have hbw : b < w.heap.size := h.blk.lt
  clear hk5
  have HK := Lib.hid hkW
  have HTR := Lib.hid h
  have HTW := Lib.hid HW
  have HBW := Lib.hid hbW
  have HEC := Lib.hid hec
  have HEA := Lib.hid hea
  have HN := Lib.hid hN
  have HL := Lib.hid hl
  clear hec hea h HW hbW hkW hN ho hl
  have HE0 := Lib.hid he
  clear he
  go_enter Tryz.func11, Tryz.ntmps11
  go_wp2_with fail
  rw [← hW]
  clear hW k2
  refine wp_region_noPanic ?_
  refine wp_region_held (S := fun W' => W'.cell? ⟨b, 3, none⟩ = some C ∧ W'.cell? ⟨w.heap.size, 0, none⟩ = some (.int .u64 (N : Int)) ∧ W'.cell? ⟨w.heap.size, 1, none⟩ = some (.int .u64 tick) ∧ W'.cell? ⟨w.heap.size, 2, none⟩ = some (str kd) ∧ W'.cell? ⟨w.heap.size, 3, none⟩ = some (.int .i64 cn) ∧ W'.cell? ⟨w.heap.size, 4, none⟩ = some (str tx)) (by kernel_rfl) ?_
  change wpAnyH _ _ _ _ _ _ _ _ (World.drew _)
  have HX := Lib.hid (show (World.drew W).cell? ⟨b, 3, none⟩ = some C ∧ W.drew.cell? ⟨w.heap.size, 0, none⟩ = some (.int .u64 (N : Int)) ∧ W.drew.cell? ⟨w.heap.size, 1, none⟩ = some (.int .u64 tick) ∧ W.drew.cell? ⟨w.heap.size, 2, none⟩ = some (str kd) ∧ W.drew.cell? ⟨w.heap.size, 3, none⟩ = some (.int .i64 cn) ∧ W.drew.cell? ⟨w.heap.size, 4, none⟩ = some (str tx) from ⟨k3, e0, e1, e2, e3, e4⟩)
  have HTD := Lib.hid (HTW.out.below ((Below.refl _ W).drew))
  obtain ⟨W1, hW1⟩ : ∃ W1, W1 = World.drew W := ⟨_, rfl⟩
  have HB1 := Lib.hid (show Below w.heap.size w W1 from by rw [hW1]; exact HBW.out.drew)
  have HK1 := Lib.hid (show Blk W1 w.heap.size e.cells from by rw [hW1]; exact HK.out.drew)
  rw [← hW1] at HX HTD ⊢
  clear hW1 k3 e0 e1 e2 e3 e4
  refine takeH 0 28 (.pointer (some ⟨b, 0, none⟩)) rfl rfl (by kernel_rfl) (by kernel_rfl) (by kernel_rfl) (fun _ _ _ h => h) rfl (fun w' h => by obtain ⟨h0, h1, h2, h3, h4, h5⟩ := h; go_simp) HX.out ?_
  go_frame
  refine takeH 1 29 (.pointer (some ⟨b, 0, none⟩)) rfl rfl (by kernel_rfl) (by kernel_rfl) (by kernel_rfl) (fun _ _ _ h => h) rfl (fun w' h => by obtain ⟨h0, h1, h2, h3, h4, h5⟩ := h; go_simp) HX.out ?_
  go_frame
  refine takeH 2 30 (.pointer (some ⟨b, 3, none⟩)) rfl rfl (by kernel_rfl) (by kernel_rfl) (by kernel_rfl) (fun _ _ _ h => h) rfl (fun w' h => by obtain ⟨h0, h1, h2, h3, h4, h5⟩ := h; go_simp) HX.out ?_
  go_frame
  refine takeH 3 31 (C) rfl rfl (by kernel_rfl) (by kernel_rfl) (by kernel_rfl) (fun _ _ _ h => h) rfl (fun w' h => by obtain ⟨h0, h1, h2, h3, h4, h5⟩ := h; go_simp) HX.out ?_
  go_frame
  refine takeH 4 32 (.agg #[.int .u64 (N : Int), .int .u64 tick, str kd, .int .i64 cn, str tx]) rfl rfl (by kernel_rfl) (by kernel_rfl) (by kernel_rfl) (fun _ _ _ h => h) rfl (fun w' h => by obtain ⟨h0, h1, h2, h3, h4, h5⟩ := h; go_simp) HX.out ?_
  go_frame
  refine wpAnyH_all (rs := [5]) (by kernel_rfl) (by simp) ?_
  simp only [List.mem_singleton, forall_eq]
  refine wpOp_callD 33 rfl rfl rfl 29 #[C, .agg #[.int .u64 (N : Int), .int .u64 tick, str kd, .int .i64 cn, str tx]] (by go_simp) ?_
  rw [← HEA.out]
  refine (HCH.out C W1 HTD.out.chn.sl HTD.out.tab HTD.out.pow).mono ?_
  rintro x W2 ⟨CQ, rfl, hO2, hB2⟩
  obtain ⟨CA, CC, eCQ, -, -, -, -⟩ := hO2.sl
  rw [sumL_length] at eCQ
  subst eCQ
  have HB2 := Lib.hid (HB1.out.trans (hB2.mono HB1.out.size))
  have HK2 := Lib.hid (HK1.out.below hB2 HK1.out.lt)
  have HT2 := Lib.hid (HTD.out.below hB2)
  have HO2 := Lib.hid hO2
  have hz1 := HB1.out.size
  have hz2 := hB2.size
  clear hB2 hO2 HTD HX HCH
  have HX := Lib.hid (show W2.cell? ⟨b, 3, none⟩ = some C ∧ W2.cell? ⟨w.heap.size, 0, none⟩ = some (.int .u64 (N : Int)) ∧ W2.cell? ⟨w.heap.size, 1, none⟩ = some (.int .u64 tick) ∧ W2.cell? ⟨w.heap.size, 2, none⟩ = some (str kd) ∧ W2.cell? ⟨w.heap.size, 3, none⟩ = some (.int .i64 cn) ∧ W2.cell? ⟨w.heap.size, 4, none⟩ = some (str tx) from by
    have hk := HK2.out
    rw [HEC.out] at hk
    exact ⟨HT2.out.blk.at (o := 3) rfl, hk.at (o := 0) rfl, hk.at (o := 1) rfl, hk.at (o := 2) rfl, hk.at (o := 3) rfl, hk.at (o := 4) rfl⟩)
  refine ⟨_, rfl, HX.out, ?_⟩
  go_frame
  refine takeH 6 27 (.tuple #[(Value.slice CA 32 CC), .int .i64 0]) rfl rfl (by kernel_rfl) (by kernel_rfl) (by kernel_rfl) (fun _ _ _ h => h) rfl (fun w' h => by obtain ⟨h0, h1, h2, h3, h4, h5⟩ := h; go_simp) HX.out ?_
  go_frame
  refine takeH 7 34 ((Value.slice CA 32 CC)) rfl rfl (by kernel_rfl) (by kernel_rfl) (by kernel_rfl) (fun _ _ _ h => h) rfl (fun w' h => by obtain ⟨h0, h1, h2, h3, h4, h5⟩ := h; go_simp) HX.out ?_
  go_frame
  refine takeH 8 35 (.int .i64 0) rfl rfl (by kernel_rfl) (by kernel_rfl) (by kernel_rfl) (fun _ _ _ h => h) rfl (fun w' h => by obtain ⟨h0, h1, h2, h3, h4, h5⟩ := h; go_simp) HX.out ?_
  go_frame
  refine takeH 9 13 ((Value.slice CA 32 CC)) rfl rfl (by kernel_rfl) (by kernel_rfl) (by kernel_rfl) (fun _ _ _ h => h) rfl (fun w' h => by obtain ⟨h0, h1, h2, h3, h4, h5⟩ := h; go_simp) HX.out ?_
  go_frame
  refine takeH 10 14 (.int .i64 0) rfl rfl (by kernel_rfl) (by kernel_rfl) (by kernel_rfl) (fun _ _ _ h => h) rfl (fun w' h => by obtain ⟨h0, h1, h2, h3, h4, h5⟩ := h; go_simp) HX.out ?_
  go_frame
  refine wpAnyH_done (by kernel_rfl) ?_ _
  refine NoPanic.normal ?_
  go_wp2_with fail
  obtain ⟨W3, hW3⟩ : ∃ W3, W3 = World.drew W2 := ⟨_, rfl⟩
  have HB3 := Lib.hid (show Below w.heap.size w W3 from by rw [hW3]; exact HB2.out.drew)
  have HK3 := Lib.hid (show Blk W3 w.heap.size e.cells from by rw [hW3]; exact HK2.out.drew)
  have HT3 := Lib.hid (show TR W3 base b room V C L last ch from by rw [hW3]; exact HT2.out.below ((Below.refl _ W2).drew))
  have HO3 := Lib.hid (show OwnB W3 W1.heap.size (Value.slice CA 32 CC) (sumL (ch ++ evLine e)) from by rw [hW3]; exact HO2.out.below ((Below.refl _ W2).drew))
  have hz3 : W3.heap.size = W2.heap.size := by rw [hW3]; rfl
  have HSX := Lib.hid (fun (W' : World) (hk : Blk W' w.heap.size e.cells) => show W'.cell? ⟨w.heap.size, 0, none⟩ = some (.int .u64 (N : Int)) ∧ W'.cell? ⟨w.heap.size, 1, none⟩ = some (.int .u64 tick) ∧ W'.cell? ⟨w.heap.size, 2, none⟩ = some (str kd) ∧ W'.cell? ⟨w.heap.size, 3, none⟩ = some (.int .i64 cn) ∧ W'.cell? ⟨w.heap.size, 4, none⟩ = some (str tx) from by
    rw [HEC.out] at hk
    exact ⟨hk.at (o := 0) rfl, hk.at (o := 1) rfl, hk.at (o := 2) rfl, hk.at (o := 3) rfl, hk.at (o := 4) rfl⟩)
  have HCN := Lib.hid (show (Value.slice CA 32 CC).ownBlock = none ∨ (Value.slice CA 32 CC).ownBlock ≠ V.ownBlock from by
    cases hc : (Value.slice CA 32 CC).ownBlock with
    | none => exact .inl rfl
    | some k => exact .inr (fun q => by have := (HO3.out.lt k hc).1; have := (HTR.out.own.lt k q.symm).2; omega))
  have HVb := Lib.hid (show V.ownBlock ≠ some w.heap.size from fun q => by have := (HTR.out.own.lt _ q).2; omega)
  refine wp_region_noPanic ?_
  refine wp_region_held (S := fun W' => W'.cell? ⟨w.heap.size, 0, none⟩ = some (.int .u64 (N : Int)) ∧ W'.cell? ⟨w.heap.size, 1, none⟩ = some (.int .u64 tick) ∧ W'.cell? ⟨w.heap.size, 2, none⟩ = some (str kd) ∧ W'.cell? ⟨w.heap.size, 3, none⟩ = some (.int .i64 cn) ∧ W'.cell? ⟨w.heap.size, 4, none⟩ = some (str tx)) (by kernel_rfl) ?_
  change wpAnyH _ _ _ _ _ _ _ _ (World.drew _)
  rw [← hW3]
  clear hW3 HX HB2 HK2 HT2 HO2
  have HX := Lib.hid (HSX.out W3 HK3.out)
  refine takeH 0 39 (.pointer (some ⟨b, 0, none⟩)) rfl rfl (by kernel_rfl) (by kernel_rfl) (by kernel_rfl) (fun _ _ _ h => h) rfl (fun w' h => by obtain ⟨h0, h1, h2, h3, h4⟩ := h; go_simp) HX.out ?_
  go_frame
  refine takeH 1 40 (.pointer (some ⟨b, 0, none⟩)) rfl rfl (by kernel_rfl) (by kernel_rfl) (by kernel_rfl) (fun _ _ _ h => h) rfl (fun w' h => by obtain ⟨h0, h1, h2, h3, h4⟩ := h; go_simp) HX.out ?_
  go_frame
  refine takeH 2 41 (.pointer (some ⟨b, 0, none⟩)) rfl rfl (by kernel_rfl) (by kernel_rfl) (by kernel_rfl) (fun _ _ _ h => h) rfl (fun w' h => by obtain ⟨h0, h1, h2, h3, h4⟩ := h; go_simp) HX.out ?_
  go_frame
  refine takeH 3 42 (.pointer (some ⟨b, 1, none⟩)) rfl rfl (by kernel_rfl) (by kernel_rfl) (by kernel_rfl) (fun _ _ _ h => h) rfl (fun w' h => by obtain ⟨h0, h1, h2, h3, h4⟩ := h; go_simp) HX.out ?_
  go_frame
  refine takeH 5 44 (.agg #[.int .u64 (N : Int), .int .u64 tick, str kd, .int .i64 cn, str tx]) rfl rfl (by kernel_rfl) (by kernel_rfl) (by kernel_rfl) (fun _ _ _ h => h) rfl (fun w' h => by obtain ⟨h0, h1, h2, h3, h4⟩ := h; go_simp) HX.out ?_
  go_frame
  refine wpAnyH_all (rs := [4, 6]) (by kernel_rfl) (by simp) ?_
  simp only [List.mem_cons, List.not_mem_nil, or_false, forall_eq_or_imp, forall_eq]
  refine ⟨?_, ?_⟩
  have k1 : W3.cell? ⟨b, 1, none⟩ = some V := HT3.out.blk.at (o := 1) rfl
  refine wpOp_valueD 43 rfl rfl rfl V (by go_simp) ?_
  clear k1
  refine ⟨HSX.out _ HK3.out, ?_⟩
  go_frame
  refine wpAnyH_all (rs := [6]) (by kernel_rfl) (by simp) ?_
  simp only [List.mem_singleton, forall_eq]
  obtain ⟨W4, hW4⟩ : ∃ V, V = W3.alloc (.cells #[.int .u64 (N : Int), .int .u64 tick, str kd, .int .i64 cn, str tx] tEv) := ⟨_, rfl⟩
  have HB4 := Lib.hid (show Below W3.heap.size W3 W4 from by rw [hW4]; exact (Below.refl _ _).alloc (Nat.le_refl _) _)
  have HT4 := Lib.hid (HT3.out.below HB4.out)
  have HK4 := Lib.hid (show Blk W4 w.heap.size e.cells from HK3.out.below HB4.out HK3.out.lt)
  have HN4 := Lib.hid (show W4.heap[W3.heap.size]? = some (.cells e.cells.toArray tEv (0, 0)) from by rw [hW4, HEC.out]; exact heap_alloc_new W3 _)
  refine wpOp_valueX 45 rfl rfl rfl (.slice (some ⟨W3.heap.size, 0, none⟩) 1 1) W4 (by rw [hW4]; go_simp) ⟨HSX.out _ HK4.out, ?_⟩
  go_frame
  clear hW4
  refine wpAnyH_all (rs := [7]) (by kernel_rfl) (by simp) ?_
  simp only [List.mem_singleton, forall_eq]
  refine wpOp_appEv evT 46 rfl rfl rfl (.tmp 43) (.tmp 45) rfl base V L rfl HT4.out.own W3.heap.size e rfl HN4.out (by have := HT4.out.len; omega) HT4.out.size ?_
  intro g cap w4 hO hg ho
  have HP := Lib.hid (HT3.out.push e (by have := HL.out; have := HT3.out.r2; omega) HB4.out hO hg (by rcases ho with q | q; exact .inl q.symm; exact .inr (by rw [q]; rfl)))
  have k4 : Blk w4 w.heap.size e.cells := HK4.out.grown hg (fun q => HVb.out q.symm)
  have HK5 := Lib.hid k4
  have c5 : w4.cell? ⟨b, 1, none⟩ = some V := (HT4.out.blk.grown hg (fun q => HT4.out.apb.1 q.symm)).at (o := 1) rfl
  have f5 : w4.frozen? ⟨b, 1, none⟩ = false := (HT4.out.blk.grown hg (fun q => HT4.out.apb.1 q.symm)).free _
  have HO5 := Lib.hid (show OwnB w4 W1.heap.size (Value.slice CA 32 CC) _ from (HO3.out.below HB4.out).kept hg HCN.out)
  clear hO hg ho k4 HX
  have HX := Lib.hid (HSX.out _ HK5.out)
  refine ⟨HX.out, ?_⟩
  go_frame
  refine takeH 8 47 (.pointer (some ⟨b, 0, none⟩)) rfl rfl (by kernel_rfl) (by kernel_rfl) (by kernel_rfl) (fun _ _ _ h => h) rfl (fun w' h => by obtain ⟨h0, h1, h2, h3, h4⟩ := h; go_simp) HX.out ?_
  go_frame
  refine takeH 9 48 (.pointer (some ⟨b, 1, none⟩)) rfl rfl (by kernel_rfl) (by kernel_rfl) (by kernel_rfl) (fun _ _ _ h => h) rfl (fun w' h => by obtain ⟨h0, h1, h2, h3, h4⟩ := h; go_simp) HX.out ?_
  go_frame
  refine wpAnyH_all (rs := [10]) (by kernel_rfl) (by simp) ?_
  simp only [List.mem_singleton, forall_eq]
  refine wpOp_storeV rfl rfl rfl (w' := w4.setCell ⟨b, 1, none⟩ (.slice (some ⟨g, 0, none⟩) (L.length + 1) cap)) (by go_simp) ?_
  refine ⟨HSX.out _ (HK5.out.setOther (by show b ≠ w.heap.size; omega) _), ?_⟩
  refine wpAnyH_done (by kernel_rfl) ?_ _
  refine NoPanic.normal ?_
  rotate_left
  obtain ⟨W4, hW4⟩ : ∃ V, V = W3.alloc (.cells #[.int .u64 (N : Int), .int .u64 tick, str kd, .int .i64 cn, str tx] tEv) := ⟨_, rfl⟩
  have HB4 := Lib.hid (show Below W3.heap.size W3 W4 from by rw [hW4]; exact (Below.refl _ _).alloc (Nat.le_refl _) _)
  have HT4 := Lib.hid (HT3.out.below HB4.out)
  have HK4 := Lib.hid (show Blk W4 w.heap.size e.cells from HK3.out.below HB4.out HK3.out.lt)
  have HN4 := Lib.hid (show W4.heap[W3.heap.size]? = some (.cells e.cells.toArray tEv (0, 0)) from by rw [hW4, HEC.out]; exact heap_alloc_new W3 _)
  refine wpOp_valueX 45 rfl rfl rfl (.slice (some ⟨W3.heap.size, 0, none⟩) 1 1) W4 (by rw [hW4]; go_simp) ⟨HSX.out _ HK4.out, ?_⟩
  go_frame
  clear hW4
  refine wpAnyH_all (rs := [4]) (by kernel_rfl) (by simp) ?_
  simp only [List.mem_singleton, forall_eq]
  have k1 : W4.cell? ⟨b, 1, none⟩ = some V := HT4.out.blk.at (o := 1) rfl
  refine wpOp_valueD 43 rfl rfl rfl V (by go_simp) ?_
  clear k1
  refine ⟨HSX.out _ HK4.out, ?_⟩
  go_frame
  refine wpAnyH_all (rs := [7]) (by kernel_rfl) (by simp) ?_
  simp only [List.mem_singleton, forall_eq]
  refine wpOp_appEv evT 46 rfl rfl rfl (.tmp 43) (.tmp 45) rfl base V L rfl HT4.out.own W3.heap.size e rfl HN4.out (by have := HT4.out.len; omega) HT4.out.size ?_
  intro g cap w4 hO hg ho
  have HP := Lib.hid (HT3.out.push e (by have := HL.out; have := HT3.out.r2; omega) HB4.out hO hg (by rcases ho with q | q; exact .inl q.symm; exact .inr (by rw [q]; rfl)))
  have k4 : Blk w4 w.heap.size e.cells := HK4.out.grown hg (fun q => HVb.out q.symm)
  have HK5 := Lib.hid k4
  have c5 : w4.cell? ⟨b, 1, none⟩ = some V := (HT4.out.blk.grown hg (fun q => HT4.out.apb.1 q.symm)).at (o := 1) rfl
  have f5 : w4.frozen? ⟨b, 1, none⟩ = false := (HT4.out.blk.grown hg (fun q => HT4.out.apb.1 q.symm)).free _
  have HO5 := Lib.hid (show OwnB w4 W1.heap.size (Value.slice CA 32 CC) _ from (HO3.out.below HB4.out).kept hg HCN.out)
  clear hO hg ho k4 HX
  have HX := Lib.hid (HSX.out _ HK5.out)
  refine ⟨HX.out, ?_⟩
  go_frame
  refine takeH 8 47 (.pointer (some ⟨b, 0, none⟩)) rfl rfl (by kernel_rfl) (by kernel_rfl) (by kernel_rfl) (fun _ _ _ h => h) rfl (fun w' h => by obtain ⟨h0, h1, h2, h3, h4⟩ := h; go_simp) HX.out ?_
  go_frame
  refine takeH 9 48 (.pointer (some ⟨b, 1, none⟩)) rfl rfl (by kernel_rfl) (by kernel_rfl) (by kernel_rfl) (fun _ _ _ h => h) rfl (fun w' h => by obtain ⟨h0, h1, h2, h3, h4⟩ := h; go_simp) HX.out ?_
  go_frame
  refine wpAnyH_all (rs := [10]) (by kernel_rfl) (by simp) ?_
  simp only [List.mem_singleton, forall_eq]
  refine wpOp_storeV rfl rfl rfl (w' := w4.setCell ⟨b, 1, none⟩ (.slice (some ⟨g, 0, none⟩) (L.length + 1) cap)) (by go_simp) ?_
  refine ⟨HSX.out _ (HK5.out.setOther (by show b ≠ w.heap.size; omega) _), ?_⟩
  refine wpAnyH_done (by kernel_rfl) ?_ _
  refine NoPanic.normal ?_
  all_goals
    have hbW1 : b < W1.heap.size := by omega
    have HO6 := Lib.hid (HO5.out.kept (grown_set w4 ⟨b, 1, none⟩ (.slice (some ⟨g, 0, none⟩) (L.length + 1) cap)) (.inr (fun q => by have := (HO5.out.lt b q).1; omega)))
    have HK6 := Lib.hid (HK5.out.setOther (a := ⟨b, 1, none⟩) (by show b ≠ w.heap.size; omega) (.slice (some ⟨g, 0, none⟩) (L.length + 1) cap))
    obtain ⟨W5, hW5⟩ : ∃ W5, W5 = w4.setCell ⟨b, 1, none⟩ (.slice (some ⟨g, 0, none⟩) (L.length + 1) cap) := ⟨_, rfl⟩
    rw [← hW5] at HO6 HK6 HP ⊢
    have hw3 : w.heap.size < W3.heap.size := HK3.out.lt
    clear hW5 HX HO5 HK5 c5 f5 HN4 HK4 HT4 HB4 HT3 HK3
    have k1 : W5.cell? ⟨b, 1, none⟩ = some (.slice (some ⟨g, 0, none⟩) (L.length + 1) cap) := HP.out.1.blk.at (o := 1) rfl
    have k0 : W5.cell? ⟨b, 0, none⟩ = some (.int .i64 (room : Int)) := HP.out.1.blk.at (o := 0) rfl
    have hgap : ∀ k, (Value.slice (some ⟨g, 0, none⟩) (L.length + 1) cap).ownBlock = some k → (Value.slice CA 32 CC).ownBlock ≠ some k := fun k hk hc => by
      have h1 := (HO6.out.lt k hc).1
      rcases HP.out.2.2 with q | q
      · rw [q] at hk; have := (HTR.out.own.lt k hk).2; omega
      · have := q k hk
        have := (HO3.out.lt k hc).2
        omega
    have hsub : ∀ k ∈ trS b (Value.slice (some ⟨g, 0, none⟩) (L.length + 1) cap) C, k ∈ trS b V C ∨ w.heap.size ≤ k := fun k hk => by
      rcases mem_trS.1 hk with rfl | q | q
      · exact .inl (mem_trS.2 (.inl rfl))
      · rcases HP.out.2.2 with q2 | q2
        · exact .inl (mem_trS.2 (.inr (.inl (by rw [← q2]; exact q))))
        · exact .inr (by have := q2 k q; omega)
      · exact .inl (mem_trS.2 (.inr (.inr q)))
    have hsub2 : ∀ (n2 : Nat), ∀ k ∈ trS b (Value.slice (some ⟨g, 0, none⟩) n2 cap) (Value.slice CA 32 CC), k ∈ trS b V C ∨ w.heap.size ≤ k := fun n2 k hk => by
      rcases mem_trS.1 hk with rfl | q | q
      · exact .inl (mem_trS.2 (.inl rfl))
      · exact hsub k (mem_trS.2 (.inr (.inl q)))
      · exact .inr (by have := (HO6.out.lt k q).1; omega)
    have HSUB := Lib.hid hsub
    have HSUB2 := Lib.hid hsub2
    have HGAP := Lib.hid hgap
    have HTW5 := Lib.hid ((Trs.of_below HB3.out : Trs (trS b V C) w W3).trans HP.out.2.1)
    have HNL := Lib.hid (show N ≤ 1000000 by have := HN.out; omega)
    have f1 : W5.frozen? ⟨b, 1, none⟩ = false := HP.out.1.blk.free _
    have f2 : W5.frozen? ⟨b, 2, none⟩ = false := HP.out.1.blk.free _
    have f3 : W5.frozen? ⟨b, 3, none⟩ = false := HP.out.1.blk.free _
    have k2 : W5.cell? ⟨b, 2, none⟩ = some (.int .u64 (last : Int)) := HP.out.1.blk.at (o := 2) rfl
    have k3 : W5.cell? ⟨b, 3, none⟩ = some C := HP.out.1.blk.at (o := 3) rfl
    have HE6 : W5.cell? ⟨w.heap.size, 0, none⟩ = some (.int .u64 (N : Int)) := by have := HK6.out; rw [HEC.out] at this; exact this.at (o := 0) rfl
    clear hsub hsub2 hgap
    go_wp2_with fail
    by_cases hf : L.length = room
    · have d1 : decide ((room : Int) < ((L.length : Int) + 1)) = true := decide_eq_true (by omega)
      have d2 : decide ((room : Int) < ((L.length + 1 : Nat) : Int)) = true := decide_eq_true (by omega)
      have HF := Lib.hid hf
      clear hf
      go_quiet (fail)
      have hbd : Below W5.heap.size W5 (W5.drewN nq) := below_drewN (Below.refl _ _) nq
      have h6 := HP.out.1.below hbd
      obtain ⟨X, hX⟩ : ∃ X, X = L ++ [e] := ⟨_, rfl⟩
      have hXl : X.length = L.length + 1 := by rw [hX]; simp
      rw [← hX] at h6 HP
      have hgb : g ≠ b := fun q => h6.apb.1 (by rw [q]; rfl)
      have hgw : w.heap.size ≠ g := by
        rcases HP.out.2.2 with q | q
        · have := (HTR.out.own.lt g q.symm).2; omega
        · have := q g rfl; omega
      have hdel := delete_ev base g cap X 0 1 rfl (W5.drewN nq) (by rw [hXl]; exact h6.own) (by omega) (by have := h6.len; omega)
      rw [hXl] at hdel
      have HDEL := Lib.hid (show Calls Tryz.prog 30 #[.slice (some ⟨g, 0, none⟩) (L.length + 1) cap, .int .i64 0, .int .i64 1] (W5.drewN nq) _ from hdel)
      have H6 := Lib.hid h6
      have HXL := Lib.hid hXl
      have HX0 := Lib.hid hX
      clear hdel h6 hXl hX hbd
      go_wp2_with fail
      refine HDEL.out.mono ?_
      rintro x W6 ⟨rfl, hO7, hg7⟩
      rw [Nat.add_sub_cancel, List.take_zero, List.nil_append] at hO7
      rw [Nat.add_sub_cancel]
      have hB7 : Blk W6 b (trCs room (.slice (some ⟨g, 0, none⟩) (L.length + 1) cap) C last) := H6.out.blk.grown hg7 (fun q => hgb (Option.some.inj q).symm)
      have g1 : W6.cell? ⟨b, 1, none⟩ = some (.slice (some ⟨g, 0, none⟩) (L.length + 1) cap) := hB7.at (o := 1) rfl
      have g2 : W6.cell? ⟨b, 2, none⟩ = some (.int .u64 (last : Int)) := hB7.at (o := 2) rfl
      have g3 : W6.cell? ⟨b, 3, none⟩ = some C := hB7.at (o := 3) rfl
      have p1 : W6.frozen? ⟨b, 1, none⟩ = false := hB7.free _
      have p2 : W6.frozen? ⟨b, 2, none⟩ = false := hB7.free _
      have p3 : W6.frozen? ⟨b, 3, none⟩ = false := hB7.free _
      have hK7 : Blk W6 w.heap.size e.cells := (HK6.out.drewN nq).grown hg7 (fun q => hgw (Option.some.inj q))
      have g4 : W6.cell? ⟨w.heap.size, 0, none⟩ = some (.int .u64 (N : Int)) := by rw [HEC.out] at hK7; exact hK7.at (o := 0) rfl
      have HO7 := Lib.hid hO7
      have HG7 := Lib.hid hg7
      clear hO7 hg7 hK7 hB7 HDEL
      go_wp2_with fail
      go_ret2
      obtain ⟨q1, q2⟩ := H6.out.gone HO7.out HG7.out (by rw [List.length_drop]; have := H6.out.len; omega)
      obtain ⟨r1, r2⟩ := q1.fin (N := N) (((HO6.out.below (below_drewN (Below.refl _ _) nq)).kept HG7.out (.inr (HGAP.out g rfl))).kept (grown_set W6 ⟨b, 1, none⟩ _) (.inr (fun q => by have := (HO6.out.lt b q).1; omega))) (by have := HTR.out.size; omega) hbW1 (fun k hk => by cases hk; exact HGAP.out g rfl) HNL.out (sumL_length _)
      have hkp : keepL room X = X.drop 1 := by unfold keepL; rw [if_pos (by rw [HXL.out, HF.out]; omega)]
      refine ⟨by rw [← HN.out]; rfl, _, _, by rw [← HX0.out, hkp, ← HN.out]; exact r1, ((HTW5.out.trans (Trs.of_below (below_drewN (Below.refl _ _) nq))).next q2 HSUB.out).next r2 ?_, HSUB2.out _⟩
      intro k hk
      rcases mem_trS.1 hk with q | q | q
      · exact .inl (mem_trS.2 (.inl q))
      · exact HSUB.out k (mem_trS.2 (.inr (.inl q)))
      · exact HSUB.out k (mem_trS.2 (.inr (.inr q)))
    · have d1 : decide ((room : Int) < ((L.length : Int) + 1)) = false := decide_eq_false (by have := HL.out; omega)
      have d2 : decide ((room : Int) < ((L.length + 1 : Nat) : Int)) = false := decide_eq_false (by have := HL.out; omega)
      have HF := Lib.hid hf
      clear hf
      go_quiet (fail)
      go_wp2_with fail
      go_ret2
      have h6 := HP.out.1.below (below_drewN (Below.refl _ W5) nq)
      obtain ⟨r1, r2⟩ := h6.fin (N := N) (HO6.out.below (below_drewN (Below.refl _ _) nq)) (by have := HTR.out.size; omega) hbW1 HGAP.out HNL.out (sumL_length _)
      have hkp : keepL room (L ++ [e]) = L ++ [e] := by unfold keepL; rw [if_neg (by rw [List.length_append, List.length_singleton]; have := HF.out; have := HL.out; omega)]
      exact ⟨by rw [← HN.out]; rfl, _, _, by rw [hkp, ← HN.out]; exact r1, (HTW5.out.trans (Trs.of_below (below_drewN (Below.refl _ _) nq))).next r2 HSUB.out, HSUB2.out _⟩
end Go.Proofs.YtoehkhbppmgfkaaGreatDoor
