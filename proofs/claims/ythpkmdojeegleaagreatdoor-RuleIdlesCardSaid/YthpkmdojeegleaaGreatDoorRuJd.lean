/- Rows of whole numbers of the call's own. Idle rules, as lists. The library's Equal and Contains over ints. -/
import Derived.Test.YthpkmdojeegleaaGreatDoorOwnT
import Derived.Test.YthpkmdojeegleaaGreatDoorRuLs
import Derived.Test.YthpkmdojeegleaaGreatDoorRuPr
set_option maxRecDepth 100000
namespace Go.Proofs.YthpkmdojeegleaaGreatDoor
open Go.RowKit
def jv (n : Nat) : Value := .int .i64 (n : Int)
theorem info_j : (Tryz.prog.info? 3).map (fun i => (i.zero, i.size, i.bytes)) = some (some (.int .i64 0), 1, 8) := by kernel_rfl
/-- The slice v of ints is the call's own, and holds ls. -/
def OwnJ (w : World) (base : Nat) (v : Value) (ls : List Nat) : Prop := w.ownsRow base 3 1 v ls.length (ls.map jv)
theorem OwnJ.nil (w : World) (base : Nat) : OwnJ w base (.slice none 0 0) [] := World.ownsRow_nil w base _ 1
theorem OwnJ.below {w w' : World} {base : Nat} {v : Value} {ls : List Nat} (h : OwnJ w base v ls) (hb : Below w.heap.size w w') : OwnJ w' base v ls :=
  World.ownsRow.kept h (grown_of_below hb none) (by cases hv : v.ownBlock <;> simp)
theorem OwnJ.lt {w : World} {base : Nat} {v : Value} {ls : List Nat} (h : OwnJ w base v ls) : ∀ k, v.ownBlock = some k → base ≤ k ∧ k < w.heap.size := World.ownsRow.lt h
/-- The ints lie below block B. -/
def JIn (w : World) (B : Nat) (v : Value) (ls : List Nat) : Prop :=
  ∃ A c, v = .slice A ls.length c ∧ ls.length ≤ c ∧ c ≤ 9223372036854775807 ∧ (0 < ls.length → ∃ g, A = some ⟨g, 0, none⟩ ∧ g < B ∧ ∀ j (hj : j < ls.length), w.cell? ⟨g, j, none⟩ = some (jv ls[j]))
theorem OwnJ.jIn {w : World} {base : Nat} {v : Value} {ls : List Nat} (h : OwnJ w base v ls) : JIn w w.heap.size v ls := by
  obtain ⟨h1, h2 | ⟨g, cap, cur, rfl, hb, hg, hc, hm, hs, ht⟩⟩ := h
  · have hx : ls = [] := List.eq_nil_of_length_eq_zero h2.2
    subst hx
    exact ⟨none, 0, h2.1, by simp, by omega, fun h => by simp at h⟩
  · refine ⟨_, cap, rfl, hc, by unfold maxLen at hm; omega, fun _ => ⟨g, rfl, (Array.getElem?_eq_some_iff.1 hg).1, fun j hj => ?_⟩⟩
    have hj' : j < cur.size := by omega
    have e : cur[j]? = some (jv ls[j]) := by
      have := congrArg (fun x : List Value => x[j]?) ht
      simp only [List.getElem?_map, List.getElem?_eq_getElem hj, List.getElem?_take, Option.map_some] at this
      rw [if_pos (by omega)] at this
      simpa using this
    simp [World.cell?, hg, e]
theorem JIn.below {w w' : World} {B B' : Nat} {v : Value} {ls : List Nat} (h : JIn w B v ls) (hb : Below B' w w') (hB : B ≤ B') : JIn w' B v ls := by
  obtain ⟨A, c, e, h1, h2, h⟩ := h
  refine ⟨A, c, e, h1, h2, fun hl => ?_⟩
  obtain ⟨g, hg, hlt, h3⟩ := h hl
  exact ⟨g, hg, hlt, fun j hj => (hb.cell (p := ⟨g, j, none⟩) (by show g < B'; omega)).trans (h3 j hj)⟩
theorem JIn.more {w : World} {B B' : Nat} {v : Value} {ls : List Nat} (h : JIn w B v ls) (hB : B ≤ B') : JIn w B' v ls := by
  obtain ⟨A, c, e, h1, h2, h⟩ := h
  refine ⟨A, c, e, h1, h2, fun hl => ?_⟩
  obtain ⟨g, hg, hlt, h3⟩ := h hl
  exact ⟨g, hg, by omega, h3⟩
section
variable {w : World} {ops : Array Oper} {rest : List Oper} {o : Oper} {a : Act} {Q : Exit → Act → World → Prop}
theorem wpList_appJ (hgd : o.guard = none) (s x : Operand) (ho : o.op = .call { callee := .builtin .append, args := #[s, x], argTypes := #[50, 50] })
    (base : Nat) (v : Value) (l : List Nat) (y : Nat) (hs : a.eval s = v) (hown : OwnJ w base v l) (sb c : Nat) (hx : a.eval x = .slice (some ⟨sb, 0, none⟩) 1 c) (hsrc : w.cell? ⟨sb, 0, none⟩ = some (jv y))
    (hlen : l.length ≤ 1000000) (hbase : base ≤ w.heap.size)
    (h : ∀ v' w', OwnJ w' base v' (l ++ [y]) → w.grownBy w' v.ownBlock → wpList Tryz.prog ops Q rest (a.put o.dst v') w') : wpList Tryz.prog ops Q (o :: rest) a w := by
  obtain ⟨i0, hi, hz0, hz1, hz2⟩ := info_parts info_j
  refine wpList_append_own w hgd s x 50 ho base 3 i0 (.int .i64 0) 1 8 Tryz.underlying50 hi hz0 hz1 hz2 rfl (by decide) v l.length (l.map jv) hs hown ⟨sb, 0, none⟩ 1 c [jv y] hx rfl ?_ (by simp [jv, Value.oneCell']) (by unfold maxLen; omega) (by omega) hbase ?_
  · intro j u hu
    match j, hu with
    | 0, hu => cases hu; exact hsrc
    | j + 1, hu => simp at hu
  · intro v' w' h1 h2 _
    refine h v' w' ?_ h2
    unfold OwnJ
    rw [List.length_append, List.map_append]
    exact h1
end
end Go.Proofs.YthpkmdojeegleaaGreatDoor
namespace Go.Proofs.YthpkmdojeegleaaGreatDoor
open Go.RowKit
/-- Does one of them cover it? -/
def idleB (pre : List RuL) (x : RuL) : Bool := pre.any (fun r => coversB r x)
def zeroR : RuL := ⟨false, [], [], [], 0, 0⟩
/-- The idle ones among the first k. -/
def idleK (xs : List RuL) (k : Nat) : List Nat := (List.range k).filter (fun i => idleB (xs.take i) (xs.getD i zeroR))
theorem idleK_zero (xs : List RuL) : idleK xs 0 = [] := rfl
theorem idleK_succ (xs : List RuL) (k : Nat) : idleK xs (k + 1) = idleK xs k ++ (if idleB (xs.take k) (xs.getD k zeroR) = true then [k] else []) := by
  unfold idleK
  rw [List.range_succ, List.filter_append]
  congr 1
  by_cases h : idleB (xs.take k) (xs.getD k zeroR) = true
  · rw [if_pos h, List.filter_cons_of_pos (by exact h)]; rfl
  · rw [if_neg h, List.filter_cons_of_neg (by exact h)]; rfl
theorem idleK_le (xs : List RuL) (k : Nat) : (idleK xs k).length ≤ k := by
  unfold idleK
  have := List.length_filter_le (fun i => idleB (xs.take i) (xs.getD i zeroR)) (List.range k)
  simpa using this
theorem idleK_lt {xs : List RuL} {k i : Nat} (h : i ∈ idleK xs k) : i < k := by
  unfold idleK at h
  have := (List.mem_filter.1 h).1
  simpa using this
/-- The rules that are not idle. -/
def busyK (xs : List RuL) (ids : List Nat) (k : Nat) : List RuL := ((xs.zipIdx.take k).filter (fun x => !ids.contains x.2)).map (·.1)
theorem busyK_succ (xs : List RuL) (ids : List Nat) (k : Nat) (hk : k < xs.length) : busyK xs ids (k + 1) = busyK xs ids k ++ (if ids.contains k = true then [] else [xs[k]]) := by
  unfold busyK
  have e : xs.zipIdx.take (k + 1) = xs.zipIdx.take k ++ [(xs[k], k)] := by
    rw [List.take_succ_eq_append_getElem (by simpa using hk)]
    simp
  rw [e, List.filter_append, List.map_append]
  congr 1
  by_cases h : ids.contains k = true
  · rw [if_pos h, List.filter_cons_of_neg (by simpa using h)]; rfl
  · rw [if_neg h, List.filter_cons_of_pos (by simpa using h)]; rfl
theorem mayL_app {role ten host : List UInt8} {port : Int} : ∀ (a b : List RuL), (∀ r ∈ a, holdsB r role ten host port = false) → mayL role ten host port (a ++ b) = mayL role ten host port b
  | [], _, _ => rfl
  | r :: a, b, h => by
    rw [List.cons_append, mayL, if_neg (by rw [h r (by simp)]; simp)]
    exact mayL_app a b (fun x hx => h x (by simp [hx]))
theorem mayL_no {role ten host : List UInt8} {port : Int} (a : List RuL) (h : ∀ r ∈ a, holdsB r role ten host port = false) : mayL role ten host port a = false := by
  have := mayL_app a [] h
  rw [List.append_nil] at this
  rw [this]; rfl
/-- The first that holds is not idle. -/
theorem first_busy {xs : List RuL} {role ten host : List UInt8} {port : Int} {i : Nat} (hi : i < xs.length) (hn : ∀ r ∈ xs.take i, holdsB r role ten host port = false) (hh : holdsB xs[i] role ten host port = true) (k : Nat) : i ∉ idleK xs k := by
  intro h
  unfold idleK at h
  have h2 := (List.mem_filter.1 h).2
  rw [show xs.getD i zeroR = xs[i] by rw [List.getD_eq_getElem?_getD, List.getElem?_eq_getElem hi]; rfl] at h2
  unfold idleB at h2
  rw [List.any_eq_true] at h2
  obtain ⟨r, hr, hc⟩ := h2
  have := covers_sound hc hh
  rw [hn r hr] at this
  cases this
theorem busy_may (xs : List RuL) (role ten host : List UInt8) (port : Int) : mayL role ten host port (busyK xs (idleK xs xs.length) xs.length) = mayL role ten host port xs := by
  rcases whichL_cases role ten host port xs with ⟨_, hn, hm⟩ | ⟨i, hi, _, hn, hh, hm⟩
  · rw [hm]
    refine mayL_no _ (fun r hr => hn r ?_)
    unfold busyK at hr
    obtain ⟨y, hy, rfl⟩ := List.mem_map.1 hr
    have hy2 := List.mem_of_mem_take (List.mem_filter.1 hy).1
    rw [← List.zipIdx_map_fst 0 xs]
    exact List.mem_map.2 ⟨y, hy2, rfl⟩
  · rw [hm]
    have hb := first_busy hi hn hh xs.length
    obtain ⟨ids, hids⟩ : ∃ ids, ids = idleK xs xs.length := ⟨_, rfl⟩
    rw [← hids] at hb ⊢
    unfold busyK
    have e : xs.zipIdx.take xs.length = xs.zipIdx.take i ++ ((xs[i], i) :: xs.zipIdx.drop (i + 1)) := by
      rw [List.take_of_length_le (by simp)]
      have h1 := (List.take_append_drop i xs.zipIdx).symm
      have h2 : xs.zipIdx.drop i = (xs[i], i) :: xs.zipIdx.drop (i + 1) := by
        rw [List.drop_eq_getElem_cons (by simpa using hi)]
        simp
      rw [h2] at h1
      exact h1
    rw [e, List.filter_append, List.map_append, mayL_app]
    · rw [List.filter_cons_of_pos (by simpa using hb), List.map_cons, mayL, if_pos hh]
    · intro r hr
      obtain ⟨y, hy, rfl⟩ := List.mem_map.1 hr
      refine hn _ ?_
      have := (List.mem_filter.1 hy).1
      rw [show xs.take i = (xs.zipIdx.take i).map (·.1) by rw [List.map_take, List.zipIdx_map_fst]]
      exact List.mem_map.2 ⟨y, this, rfl⟩
end Go.Proofs.YthpkmdojeegleaaGreatDoor
set_option maxRecDepth 100000
namespace Go.Proofs.YthpkmdojeegleaaGreatDoor
open Go.RowKit
theorem JIn.one {W : World} {B n c : Nat} {A : Option Addr} {ls : List Nat} (h : JIn W B (.slice A n c) ls) (k : Nat) (hk : k < ls.length) : ∃ g, A = some ⟨g, 0, none⟩ ∧ W.cell? ⟨g, k, none⟩ = some (.int .i64 ((ls[k] : Nat) : Int)) := by
  obtain ⟨A', c', e, _, _, h⟩ := h
  obtain ⟨g, hg, hlt, h3⟩ := h (by omega)
  injection e with e1 e2 e3
  subst e1
  exact ⟨g, hg, h3 k hk⟩
theorem equalJ_same (B B' : Nat) (v u : Value) (ls : List Nat) (w : World) (hv : JIn w B v ls) (hu : JIn w B' u ls) (hB : B ≤ w.heap.size) (hB' : B' ≤ w.heap.size) (hl : ls.length ≤ 100000) :
    Calls Tryz.prog 19 #[v, u] w fun e w' => e = .returned (.bool true) ∧ Below w.heap.size w w' := by
  have HV := Lib.hid hv; have HU := Lib.hid hu
  obtain ⟨A, c, rfl, h1, h2, h3⟩ := hv
  obtain ⟨A', c', rfl, h1', h2', h3'⟩ := hu
  clear h3 h3'
  go_enter Tryz.func19, Tryz.ntmps19
  go_wp2_with fail
  go_loopw [13] (fun i wr => ∃ k : Nat, k ≤ ls.length ∧ i = .int .i64 (k : Int) ∧ Below w.heap.size w wr) (fun i _ => ls.length - (intOf i).toNat)
  case atStart => exact ⟨0, by omega, rfl, Below.refl _ _⟩
  case round =>
    obtain ⟨k, hk, rfl, hb⟩ := hrel
    have HB := Lib.hid hb
    by_cases hlt : k < ls.length
    · obtain ⟨g, rfl, e0⟩ := (HV.out.below hb hB).one k hlt
      obtain ⟨g', rfl, e1⟩ := (HU.out.below hb hB').one k hlt
      obtain ⟨x, hx⟩ : ∃ x, x = ls[k] := ⟨_, rfl⟩
      rw [← hx] at e0 e1
      clear hx hb
      go_wp2_with fail
      try (go_quiet (fail); go_wp2_with fail)
      go_roundw
      case rel => exact ⟨k + 1, by omega, by go_num, by first | exact HB.out | exact below_drewN HB.out _⟩
      case measure => simp [intOf]; omega
    · clear hb
      go_wp2_with fail
      go_ret
      exact ⟨rfl, HB.out⟩
theorem indexJ_any (B : Nat) (v : Value) (ls : List Nat) (x : Nat) (w : World) (hv : JIn w B v ls) (hl : ls.length ≤ 100000) (_hx : x ≤ 100000) :
    Calls Tryz.prog 42 #[v, .int .i64 (x : Int)] w fun e w' => ∃ n : Int, e = .returned (.int .i64 n) ∧ (0 ≤ n ↔ ls.contains x = true) ∧ Below w.heap.size w w' := by
  have HV := Lib.hid hv
  obtain ⟨A, c, rfl, h1, h2, h3⟩ := hv
  clear h3
  go_enter Tryz.func42, Tryz.ntmps42
  go_wp2_with fail
  go_loopw [8] (fun i wr => ∃ k : Nat, k ≤ ls.length ∧ i = .int .i64 (k : Int) ∧ wr = w ∧ ∀ y ∈ ls.take k, y ≠ x) (fun i _ => ls.length - (intOf i).toNat)
  case atStart => exact ⟨0, by omega, rfl, rfl, by simp⟩
  case round =>
    obtain ⟨k, hk, rfl, rfl, hno⟩ := hrel
    by_cases hlt : k < ls.length
    · obtain ⟨g, rfl, e0⟩ := HV.out.one k hlt
      have hmem : ls[k] ∈ ls := List.getElem_mem hlt
      have hsn : ∀ y ∈ ls.take (k + 1), y ∈ ls.take k ∨ y = ls[k] := by
        intro y hy
        rw [List.take_succ_eq_append_getElem hlt, List.mem_append, List.mem_singleton] at hy
        exact hy
      obtain ⟨y, hy⟩ : ∃ y, y = ls[k] := ⟨_, rfl⟩
      rw [← hy] at e0 hmem hsn
      have HM := Lib.hid hmem
      have HSN := Lib.hid hsn
      have HNO := Lib.hid hno
      clear hy hmem hsn hno
      by_cases hyx : x = y
      · subst hyx
        go_wp2_with fail
        go_ret
        exact ⟨_, rfl, ⟨fun _ => by simpa using HM.out, fun _ => by omega⟩, Below.refl _ _⟩
      · have hne : ((x : Int) == (y : Int)) = false := by rw [beq_eq_false_iff_ne]; omega
        go_wp2_with fail
        go_roundw
        case rel => exact ⟨k + 1, by omega, by go_num, by trivial, fun z hz => by
          rcases HSN.out z hz with h | h
          · exact HNO.out z h
          · omega⟩
        case measure => simp [intOf]; omega
    · have HNO := Lib.hid hno
      clear hno
      go_wp2_with fail
      go_ret
      refine ⟨_, rfl, ⟨fun h => absurd h (by decide), fun h => ?_⟩, Below.refl _ _⟩
      have := HNO.out x (by rw [List.take_of_length_le (by omega)]; simpa using h)
      exact absurd rfl this
theorem containsJ_any (B : Nat) (v : Value) (ls : List Nat) (x : Nat) (w : World) (hv : JIn w B v ls) (hl : ls.length ≤ 100000) (hx : x ≤ 100000) :
    Calls Tryz.prog 22 #[v, .int .i64 (x : Int)] w fun e w' => e = .returned (.bool (ls.contains x)) ∧ Below w.heap.size w w' := by
  have HC := Lib.hid (indexJ_any B v ls x w hv hl hx)
  obtain ⟨A, c, rfl, _⟩ := hv
  obtain ⟨P, hP⟩ : ∃ P, P = ls.contains x := ⟨_, rfl⟩
  rw [← hP] at HC ⊢
  clear hP
  go_enter Tryz.func22, Tryz.ntmps22
  go_wp2_with fail
  refine HC.out.mono ?_
  rintro e w1 ⟨n, rfl, hn, hB⟩
  have HB := Lib.hid hB
  clear HC hB
  cases P with
  | false =>
    have h0 : ¬ 0 ≤ n := fun h => by have := hn.1 h; cases this
    clear hn
    go_wp2_with fail
    go_ret
    first | exact ⟨rfl, HB.out⟩ | exact ⟨by simp [h0], HB.out⟩
  | true =>
    have h0 : 0 ≤ n := hn.2 rfl
    clear hn
    go_wp2_with fail
    go_ret
    first | exact ⟨rfl, HB.out⟩ | exact ⟨by simp [h0], HB.out⟩
end Go.Proofs.YthpkmdojeegleaaGreatDoor
