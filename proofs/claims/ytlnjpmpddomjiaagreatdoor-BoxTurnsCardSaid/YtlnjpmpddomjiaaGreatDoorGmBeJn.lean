/- box's join: bytes.Join without a separator, as a text. (*Box).Hash of a symbolic box. Rows of whole numbers of the call's own. -/
import Derived.Test.YtlnjpmpddomjiaaGreatDoorGmBeNb
import Derived.Test.YtlnjpmpddomjiaaGreatDoorGmMgB
import Derived.Test.YtlnjpmpddomjiaaGreatDoorShelf
set_option maxRecDepth 100000
namespace Go.Proofs.YtlnjpmpddomjiaaGreatDoor
open Go.RowKit
attribute [local go_sem] Oper.semAt_some
theorem sl_fresh {B : Nat} {w : World} {v : Value} {l : List UInt8} (h : Lib.FreshBytes B w v l) : Sl w w.heap.size v l := by
  obtain ⟨g, cap, zs, rfl, _, h1, h2, h3, h4, h5, h6, _⟩ := h
  refine ⟨some ⟨g, 0, none⟩, cap, rfl, (fun e => by cases e), h1, by unfold maxLen at h2; omega, fun h0 => ⟨g, 0, rfl, World.block_lt_of_cell? w ⟨g, 0, none⟩ (h6 0 (by omega)), fun j hj => ?_⟩⟩
  rw [Nat.zero_add, h6 j (by omega)]
  have e1 : zs.getD j 0 = zs[j]'(by omega) := by simp [List.getD, List.getElem?_eq_getElem (show j < zs.length by omega)]
  have e2 : l[j]? = ((Lib.bytesOf (zs.take l.length)))[j]? := by rw [h5]
  have e3 : l[j]'hj = UInt8.ofNat (zs[j]'(by omega)).toNat := by
    have hjl : j < (Lib.bytesOf (zs.take l.length)).length := by rw [h5]; exact hj
    rw [List.getElem?_eq_getElem hj, List.getElem?_eq_getElem hjl] at e2
    injection e2 with e2
    rw [e2]
    simp [Lib.bytesOf]
  have hb := h4 (zs[j]'(by omega)) (List.getElem_mem _)
  rw [e1, e3, vb]
  congr 2
  unfold bn
  rw [UInt8.toNat_ofNat']
  omega
theorem parts_at {w : World} {B b o : Nat} : ∀ (ls : List (List UInt8)) (_ : ∀ j (h : j < ls.length), ∃ vj, w.cell? ⟨b, o + j, none⟩ = some vj ∧ Sl w B vj ls[j]), ∃ vs, Lib.PartsAt w ⟨b, o, none⟩ vs ls := by
  intro ls h
  obtain ⟨vs, h1, h2⟩ := choose_list ls.length (fun j vj => w.cell? ⟨b, o + j, none⟩ = some vj ∧ ∀ hj : j < ls.length, Sl w B vj ls[j]) (fun j hj => by
    obtain ⟨vj, q1, q2⟩ := h j hj
    exact ⟨vj, q1, fun _ => q2⟩)
  refine ⟨vs, h1, fun i v hv => ?_, fun i v l hv hl => ?_⟩
  · obtain ⟨hi, rfl⟩ := List.getElem?_eq_some_iff.1 hv
    rw [Lib.add_plain2]
    exact (h2 i hi).1
  · obtain ⟨hi, rfl⟩ := List.getElem?_eq_some_iff.1 hv
    obtain ⟨hj, rfl⟩ := List.getElem?_eq_some_iff.1 hl
    obtain ⟨A, c, hA, h3, h4, h5, h6⟩ := (h2 i hi).2 hj
    refine ⟨A, c, hA, fun e => ?_, fun a ha k x hx => ?_⟩
    · by_cases h0 : 0 < (ls[i]).length
      · obtain ⟨b', o', e', _⟩ := h6 h0
        rw [e] at e'; cases e'
      · exact List.eq_nil_of_length_eq_zero (by omega)
    · obtain ⟨hk, rfl⟩ := List.getElem?_eq_some_iff.1 hx
      obtain ⟨b', o', e', _, hbs⟩ := h6 (by omega)
      rw [e'] at ha
      injection ha with ha
      subst ha
      rw [Lib.add_plain2]
      exact hbs k hk
theorem bjoin_any {w : World} {B : Nat} {v : Value} {ls : List (List UInt8)} (h : Sls w B v ls) (hn : ls.length ≤ 100000) (hl : Lib.lens ls ≤ 1000000) :
    Calls Tryz.prog 60 #[v, .slice none 0 0] w fun e w' => ∃ v', e = .returned v' ∧ Sl w' w'.heap.size v' ls.flatten ∧ Below w.heap.size w w' := by
  obtain ⟨A, c, rfl, h1, h2, h3⟩ := h
  match ls, h1, h3, hn, hl with
  | [], h1, h3, hn, hl =>
    refine (Tryz.bytes_Join_none A c _ w).mono ?_
    rintro e w' ⟨rfl, rfl⟩
    exact ⟨_, rfl, ⟨_, _, rfl, (fun e => by cases e), by simp, by omega, fun h => by simp at h⟩, (Below.refl _ _).alloc (Nat.le_refl _) _⟩
  | [l0], h1, h3, hn, hl =>
    obtain ⟨b, o, rfl, hb, hj⟩ := h3 (by simp)
    obtain ⟨vj, hc, hs⟩ := hj 0 (by simp)
    obtain ⟨A0, c0, rfl, g1, g2, g3, g4⟩ := hs
    simp only [List.getElem_cons_zero, Nat.add_zero] at hc g2 g4 g1
    by_cases h0 : 0 < l0.length
    · obtain ⟨b0, o0, rfl, hb0, hbs⟩ := g4 h0
      refine (Tryz.bytes_Join_one b o c ⟨b0, o0, none⟩ c0 l0 _ w hc (fun i x hx => ?_) h0 (by simp [Lib.lens] at hl; omega)).mono ?_
      · obtain ⟨hi, rfl⟩ := List.getElem?_eq_some_iff.1 hx
        rw [Lib.add_plain2]
        exact hbs i hi
      · rintro e w' ⟨v', rfl, hf, hB⟩
        refine ⟨v', rfl, ?_, hB⟩
        simpa using sl_fresh hf
    · obtain rfl : l0 = [] := List.eq_nil_of_length_eq_zero (by omega)
      refine (Tryz.bytes_Join_one_empty b o c A0 c0 _ w hc).mono ?_
      rintro e w' ⟨rfl, rfl⟩
      exact ⟨_, rfl, ⟨_, _, rfl, (fun e => rfl), by simp, by omega, fun h => by simp at h⟩, Below.refl _ _⟩
  | l0 :: l1 :: r, h1, h3, hn, hl =>
    obtain ⟨b, o, rfl, hb, hj⟩ := h3 (by simp)
    obtain ⟨vs, hvs⟩ := parts_at _ hj
    refine (Tryz.bytes_Join_many b o _ c vs (l0 :: l1 :: r) (.slice none 0 0) [] w rfl (by simp) hvs h1 ⟨none, 0, rfl, fun _ => rfl, fun a ha => by cases ha⟩ (by omega) (by simp; omega)).mono ?_
    rintro e w' ⟨v', rfl, hf, hB⟩
    refine ⟨v', rfl, ?_, hB⟩
    have := sl_fresh hf
    rwa [show Lib.join (l0 :: l1 :: r) [] = (l0 :: l1 :: r).flatten from by rw [Lib.join_cons]; simp [Lib.joinTail]] at this
theorem join_any {w : World} {B : Nat} {v : Value} {ls : List (List UInt8)} (h : Sls w B v ls) (hn : ls.length ≤ 100000) (hl : Lib.lens ls ≤ 1000000) :
    Calls Tryz.prog 35 #[v] w fun e w' => e = .returned (str ls.flatten) ∧ Below w.heap.size w w' := by
  have HH := Lib.hid (bjoin_any h hn hl)
  obtain ⟨L, hL⟩ : ∃ L, L = ls.flatten := ⟨_, rfl⟩
  rw [← hL] at HH ⊢
  clear hL
  obtain ⟨A, c, rfl, _⟩ := h
  go_enter Tryz.func35, Tryz.ntmps35
  go_wp2_with fail
  refine HH.out.mono ?_
  rintro e w1 ⟨v', rfl, hS, hB⟩
  have hcv := conv_sl hS
  obtain ⟨A', c', rfl, _⟩ := hS
  go_wp2_with fail
  go_ret
  exact ⟨rfl, hB⟩
end Go.Proofs.YtlnjpmpddomjiaaGreatDoor
set_option maxRecDepth 100000
namespace Go.Proofs.YtlnjpmpddomjiaaGreatDoor
open Go.RowKit
attribute [local go_sem] Oper.semAt_some
theorem EnR.lift {w w1 w' : World} {base b m : Nat} {rv : Value} {sym full : Bool} {tag : List UInt8} {es : List EnL} {r : Ending} (hb : Below w.heap.size w w1) (h : EnR w1 base b m rv sym tag full es r w') : EnR w base b m rv sym tag full es r w' := by
  obtain ⟨v, rv', h1, h2, h3, h4, h5, h6⟩ := h
  have hz := hb.size
  refine ⟨v, rv', h1, h2.lower hz, h3, (Trs.of_below hb).trans h4, ?_, h6⟩
  rcases h5 with h | h | ⟨k, h, hk⟩
  · exact .inl h
  · exact .inr (.inl h)
  · exact .inr (.inr ⟨k, h, by omega⟩)
def hashE (l : List UInt8) : EnL := ⟨1, [], l, 0, [], []⟩
theorem hash_any {w : World} {base b m B : Nat} {rv v : Value} {full : Bool} {es : List EnL} {ls : List (List UInt8)} (h : BX w base b m rv true full es) (hv : Sls w B v ls) (hn : ls.length ≤ 100000) (hl : Lib.lens ls ≤ 100000) (hB : base ≤ w.heap.size) :
    Calls Tryz.prog 12 #[tP b, v] w (EnR w base b m rv true (tagE es (hashE ls.flatten)) (fullE full es (hashE ls.flatten)) (esE es (hashE ls.flatten))) := by
  have HJ := Lib.hid (join_any hv hn (by omega))
  have hlen : ls.flatten.length ≤ 100000 := by rw [List.length_flatten]; exact hl
  obtain ⟨L, hL⟩ : ∃ L, L = ls.flatten := ⟨_, rfl⟩
  rw [← hL] at HJ hlen ⊢
  clear hL
  have k0 := h.blk.at (o := 0) rfl
  have HX := Lib.hid h
  clear h
  obtain ⟨A, c, rfl, _⟩ := hv
  go_enter Tryz.func12, Tryz.ntmps12
  go_wp2_with fail
  refine HJ.out.mono ?_
  rintro e w1 ⟨rfl, hJ⟩
  have HB1 := Lib.hid hJ
  have HX1 := Lib.hid (HX.out.below hJ)
  have hz := hJ.size
  clear hJ
  have he : OkE (hashE L) := ⟨by simp [hashE], by simp [hashE], by simp [hashE], by simp [hashE], by simp [hashE], by show L.length ≤ 1000000; omega, by simp [hashE], by simp [hashE]⟩
  have HE := Lib.hid (enter_any (hashE L) HX1.out he (by omega))
  clear he
  go_wp2_with fail
  refine (HE.out).mono ?_
  intro e w2 hR
  have HR := Lib.hid (hR.lift HB1.out)
  obtain ⟨v', rv', rfl, _⟩ := hR
  go_wp2_with fail
  go_ret
  exact HR.out
end Go.Proofs.YtlnjpmpddomjiaaGreatDoor
set_option maxRecDepth 100000
namespace Go.Proofs.YtlnjpmpddomjiaaGreatDoor
open Go.RowKit
def jv (n : Nat) : Value := .int .i64 (n : Int)
theorem info_j : (Tryz.prog.info? 3).map (fun i => (i.zero, i.size, i.bytes)) = some (some (.int .i64 0), 1, 8) := by kernel_rfl
/-- The slice v of ints is the call's own, and holds ls. -/
def OwnJ (w : World) (base : Nat) (v : Value) (ls : List Nat) : Prop := w.ownsRow base 3 1 v ls.length (ls.map jv)
theorem OwnJ.nil (w : World) (base : Nat) : OwnJ w base (.slice none 0 0) [] := World.ownsRow_nil w base _ 1
theorem OwnJ.below {w w' : World} {base : Nat} {v : Value} {ls : List Nat} (h : OwnJ w base v ls) (hb : Below w.heap.size w w') : OwnJ w' base v ls :=
  World.ownsRow.kept h (grown_of_below hb none) (by cases hv : v.ownBlock <;> simp)
theorem OwnJ.lt {w : World} {base : Nat} {v : Value} {ls : List Nat} (h : OwnJ w base v ls) : ∀ k, v.ownBlock = some k → base ≤ k ∧ k < w.heap.size := World.ownsRow.lt h
theorem OwnJ.le {w : World} {base base' : Nat} {v : Value} {ls : List Nat} (h : OwnJ w base v ls) (hb : base' ≤ base) : OwnJ w base' v ls :=
  ⟨h.1, h.2.imp id (fun ⟨g, cap, cur, e, h1, r⟩ => ⟨g, cap, cur, e, Nat.le_trans hb h1, r⟩)⟩
/-- The ints lie below block B. -/
def JIn (w : World) (B : Nat) (v : Value) (ls : List Nat) : Prop :=
  ∃ A c, v = .slice A ls.length c ∧ ls.length ≤ c ∧ c ≤ 9223372036854775807 ∧ (0 < ls.length → ∃ g, A = some ⟨g, 0, none⟩ ∧ g < B ∧ ∀ j (hj : j < ls.length), w.cell? ⟨g, j, none⟩ = some (jv ls[j]))
theorem OwnJ.jIn {w : World} {base : Nat} {v : Value} {ls : List Nat} (h : OwnJ w base v ls) : JIn w w.heap.size v ls := by
  obtain ⟨h1, h2 | ⟨g, cap, cur, rfl, hb, hg, hc, hm, hs, ht⟩⟩ := h
  · have hx : ls = [] := List.eq_nil_of_length_eq_zero h2.2
    subst hx
    exact ⟨none, 0, h2.1, by simp, by omega, fun h => by simp at h⟩
  · refine ⟨_, cap, rfl, hc, by unfold maxLen at hm; omega, fun _ => ⟨g, rfl, (Array.getElem?_eq_some_iff.1 hg).1, fun j hj => ?_⟩⟩
    have hj' : j < cur.size := by omega
    have e : cur[j]? = some (jv ls[j]) := by
      have := congrArg (fun x : List Value => x[j]?) ht
      simp only [List.getElem?_map, List.getElem?_eq_getElem hj, List.getElem?_take, Option.map_some] at this
      rw [if_pos (by omega)] at this
      simpa using this
    simp [World.cell?, hg, e]
theorem JIn.below {w w' : World} {B B' : Nat} {v : Value} {ls : List Nat} (h : JIn w B v ls) (hb : Below B' w w') (hB : B ≤ B') : JIn w' B v ls := by
  obtain ⟨A, c, e, h1, h2, h⟩ := h
  refine ⟨A, c, e, h1, h2, fun hl => ?_⟩
  obtain ⟨g, hg, hlt, h3⟩ := h hl
  exact ⟨g, hg, hlt, fun j hj => (hb.cell (p := ⟨g, j, none⟩) (by show g < B'; omega)).trans (h3 j hj)⟩
theorem JIn.more {w : World} {B B' : Nat} {v : Value} {ls : List Nat} (h : JIn w B v ls) (hB : B ≤ B') : JIn w B' v ls := by
  obtain ⟨A, c, e, h1, h2, h⟩ := h
  refine ⟨A, c, e, h1, h2, fun hl => ?_⟩
  obtain ⟨g, hg, hlt, h3⟩ := h hl
  exact ⟨g, hg, by omega, h3⟩
section
variable {w : World} {ops : Array Oper} {rest : List Oper} {o : Oper} {a : Act} {Q : Exit → Act → World → Prop}
theorem wpList_appJ (hgd : o.guard = none) (s x : Operand) (ho : o.op = .call { callee := .builtin .append, args := #[s, x], argTypes := #[39, 39] })
    (base : Nat) (v : Value) (l : List Nat) (y : Nat) (hs : a.eval s = v) (hown : OwnJ w base v l) (sb c : Nat) (hx : a.eval x = .slice (some ⟨sb, 0, none⟩) 1 c) (hsrc : w.cell? ⟨sb, 0, none⟩ = some (jv y))
    (hlen : l.length ≤ 1000000) (hbase : base ≤ w.heap.size)
    (h : ∀ v' w', OwnJ w' base v' (l ++ [y]) → w.grownBy w' v.ownBlock → wpList Tryz.prog ops Q rest (a.put o.dst v') w') : wpList Tryz.prog ops Q (o :: rest) a w := by
  obtain ⟨i0, hi, hz0, hz1, hz2⟩ := info_parts info_j
  refine wpList_append_own w hgd s x 39 ho base 3 i0 (.int .i64 0) 1 8 Tryz.underlying39 hi hz0 hz1 hz2 rfl (by decide) v l.length (l.map jv) hs hown ⟨sb, 0, none⟩ 1 c [jv y] hx rfl ?_ (by simp [jv, Value.oneCell']) (by unfold maxLen; omega) (by omega) hbase ?_
  · intro j u hu
    match j, hu with
    | 0, hu => cases hu; exact hsrc
    | j + 1, hu => simp at hu
  · intro v' w' h1 h2 _
    refine h v' w' ?_ h2
    unfold OwnJ
    rw [List.length_append, List.map_append]
    exact h1
end
end Go.Proofs.YtlnjpmpddomjiaaGreatDoor
