/- A Builder; a policy's Text. -/
import Derived.Test.YthpkmdojeegleaaGreatDoorRuLn
import Derived.Test.YthpkmdojeegleaaGreatDoorRuRw
set_option maxRecDepth 100000
namespace Go.Proofs.YthpkmdojeegleaaGreatDoor
open Go.RowKit Go.Shelf
attribute [local go_sem] Oper.semAt_some
abbrev tB : TypeId := 74
/-- The Builder at block b holds the bytes l. -/
def Bld (b : Nat) (l : List UInt8) (w : World) : Prop := Lib.IsBuilderF tB 5 b b (Lib.byteCells l) w
theorem bld_lt {b : Nat} {l : List UInt8} {w : World} (h : Bld b l w) : b < w.heap.size := by
  rcases h with h | h <;> exact h.lt
theorem bld_cells {b : Nat} {l : List UInt8} {w : World} (h : Bld b l w) : ∃ cs, w.heap[b]? = some (.cells cs tB (0, 0)) := by
  rcases h with ⟨_, v, h, _⟩ | ⟨_, v, h, _⟩ <;> exact ⟨_, h⟩
theorem kept_others {b : Nat} {l : List UInt8} {w w' : World} (h : Bld b l w) (hs : w.heap.size ≤ w'.heap.size) (hk : Lib.OthersKept 5 (some b) w w') : KeepsOthers w w' := by
  refine ⟨hs, fun k o hko ho => hk k o hko (fun e => ?_) (fun c fz e => ?_)⟩
  · injection e with e
    subst e
    obtain ⟨cs, hc⟩ := bld_cells h
    rw [hc] at hko; cases hko; cases ho
  · rw [e] at ho; cases ho
theorem kept_boxT {b B : Nat} {w w' : World} {v : Value} {t : TypeId} (ht : t ≠ 5) (hb : B ≠ b) (hk : Lib.OthersKept 5 (some b) w w') (h : Boxed w B t v) : Boxed w' B t v :=
  hk B _ h (fun e => by injection e with e; exact hb e) (fun c fz e => by injection e with _ e; exact ht e)
theorem bld_write (b : Nat) (l s : List UInt8) (w : World) (h : Bld b l w) (hlen : l.length + s.length ≤ 140737488355328) :
    Calls Tryz.prog 31 #[.pointer (some ⟨b, 0, none⟩), str s] w fun e w' => e = .returned (.tuple #[.int .i64 (s.length : Int), .nilIface]) ∧ Bld b (l ++ s) w' ∧ Below b w w' ∧ Lib.OthersKept 5 (some b) w w' := by
  refine (Any.Builder_WriteString_k { Tryz.lays156 with } { Tryz.Builder_Extra_156 with } b b (Lib.byteCells l) ⟨s.toArray⟩ w h (by rw [Lib.byteCells_length]; exact hlen) (Nat.le_of_lt (bld_lt h))).mono ?_
  rintro e w' ⟨rfl, h1, h2, h3⟩
  refine ⟨rfl, .inr ?_, h2, h3⟩
  rw [show Lib.strCells ⟨s.toArray⟩ = Lib.byteCells s from rfl] at h1
  unfold Lib.byteCells at h1 ⊢
  rw [List.map_append]
  exact h1
theorem bld_string (b : Nat) (l : List UInt8) (w : World) (h : Bld b l w) : Calls Tryz.prog 33 #[.pointer (some ⟨b, 0, none⟩)] w fun e w' => e = .returned (str l) ∧ Below b w w' ∧ Lib.OthersKept 5 (some b) w w' :=
  (Tryz.Builder_String_any_k b b l w h (Nat.le_of_lt (bld_lt h))).mono fun _ _ ⟨h1, _, h2, h3⟩ => ⟨h1, h2, h3⟩
theorem bld_new (w : World) : Bld w.heap.size [] (w.alloc (.cells #[.pointer none, .slice none 0 0] tB)) := Lib.IsBuilderF.of (Lib.fresh_isBuilder _ _ w)
theorem bld_below {b : Nat} {l : List UInt8} {w w' : World} (h : Bld b l w) (hb : Below w.heap.size w w') : Bld b l w' := by
  have hl := bld_lt h
  have go : ∀ p, Lib.BuilderAtF tB 5 b b p (Lib.byteCells l) w → Lib.BuilderAtF tB 5 b b p (Lib.byteCells l) w' := by
    rintro p ⟨h1, v, h2, h3, h4⟩
    exact ⟨h1, v, (hb.block b hl).trans h2, h3.kept (grown_of_below hb none) (by cases hv : v.ownBlock <;> simp), h4⟩
  rcases h with h | h
  · exact .inl (go _ h)
  · exact .inr (go _ h)
theorem bld_put {b q : Nat} {l : List UInt8} {w : World} {o o' : Obj} (h : Bld b l w) (ho : w.heap[q]? = some o) (hc : o.isCells = false) : Bld b l (w.putObj q o') := by
  have go : ∀ p, Lib.BuilderAtF tB 5 b b p (Lib.byteCells l) w → Lib.BuilderAtF tB 5 b b p (Lib.byteCells l) (w.putObj q o') := by
    rintro p ⟨h1, v, h2, h3, h4⟩
    refine ⟨h1, v, (World.putObj_heap_other (fun e => ?_)).trans h2, h3.kept (grownBy_putObj' w q o') ?_, h4⟩
    · subst e
      rw [h2] at ho; cases ho; cases hc
    · rcases h3.2 with ⟨rfl, _⟩ | ⟨g, cap, cur, fz, rfl, _, hgb, _⟩
      · exact .inl rfl
      · refine .inr fun e' => ?_
        have e2 : g = q := by simpa [Value.ownBlock] using e'
        subst e2
        rw [hgb] at ho; cases ho; cases hc
  rcases h with h | h
  · exact .inl (go _ h)
  · exact .inr (go _ h)
/-- A policy's Text, under way. -/
structure PtI (w : World) (po : Option Addr) (l : List UInt8) (A : World) : Prop where
  bb : Bld w.heap.size l A
  bp : Boxed A (w.heap.size + 1) tPol (.pointer po)
  low : Below w.heap.size w A
  sz : w.heap.size + 2 ≤ A.heap.size
section
variable {w A B : World} {po : Option Addr} {l l' : List UInt8}
theorem PtI.below (h : PtI w po l A) (hb : Below A.heap.size A B) : PtI w po l B :=
  ⟨bld_below h.bb hb, (hb.block _ h.bp.lt).trans h.bp, h.low.trans (hb.mono h.low.size), Nat.le_trans h.sz hb.size⟩
theorem PtI.put {q : Nat} {o o' : Obj} (h : PtI w po l A) (hl : w.heap.size ≤ q) (ho : A.heap[q]? = some o) (hc : o.isCells = false) : PtI w po l (A.putObj q o') := by
  have hk := kc_putObj (b := 0) (o' := o') ho hc
  exact ⟨bld_put h.bb ho hc, hk _ _ _ _ (Nat.zero_le _) h.bp,
    h.low.trans (below_own (B := w.heap.size) (Nat.le_refl _) (by have := h.sz; omega) (grownBy_putObj' A q o') (fun r e => by cases e; exact ⟨hl, o, ho, hc⟩)), by simpa [World.putObj] using h.sz⟩
end
def PtT (pre : List (RuL × Nat)) : List UInt8 := textL (pre.map (·.1))
theorem textL_snoc (l : List RuL) (r : RuL) : textL (l ++ [r]) = textL l ++ (lineL r ++ [10]) := by rw [textL_app]; simp [textL]
set_option maxHeartbeats 4000000 in
theorem polText_any (B : Nat) (pv : Value) (xs : List RuL) (w : World) (hE : Env w) (hp : PolO w B pv xs) (hB : B ≤ w.heap.size) (hv : ∀ r ∈ xs, validB r = true) (hl : xs.length ≤ 5000) :
    Calls Tryz.prog 13 #[pv] w fun e w' => e = .returned (str (textL xs)) ∧ Below w.heap.size w w' := by
  obtain ⟨po, v, rfl, hpv⟩ := hp.openV
  have HPV := Lib.hid hpv
  have HE := Lib.hid hE
  have HV := Lib.hid hv
  clear hp hpv hE hv
  refine (callsIn_wide (n := 10)).1 ?_
  refine callsIn_of_wp_marks Tryz.func13 rfl trivial ?_ rfl
  simp only [Tryz.ntmps13, List.size_toArray, List.length_cons, List.length_nil, Nat.reduceAdd, Nat.reduceSub, Array.replicate_succ, Array.replicate_zero, List.push_toArray, List.append_toArray, List.nil_append, List.cons_append]
  gi_wp2
  refine ⟨trivial, (callsIn_wide.2 (rules_any po _)).mono ?_⟩
  rintro e W3 ⟨rfl, hW3⟩
  simp only [World.size_alloc] at hW3 ⊢
  have q0 := bld_below (bld_new w) ((Below.refl _ _).alloc (Nat.le_refl _) (.cells #[.pointer po] tPol))
  have q1 := Boxed.new (w.alloc (.cells #[.pointer none, .slice none 0 0] tB)) tPol (.pointer po)
  simp only [World.size_alloc] at q1
  have q7 := ((Below.refl w.heap.size w).alloc (by simp; try omega) (.cells #[.pointer none, .slice none 0 0] tB)).alloc (by simp; try omega) (.cells #[.pointer po] tPol)
  have hP : PtI w po [] W3 := by
    rw [hW3]
    exact ⟨q0, q1, q7, by simp⟩
  clear hW3 q0 q1 q7
  have HSQ := Lib.hid (rules1_g (10 - 1) (by omega) (w.heap.size + 1) B po v xs hl W3)
  unfold RuY at HSQ
  have HP := Lib.hid hP
  have hz3 := hP.sz
  clear hP
  gi_wp2
  refine wpIn_rangeFunc_ga rfl (by omega) (gf := gRu) (lb := #[.pointer (some ⟨w.heap.size + 1, 0, none⟩)]) rfl trivial (fun _ _ => rfl) (encs := fun x : RuL × Nat => #[.int .i64 (x.2 : Int), ragg x.1]) StL (fun _ _ => True) (fun _ pre x _ => pre ++ [x] <+: xs.zipIdx) (fun ys => ys = xs.zipIdx)
    (RuIn (w.heap.size + 1) B po v xs)
    (fun pre A => PtI w po (PtT pre) A)
    (fun cd pre A => False)
    HSQ.out (fun pre A h => ⟨h.bp, HPV.out.below h.low hB⟩) (fun _ => rfl)
    (fun _ _ _ _ h _ hk => h.block _ hk) (fun _ _ _ h => h.size) (fun _ _ _ _ _ => trivial) (fun _ _ _ _ _ _ _ => trivial)
    (fun pre A B h hst => h.below hst)
    (fun c pre A B h hst => h)
    (fun pre A l o o' h hl ho hc => h.put (by omega) ho hc)
    (fun c pre A l o o' h hl ho hc => h)
    (fun _ _ _ _ _ _ _ h _ _ _ => h)
    (fun W' hb hs => HP.out.below hb)
    (fun pre A B h _ hb => h.below hb)
    (fun _ _ _ _ _ h _ => h) (fun _ _ _ => trivial)
    (fun x A a' V => V = A.alloc (.cells #[.bool x.1.allow, str x.1.role, str x.1.ten, str x.1.host, .int .i64 x.1.frm, .int .i64 x.1.til] 41) ∧ a' = { tmps := #[.pointer po, undef, .string ⟨#[]⟩, .pointer (some ⟨w.heap.size, 0, none⟩), undef, .pointer (some ⟨A.heap.size, 0, none⟩), .pointer po, gvRu (w.heap.size + 1), .int .i64 (x.2 : Int), ragg x.1, undef, undef, undef, undef, undef], defers := [] })
    (fun x A a' V h => by rw [h.1]; exact (Below.refl _ A).alloc (Nat.le_refl _) _)
    ?assign ?body ?done ?stop
  case assign =>
    rintro k x A K hK
    have HK := Lib.hid hK; clear hK
    gi_wp2
    exact HK.out _ _ ⟨rfl, rfl⟩
  case done =>
    rintro D ys A hD hz rfl hJ hK
    unfold PtT at hJ
    rw [List.zipIdx_map_fst] at hJ
    have HJ := Lib.hid hJ
    have HK := Lib.hid hK
    clear hJ hK
    gi_wp2
    refine ⟨trivial, (callsIn_wide.2 (bld_string _ _ _ HJ.out.bb)).mono ?_⟩
    rintro e W4 ⟨rfl, hB4, hO4⟩
    have HKD := Lib.hid (show W4.heap[D]? = some (.deferred (some [])) from hO4 D _ HK.out (fun e => by injection e with e; omega) (fun c fz e => by cases e))
    have HBD := Lib.hid ((HJ.out.low.trans hB4).trans (below_own (B := w.heap.size) (Nat.le_refl _) (by have := HJ.out.sz; have := hB4.size; omega) (grownBy_putObj' W4 D (.deferred none)) (fun r e => by cases e; exact ⟨by omega, _, HKD.out, rfl⟩)))
    clear hO4 hB4
    gi_wp2
    show LeavesInM _ _ _ _ _ _ _ _ _
    refine ⟨by simp, .inl ⟨_, _, rfl, run_takeDeferred HKD.out, ?_⟩⟩
    exact ⟨_, by simp [results, Tryz.results13, go_sem], rfl, HBD.out⟩
  case stop =>
    rintro D c pre A hD hz h hK
    exact h.elim
  case body =>
    rintro k bb pre x a' A hbb hbz hJ hpre ⟨A0, V, ⟨hV, rfl⟩, hkc, hA0⟩
    unfold PtT at hJ
    obtain ⟨eb, heb⟩ : ∃ eb, eb = A0.heap.size := ⟨_, rfl⟩
    have hb3 : Blk A eb (rcl x.1) := ⟨_, hkc _ _ _ _ (Nat.zero_le _) (by rw [hV, heb]; exact heap_alloc_new A0 _)⟩
    rw [← heb]
    clear hV hkc hA0 heb
    obtain ⟨hk1, hk2, hk3⟩ := zip_pre hpre
    have hxv : validB x.1 = true := by rw [hk2]; exact HV.out _ (List.getElem_mem hk1)
    have hxs : ∀ r ∈ pre.map (·.1), validB r = true := fun r hr => by
      rw [hk3, zip_fst] at hr
      exact HV.out r (List.mem_of_mem_take hr)
    have htl := textL_len _ hxs
    rw [List.length_map] at htl
    have hll := (lineL_back hxv).2.2.2
    have HL := Lib.hid (fun W (h : Env W) => line_any x.1 W h hxv)
    have HTS := Lib.hid (textL_snoc (pre.map (·.1)) x.1)
    obtain ⟨ln, hln⟩ : ∃ ln, ln = lineL x.1 := ⟨_, rfl⟩
    rw [← hln] at hll HL HTS
    obtain ⟨tx, htx⟩ : ∃ tx, tx = textL (pre.map (·.1)) := ⟨_, rfl⟩
    rw [← htx] at htl hJ HTS
    have d0 := hb3.at (o := 0) rfl
    have d1 := hb3.at (o := 1) rfl
    have d2 := hb3.at (o := 2) rfl
    have d3 := hb3.at (o := 3) rfl
    have d4 := hb3.at (o := 4) rfl
    have d5 := hb3.at (o := 5) rfl
    have HJ := Lib.hid hJ
    have HEA := Lib.hid (HE.out.below hJ.low)
    clear hJ hpre hb3 hk2 hk3 hln htx hxs hxv
    gi_wp2
    refine ⟨trivial, (CallsIn.inRound k (callsIn_wide.2 (HL.out _ HEA.out))).mono ?_⟩
    rintro e W4 ⟨rfl, hB4⟩
    have HJ4 := Lib.hid (HJ.out.below hB4)
    have HB4 := Lib.hid hB4
    have hcat : (⟨ln.toArray⟩ : ByteArray) ++ ⟨#[10]⟩ = ⟨(ln ++ [10]).toArray⟩ := by apply ByteArray.ext; simp [ByteArray.data_append]
    clear d0 d1 d2 d3 d4 d5 hB4
    gi_wp2
    refine ⟨trivial, (CallsIn.inRound k (callsIn_wide.2 (bld_write w.heap.size tx (ln ++ [10]) W4 HJ4.out.bb (by rw [List.length_append, List.length_singleton]; omega)))).mono ?_⟩
    rintro e W5 ⟨rfl, hb5, hB5, hO5⟩
    have hJ5 : PtI w po (tx ++ (ln ++ [10])) W5 := ⟨hb5, kept_boxT (by decide) (by omega) hO5 HJ4.out.bp, HJ4.out.low.trans hB5, Nat.le_trans HJ4.out.sz hB5.size⟩
    have HJ5 := Lib.hid hJ5
    have HKF := Lib.hid ((kf_low (b := W3.heap.size) HB4.out).trans ((kept_others HJ4.out.bb hB5.size hO5).from _))
    clear hb5 hB5 hO5 hJ5
    gi_wp2
    exact ⟨HKF.out, trivial, by show PtI w po (PtT (pre ++ [x])) W5; unfold PtT; rw [fst_snoc, HTS.out]; exact HJ5.out⟩
end Go.Proofs.YthpkmdojeegleaaGreatDoor
