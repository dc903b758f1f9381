/- box's laws: do. box's laws: both Boxes new; do over what it leaves; small methods of the Box. box's laws: an argument that is a slice of Ops (seven fields). BoxOpaque's law: like handles for like terms. -/
import Derived.Test.YtlnjpmpddomjiaaGreatDoorGmBwD0
import Derived.Test.YtlnjpmpddomjiaaGreatDoorGmBwD1
import Derived.Test.YtlnjpmpddomjiaaGreatDoorGmBwD2
import Derived.Test.YtlnjpmpddomjiaaGreatDoorGmBwD3
import Derived.Test.YtlnjpmpddomjiaaGreatDoorGmBwD4
import Derived.Test.YtlnjpmpddomjiaaGreatDoorGmBwD5
import Derived.Test.YtlnjpmpddomjiaaGreatDoorGmBeP
import Derived.Test.YtlnjpmpddomjiaaGreatDoorGmBeNew
import Derived.Test.YtlnjpmpddomjiaaGreatDoorGmMgB
import Derived.Deep.Slices
import Derived.Deep.Strs
import Derived.Test.YtlnjpmpddomjiaaGreatDoorGmBeTu
set_option maxRecDepth 100000
namespace Go.Proofs.YtlnjpmpddomjiaaGreatDoor
open Go.RowKit
theorem do_any {w : World} {base tb b m x : Nat} {rv V : Value} {T : List TmL} {tv : Value} {vals : List Value} {sym f : Bool} {es : List EnL} {tags : List (List UInt8)} (h : TD w base tb b m x rv V T tv vals sym f f es es tags) (hok : ∀ t ∈ tags, isTagL sym es.length t = true)
    (nn : Nat) (hnn : tags.length ≤ nn ∧ es.length ≤ nn ∧ NT es) (hlt : tags.length ≤ 1000) (d p q r : Int) (raw : Bool) (A1 A2 : Option Addr) (c1 c2 : Nat) (l1 l2 : List UInt8) (B : Nat) (hs1 : Sl w B (.slice A1 l1.length c1) l1) (hs2 : Sl w B (.slice A2 l2.length c2) l2) (hBw : B ≤ w.heap.size) (hd0 : 0 ≤ d) (hT : TabA w) (hU : TabB w) (hbw : base ≤ w.heap.size) (hgt : 0 < base) (hgu : 2 < base) :
    Calls Tryz.prog 9 #[.pointer (some ⟨tb, 0, none⟩), .agg #[.int .u8 d, .int .i64 p, .int .i64 q, .slice A1 l1.length c1, .slice A2 l2.length c2, .int .i64 r, .bool raw]] w fun e w' => e = .returned (.bool true) ∧ TE w' base tb b x sym (nn + 1) ∧ Below base w w' := by
  have h0 := Int.tmod_nonneg 9 hd0
  by_cases e0 : Int.tmod d 9 = 0
  · exact do_arm0 h hok nn hnn hlt d p q r e0 raw A1 A2 c1 c2 l1 l2 B hs1 hs2 hBw hd0 hT hU hbw hgt hgu
  by_cases e1 : Int.tmod d 9 = 1
  · exact do_arm1 h hok nn hnn hlt d p q r e1 raw A1 A2 c1 c2 l1 l2 B hs1 hs2 hBw hd0 hT hU hbw hgt hgu
  by_cases e2 : Int.tmod d 9 = 2
  · exact do_arm2 h hok nn hnn hlt d p q r e2 raw A1 A2 c1 c2 l1 l2 B hs1 hs2 hBw hd0 hT hU hbw hgt hgu
  by_cases e3 : Int.tmod d 9 = 3
  · exact do_arm3 h hok nn hnn hlt d p q r e3 raw A1 A2 c1 c2 l1 l2 B hs1 hs2 hBw hd0 hT hU hbw hgt hgu
  by_cases e4 : Int.tmod d 9 = 4
  · exact do_arm4 h hok nn hnn hlt d p q r e4 raw A1 A2 c1 c2 l1 l2 B hs1 hs2 hBw hd0 hT hU hbw hgt hgu
  exact do_arm5 h hok nn hnn hlt d p q r (by omega) raw A1 A2 c1 c2 l1 l2 B hs1 hs2 hBw hd0 hT hU hbw hgt hgu
end Go.Proofs.YtlnjpmpddomjiaaGreatDoor
set_option maxRecDepth 100000
namespace Go.Proofs.YtlnjpmpddomjiaaGreatDoor
open Go.RowKit
attribute [local go_sem] Oper.semAt_some
theorem tabA_lt {w : World} (h : TabA w) : 0 < w.heap.size := World.block_lt_of_cell? w ⟨0, 0, none⟩ (h 0 (by omega))
theorem tabB_lt {w : World} (h : TabB w) : 2 < w.heap.size := World.block_lt_of_cell? w ⟨2, 0, none⟩ (h 0 (by omega))
theorem td_new {W2 W3 : World} {base b m : Nat} {sym : Bool} {t1 t2 : TypeId} (hX : BX W2 base b m (.slice none 0 0) sym false []) (hB : base ≤ W2.heap.size)
    (hW : W3 = (W2.alloc (.cells #[.bool sym, .slice none 0 0, .bool false] t1)).alloc (.cells #[tP b, tP W2.heap.size, .slice none 0 0] t2)) :
    TD W3 base (W2.heap.size + 1) b m W2.heap.size (.slice none 0 0) (.slice none 0 0) [] (.slice none 0 0) [] sym false false [] [] [] ∧ Below W2.heap.size W2 W3 := by
  have hb1 : Below W2.heap.size W2 (W2.alloc (.cells #[.bool sym, .slice none 0 0, .bool false] t1)) := (Below.refl _ _).alloc (Nat.le_refl _) _
  have hb : Below W2.heap.size W2 W3 := by rw [hW]; exact hb1.alloc (by simp) _
  have hx : Blk W3 W2.heap.size [.bool sym, .slice none 0 0, .bool false] := by
    rw [hW]
    exact (Blk.new W2 [.bool sym, .slice none 0 0, .bool false] t1).below ((Below.refl _ _).alloc (Nat.le_refl _) _) (by simp)
  have ht : Blk W3 (W2.heap.size + 1) [tP b, tP W2.heap.size, .slice none 0 0] := by
    rw [hW]
    exact Blk.newAt (W2.alloc (.cells #[.bool sym, .slice none 0 0, .bool false] t1)) _ _ (by simp) rfl
  have hlt : ∀ k ∈ bS b m (.slice none 0 0), k < W2.heap.size := hX.bSlt
  have hrB : ∀ k, k ∈ rB W2.heap.size (.slice none 0 0) [] → k = W2.heap.size := fun k hk => by
    rcases mem_rB.1 hk with e | e | ⟨q, hq, _⟩
    · exact e
    · cases e
    · simp at hq
  have hlB : ∀ k, k ∈ lB (W2.heap.size + 1) (.slice none 0 0) [] → k = W2.heap.size + 1 := fun k hk => by
    rcases mem_lB.1 hk with e | e | ⟨q, hq, _⟩
    · exact e
    · cases e
    · simp at hq
  refine ⟨⟨⟨ht, World.ownsRow_nil W3 base tSl 1, rfl, fun i h1 => by simp at h1, by simp, by omega, (fun e => by cases e), fun v hv => by simp at hv⟩, hX.below hb, ⟨hx, World.ownsRow_nil W3 base tTm 6, rfl, fun i h1 => by simp at h1, hB, (fun e => by cases e), fun q hq => by simp at hq, by simp, fun _ => rfl⟩, GE.nil, GE.nil, fun k hk h2 => ?_, fun k hk h2 => ?_, fun k hk h2 => ?_⟩, hb⟩
  · have := hlt k hk; have := hrB k h2; omega
  · have := hlt k hk; have := hlB k h2; omega
  · have := hrB k hk; have := hlB k h2; omega
theorem TE.below {w w' : World} {base tb b x n : Nat} {sym : Bool} (h : TE w base tb b x sym n) (hb : Below w.heap.size w w') : TE w' base tb b x sym n := by
  obtain ⟨m, rv, V, T, tv, vals, f, es, tags, h1, h2, h3⟩ := h
  exact ⟨m, rv, V, T, tv, vals, f, es, tags, h1.below hb, h2, h3⟩
theorem TE.more {w : World} {base tb b x n n' : Nat} {sym : Bool} (h : TE w base tb b x sym n) (hn : n ≤ n') : TE w base tb b x sym n' := by
  obtain ⟨m, rv, V, T, tv, vals, f, es, tags, h1, h2, h3⟩ := h
  exact ⟨m, rv, V, T, tv, vals, f, es, tags, h1, h2, by omega, by omega, h3.2.2⟩
theorem bsym_any {w : World} {base b m : Nat} {rv : Value} {sym full : Bool} {es : List EnL} (h : BX w base b m rv sym full es) :
    Calls Tryz.prog 14 #[tP b] w fun e w' => e = .returned (.bool sym) ∧ w = w' := by
  have k0 := h.blk.at (o := 0) rfl
  clear h
  go_enter Tryz.func14, Tryz.ntmps14
  go_wp2_with fail
  go_ret
  exact ⟨rfl, rfl⟩
theorem bfull_any {w : World} {base b m : Nat} {rv : Value} {sym full : Bool} {es : List EnL} (h : BX w base b m rv sym full es) :
    Calls Tryz.prog 15 #[tP b] w fun e w' => e = .returned (.bool full) ∧ w = w' := by
  have k1 := h.blk.at (o := 1) rfl
  clear h
  go_enter Tryz.func15, Tryz.ntmps15
  go_wp2_with fail
  go_ret
  exact ⟨rfl, rfl⟩
theorem slice_hT (A : Option Addr) (n c k : Nat) (hk : k ≤ c) (w : World) : (Instr.slice 28 (.slice A n c) none (some (.int .i64 (k : Int))) none).run Tryz.prog w = .ok (.slice A k c) w := by
  rw [run_slice_h w 28 A n c Tryz.underlying28 .i64 k (by omega) (by omega)]
  by_cases h0 : c = 0 <;> simp [sliced, go_sem, h0]
end Go.Proofs.YtlnjpmpddomjiaaGreatDoor
set_option maxRecDepth 100000
namespace Go.Proofs.YtlnjpmpddomjiaaGreatDoor
open Go.ChangeShapes Go.WideShapes Go.ChangeAt Go.RowKit
theorem choose_g {α : Type} (n : Nat) (p : Nat → α → Prop) (h : ∀ i, i < n → ∃ x, p i x) : ∃ l : List α, l.length = n ∧ ∀ i (hi : i < l.length), p i l[i] := by
  induction n with
  | zero => exact ⟨[], rfl, fun i hi => by simp at hi⟩
  | succ k ih =>
    obtain ⟨l, hl, hp⟩ := ih (fun i hi => h i (by omega))
    obtain ⟨x, hx⟩ := h k (by omega)
    refine ⟨l ++ [x], by rw [List.length_append, hl]; rfl, fun i hi => ?_⟩
    by_cases hik : i < l.length
    · rw [List.getElem_append_left hik]; exact hp i hik
    · have : i = k := by rw [List.length_append] at hi; simp at hi; omega
      subst this
      rw [List.getElem_append_right (by omega)]
      simpa [hl] using hx
/-- An Op: what to do, two places, a key and a text and where they lie, how many rounds, of one's own. -/
structure OpX where
  d : Int
  p : Int
  q : Int
  A1 : Option Addr
  c1 : Nat
  l1 : List UInt8
  A2 : Option Addr
  c2 : Nat
  l2 : List UInt8
  r : Int
  raw : Bool
def opC (o : OpX) : List Value := [.int .u8 o.d, .int .i64 o.p, .int .i64 o.q, .slice o.A1 o.l1.length o.c1, .slice o.A2 o.l2.length o.c2, .int .i64 o.r, .bool o.raw]
/-- The Op's texts lie in memory below B. -/
structure OpX.ok (W : World) (B : Nat) (o : OpX) : Prop where
  d : 0 ≤ o.d ∧ o.d ≤ 255
  s1 : Sl W B (.slice o.A1 o.l1.length o.c1) o.l1
  s2 : Sl W B (.slice o.A2 o.l2.length o.c2) o.l2
/-- The slice v, nil or not, holds the Ops ls, all of them below block B. -/
def OpsX (w : World) (B : Nat) (v : Value) (ls : List OpX) : Prop :=
  ∃ A c, v = .slice A ls.length c ∧ ls.length ≤ c ∧ c ≤ 9223372036854775807 ∧ (0 < ls.length → ∃ b o, A = some ⟨b, o, none⟩ ∧ b < B ∧ ∀ j (h : j < ls.length), (∀ k v, (opC ls[j])[k]? = some v → w.cell? ⟨b, o + j * 7 + k, none⟩ = some v) ∧ ls[j].ok w B)
theorem OpX.ok.below {w w' : World} {B B' : Nat} {o : OpX} (h : o.ok w B) (hb : Below B' w w') (hB : B ≤ B') : o.ok w' B := ⟨h.d, h.s1.below hb hB, h.s2.below hb hB⟩
theorem OpsX.below {w w' : World} {B B' : Nat} {v : Value} {ls : List OpX} (h : OpsX w B v ls) (hb : Below B' w w') (hB : B ≤ B') : OpsX w' B v ls := by
  obtain ⟨A, c, rfl, h1, h2, h3⟩ := h
  refine ⟨A, c, rfl, h1, h2, fun hp => ?_⟩
  obtain ⟨b, o, rfl, hlt, hx⟩ := h3 hp
  refine ⟨b, o, rfl, hlt, fun j hj => ?_⟩
  obtain ⟨x1, x2⟩ := hx j hj
  exact ⟨fun k v hv => (hb.cell (p := ⟨b, o + j * 7 + k, none⟩) (by show b < B'; omega)).trans (x1 k v hv), x2.below hb hB⟩
section
variable {H : Type} {enc : TypeId × Value → H}
theorem cells_op7 : Tryz.prog.cellsOf 36 = 7 := by kernel_rfl
theorem u8_of_trod {W : World} {base fuel : Nat} {v : Value} {x : DataW H × List MemPlace} (hf : DataW.trod enc Tryz.prog W base (fun _ => true) true fuel 5 [v] = some x) : ∃ k : Int, v = .int .u8 k ∧ 0 ≤ k ∧ k ≤ 255 := by
  obtain ⟨n, hv, _, hw⟩ := DataW.trod_int Tryz.underlying5 hf
  simp only [List.cons.injEq, and_true] at hv
  subst hv
  simp [Lit.wf, IntKind.min, IntKind.max, IntKind.bits, IntKind.signed] at hw
  exact ⟨n, rfl, by omega, by omega⟩
theorem i64_of_trod {W : World} {base fuel : Nat} {v : Value} {x : DataW H × List MemPlace} (hf : DataW.trod enc Tryz.prog W base (fun _ => true) true fuel 3 [v] = some x) : ∃ k : Int, v = .int .i64 k := by
  obtain ⟨n, hv, _, hw⟩ := DataW.trod_int Tryz.underlying3 hf
  simp only [List.cons.injEq, and_true] at hv
  exact ⟨n, hv⟩
theorem bool_of_trod {W : World} {base fuel : Nat} {v : Value} {x : DataW H × List MemPlace} (hf : DataW.trod enc Tryz.prog W base (fun _ => true) true fuel 4 [v] = some x) : ∃ k : Bool, v = .bool k := by
  obtain ⟨n, hv, _⟩ := DataW.trod_bool Tryz.underlying4 hf
  simp only [List.cons.injEq, and_true] at hv
  exact ⟨n, hv⟩
theorem trod_struct7 {P : Program} {w : World} {base : Nat} {spare : Nat → Bool} {held : Bool} {t : TypeId} {f0 f1 f2 f3 f4 f5 f6 : Field} {fuel : Nat} {cs : List Value} {x : DataW H × List MemPlace} (ht : P.underlying t = some (.struct #[f0, f1, f2, f3, f4, f5, f6])) (h : DataW.trod enc P w base spare held fuel t cs = some x) :
    ∃ y0 y1 y2 y3 y4 y5 y6 n, DataW.trod enc P w base spare held n f0.type ((cs.drop f0.offset).take (P.cellsOf f0.type)) = some y0 ∧
      DataW.trod enc P w base spare held n f1.type ((cs.drop f1.offset).take (P.cellsOf f1.type)) = some y1 ∧ DataW.trod enc P w base spare held n f2.type ((cs.drop f2.offset).take (P.cellsOf f2.type)) = some y2 ∧
      DataW.trod enc P w base spare held n f3.type ((cs.drop f3.offset).take (P.cellsOf f3.type)) = some y3 ∧ DataW.trod enc P w base spare held n f4.type ((cs.drop f4.offset).take (P.cellsOf f4.type)) = some y4 ∧
      DataW.trod enc P w base spare held n f5.type ((cs.drop f5.offset).take (P.cellsOf f5.type)) = some y5 ∧ DataW.trod enc P w base spare held n f6.type ((cs.drop f6.offset).take (P.cellsOf f6.type)) = some y6 := by
  obtain ⟨xs, n, _, rfl, hl, hlen, hf⟩ := DataW.trod_struct ht h
  match xs, hlen with
  | [y0, y1, y2, y3, y4, y5, y6], _ => exact ⟨y0, y1, y2, y3, y4, y5, y6, n, by simpa using hf 0 f0 rfl, by simpa using hf 1 f1 rfl, by simpa using hf 2 f2 rfl, by simpa using hf 3 f3 rfl, by simpa using hf 4 f4 rfl, by simpa using hf 5 f5 rfl, by simpa using hf 6 f6 rfl⟩
theorem open_gops {W : World} {base : Nat} {v : Value} {d : DataW H} {ps : List MemPlace} (hval : Value.okWide Tryz.prog W .any base 22 v) (h : DataW.Trod enc Tryz.prog W 0 (fun _ => true) true 22 v d ps) :
    ∃ ls, OpsX W W.heap.size v ls := by
  obtain ⟨a1, len, cap, rfl⟩ := okWide_slice Tryz.underlying22 hval
  obtain ⟨fuel, hf⟩ := h
  rcases Go.Deep.open_slice Tryz.underlying22 hf with ⟨hcs, _⟩ | ⟨a, len', cap', m, n, D, Pl, hcs, _, hl, hm, hmm, _, hx⟩
  · simp [Value.cells] at hcs
    obtain ⟨rfl, rfl, rfl⟩ := hcs
    exact ⟨[], none, 0, rfl, by simp, by omega, fun h => by simp at h⟩
  · simp [Value.cells] at hcs
    obtain ⟨rfl, rfl, rfl⟩ := hcs
    simp only [if_true] at hmm
    subst hmm
    rw [cells_op7] at hx
    obtain ⟨ab, ao, spot⟩ := a
    have hs0 : 0 < len → spot = none := by
      intro h0
      obtain ⟨cs, hc, _⟩ := hx 0 (by omega)
      have k0 := (World.cells?_some hc).2.2 0 (by omega)
      have hl0 : cs.length = 7 := (World.cells?_some hc).2.1
      rw [List.getElem?_eq_getElem (by omega)] at k0
      simpa [Addr.add] using World.cell?_spot k0
    have key : ∀ i, i < len → ∃ x : OpX, (∀ k v, (opC x)[k]? = some v → W.cell? ⟨ab, ao + i * 7 + k, none⟩ = some v) ∧ x.ok W W.heap.size := by
      intro i hi
      obtain ⟨cs, hc, ht⟩ := hx i (by omega)
      obtain ⟨_, hcl, hat⟩ := World.cells?_some hc
      obtain ⟨c0, c1, c2, c3, c4, c5, c6, rfl⟩ : ∃ c0 c1 c2 c3 c4 c5 c6, cs = [c0, c1, c2, c3, c4, c5, c6] := by
        match cs, hcl with
        | [c0, c1, c2, c3, c4, c5, c6], _ => exact ⟨c0, c1, c2, c3, c4, c5, c6, rfl⟩
      obtain ⟨y0, y1, y2, y3, y4, y5, y6, n', h0, h1, h2, h3, h4, h5, h6⟩ := trod_struct7 Tryz.underlying36 ht
      have hspot : spot = none := hs0 (by omega)
      subst hspot
      obtain ⟨n0, rfl, b01, b02⟩ := u8_of_trod (v := c0) h0
      obtain ⟨n1, rfl⟩ := i64_of_trod (v := c1) h1
      obtain ⟨n2, rfl⟩ := i64_of_trod (v := c2) h2
      obtain ⟨l3, hl3⟩ := open_sl_trod (v := c3) h3
      obtain ⟨l4, hl4⟩ := open_sl_trod (v := c4) h4
      obtain ⟨n5, rfl⟩ := i64_of_trod (v := c5) h5
      obtain ⟨n6, rfl⟩ := bool_of_trod (v := c6) h6
      obtain ⟨A3, k3, rfl, g3⟩ := hl3
      obtain ⟨A4, k4, rfl, g4⟩ := hl4
      refine ⟨⟨n0, n1, n2, A3, k3, l3, A4, k4, l4, n5, n6⟩, fun k v hv => ?_, ⟨⟨b01, b02⟩, ⟨A3, k3, rfl, g3⟩, ⟨A4, k4, rfl, g4⟩⟩⟩
      have hk : k < 7 := (List.getElem?_eq_some_iff.1 hv).1
      have kk := hat k hk
      rw [Go.Deep.add_add, Addr.add_lit] at kk
      rw [Nat.add_assoc, kk]
      exact hv
    obtain ⟨ls, hls, hp⟩ := choose_g len _ key
    refine ⟨ls, some ⟨ab, ao, spot⟩, m, by rw [hls], by rw [hls]; exact hl, by unfold maxLen at hm; omega, fun h0 => ?_⟩
    have hs := hs0 (by omega)
    subst hs
    have hlt : ab < W.heap.size := World.block_lt_of_cell? W ⟨ab, ao + 0 * 7 + 0, none⟩ ((hp 0 h0).1 0 _ rfl)
    exact ⟨ab, ao, rfl, hlt, fun j hj => hp j hj⟩
end
end Go.Proofs.YtlnjpmpddomjiaaGreatDoor
set_option maxRecDepth 100000
namespace Go.Proofs.YtlnjpmpddomjiaaGreatDoor
open Go.RowKit
attribute [local go_sem] Oper.semAt_some
/-- do over what TE holds. -/
theorem do_te {w : World} {base tb b x n : Nat} {sym : Bool} (h : TE w base tb b x sym n) (hn : n ≤ 1000) (o : OpX) (B : Nat) (ho : o.ok w B) (hBw : B ≤ w.heap.size) (hT : TabA w) (hU : TabB w) (hbw : base ≤ w.heap.size) (hgt : 0 < base) (hgu : 2 < base) :
    Calls Tryz.prog 9 #[.pointer (some ⟨tb, 0, none⟩), .agg #[.int .u8 o.d, .int .i64 o.p, .int .i64 o.q, .slice o.A1 o.l1.length o.c1, .slice o.A2 o.l2.length o.c2, .int .i64 o.r, .bool o.raw]] w fun e w' => e = .returned (.bool true) ∧ TE w' base tb b x sym (n + 1) ∧ Below base w w' := by
  obtain ⟨m, rv, V, T, tv, vals, f, es, tags, h1, h2, h3⟩ := h
  refine (do_any h1 h2 n h3 (by omega) o.d o.p o.q o.r o.raw o.A1 o.A2 o.c1 o.c2 o.l1 o.l2 B ho.s1 ho.s2 hBw ho.d.1 hT hU hbw hgt hgu).mono ?_
  rintro e w' ⟨e1, e2, e3⟩
  exact ⟨e1, e2, e3⟩
theorem terms_apart {w : World} {base x : Nat} {V : Value} {full sym : Bool} {T : List TmL} {es : List EnL} (h : XB w base x V sym full T (es.map enW)) (hg : GE es) (i j : Nat) (hi : i < T.length) (hj : j < i) (W : World) (hb : Below w.heap.size w W) :
    Calls Tryz.prog 11 #[tmA (T[i]'hi), tmA (T[j]'(by omega))] W fun e w' => e = .returned (.bool false) ∧ Below W.heap.size W w' := by
  have hl := h.len
  rw [List.length_map] at hl
  have h1 := h.tm i hi (by rw [List.length_map]; omega)
  have h2 := h.tm j (by omega) (by rw [List.length_map]; omega)
  rw [List.getElem_map] at h1 h2
  refine (sameTm_any w.heap.size (T[i]'hi) (T[j]'(by omega)) (enW (es[i]'(by omega))) (enW (es[j]'(by omega))) W (h1.s.below hb (Nat.le_refl _)) (h2.s.below hb (Nat.le_refl _)) hb.size (by
    have := (hg.g (es[j]'(by omega)) (List.getElem_mem _)).le
    unfold enW
    rw [List.length_map]
    omega)).mono ?_
  rintro e w' ⟨rfl, hb'⟩
  refine ⟨?_, hb'⟩
  have hne : ¬ enW (es[i]'(by omega)) = enW (es[j]'(by omega)) := fun e => by
    have this := enW_inj (hg.g _ (List.getElem_mem _)) (hg.g _ (List.getElem_mem _)) e
    exact (List.pairwise_iff_getElem.1 hg.nd j i (by omega) (by omega) hj) this.symm
  rw [decide_eq_false hne]
set_option maxHeartbeats 8000000 in
theorem boxOpaque_law (B : Nat) (v : Value) (ls : List OpX) (w : World) (hv : OpsX w B v ls) (hB : B ≤ w.heap.size) (hT : TabA w) (hU : TabB w) :
    Calls Tryz.prog 4 #[v] w fun e w' => e = .returned (.bool true) ∧ Below w.heap.size w w' := by
  have HGA := Lib.hid (And.intro (tabA_lt hT) (tabB_lt hU))
  have HV := Lib.hid hv
  have HT := Lib.hid hT
  have HU := Lib.hid hU
  have HBW := Lib.hid hB
  obtain ⟨SA, SC, rfl, hn1, hn2, _⟩ := hv
  clear hT hU hB
  go_enter Tryz.func4, Tryz.ntmps4
  go_wp2_with fail
  refine (awake5 w).mono ?_
  rintro e W1 ⟨rfl, hB1⟩
  have HB1 := Lib.hid hB1
  clear hB1
  go_wp2_with fail
  refine (new_box true W1).mono ?_
  rintro e W2 ⟨b, m, rfl, hX, hB2⟩
  have HX2 := Lib.hid hX
  have HB2 := Lib.hid hB2
  clear hX hB2
  go_wp2_with fail
  obtain ⟨W3, hW3⟩ : ∃ W, W = (W2.alloc (.cells #[.bool true, .slice none 0 0, .bool false] 30)).alloc (.cells #[tP b, tP W2.heap.size, .slice none 0 0] 33) := ⟨_, rfl⟩
  have hnew := td_new HX2.out HB2.out.size hW3
  have HTE3 := Lib.hid (show TE W3 W1.heap.size (W2.heap.size + 1) b W2.heap.size true 0 from ⟨_, _, _, _, _, _, _, _, _, hnew.1, by simp, by simp, by simp, NT.nil⟩)
  have HB3 := Lib.hid (HB2.out.trans (hnew.2.mono HB2.out.size))
  rw [← hW3]
  clear hW3 hnew
  have HGB := Lib.hid (show 0 < W1.heap.size ∧ 2 < W1.heap.size ∧ B ≤ W1.heap.size from by have h1 := HGA.out; have h2 := HB1.out.size; have h3 := HBW.out; omega)
  have HKP := Lib.hid (fun (W : World) (hb : Below W1.heap.size W1 W) => (show TabA W ∧ TabB W ∧ Below w.heap.size w W ∧ W1.heap.size ≤ W.heap.size from ⟨(HT.out.below HB1.out HGA.out.1).below hb HGB.out.1, (HU.out.below HB1.out HGA.out.2).below hb HGB.out.2.1, HB1.out.trans (hb.mono HB1.out.size), hb.size⟩))
  go_loopw [4, 5, 20] (fun _ _ i wr => ∃ k : Nat, k ≤ ls.length ∧ i = .int .i64 (k : Int) ∧ TE wr W1.heap.size (W2.heap.size + 1) b W2.heap.size true (min k 20) ∧ Below W1.heap.size W1 wr) (fun _ _ i _ => ls.length - (intOf i).toNat)
  case atStart => exact ⟨0, by omega, rfl, HTE3.out, HB3.out⟩
  case round =>
    obtain ⟨k, hk, rfl, hte, hbl⟩ := hrel
    have HTE := Lib.hid hte
    have HBl := Lib.hid hbl
    clear hte hbl
    by_cases hlt : k < ls.length
    · have hlt' : (k : Int) < (ls.length : Int) := by omega
      obtain ⟨A2, C2, hv2, _, _, hx⟩ := HV.out
      injection hv2 with hv21 hv22 hv23
      subst hv21; subst hv23
      obtain ⟨sb, so, rfl, hsb, hx⟩ := hx (by omega)
      obtain ⟨hc0, hok⟩ := hx k hlt
      have HOK := Lib.hid (hok.below (HKP.out _ HBl.out).2.2.1 HBW.out)
      have hc : ∀ j v, (opC ls[k])[j]? = some v → wr.cell? ⟨sb, so + k * 7 + j, none⟩ = some v := fun j v hv => ((HKP.out _ HBl.out).2.2.1.cell (p := ⟨sb, so + k * 7 + j, none⟩) (by have := HBW.out; show sb < w.heap.size; omega)).trans (hc0 j v hv)
      clear hc0 hok
      obtain ⟨o, ho⟩ : ∃ o, o = ls[k] := ⟨_, rfl⟩
      rw [← ho] at hc HOK
      clear hx ho hv22
      obtain ⟨dd, p, q, A1, c1, l1, A2, c2, l2, r, raw⟩ := o
      have k0 := hc 0 _ rfl
      have k1 := hc 1 _ rfl
      have k2 := hc 2 _ rfl
      have k3 := hc 3 _ rfl
      have k4 := hc 4 _ rfl
      have k5 := hc 5 _ rfl
      have k6 := hc 6 _ rfl
      rw [Nat.add_zero] at k0
      clear hc
      by_cases hk20 : k < 20
      · have hk2 : (k : Int) < 20 := by omega
        have HDO := Lib.hid (fun W (hb : Below wr.heap.size wr W) => do_te (HTE.out.below hb) (by omega) ⟨dd, p, q, A1, c1, l1, A2, c2, l2, r, raw⟩ B (HOK.out.below hb (Nat.le_trans HGB.out.2.2 HBl.out.size)) (Nat.le_trans HGB.out.2.2 (Nat.le_trans HBl.out.size hb.size)) (HKP.out W (HBl.out.trans (hb.mono HBl.out.size))).1 (HKP.out W (HBl.out.trans (hb.mono HBl.out.size))).2.1 (Nat.le_trans HBl.out.size hb.size) HGB.out.1 HGB.out.2.1)
        have HBN := Lib.hid (fun (W W' : World) (hb : Below wr.heap.size wr W) (hb' : Below W1.heap.size W W') => (show Below W1.heap.size W1 W' from (HBl.out.trans (hb.mono HBl.out.size)).trans hb'))
        go_wp2_with fail
        refine (HDO.out _ ((Below.refl _ _).alloc (Nat.le_refl _) _)).mono ?_
        rintro e W5 ⟨rfl, hte5, hb5⟩
        have HTE5 := Lib.hid (hte5.more (n' := min (k + 1) 20) (by omega))
        have HB5 := Lib.hid (HBN.out _ _ ((Below.refl _ _).alloc (Nat.le_refl _) _) hb5)
        clear hte5 hb5
        go_wp2_with fail
        exact ⟨⟨k + 1, by omega, by go_num, HTE5.out, HB5.out⟩, by simp [intOf]; omega⟩
      · have hk2 : ¬ (k : Int) < 20 := by omega
        have HBo := Lib.hid (fun (o : Obj) => (show TE (wr.alloc o) W1.heap.size (W2.heap.size + 1) b W2.heap.size true (min (k + 1) 20) ∧ Below W1.heap.size W1 (wr.alloc o) from ⟨(HTE.out.below ((Below.refl _ _).alloc (Nat.le_refl _) _)).more (by omega), HBl.out.alloc HBl.out.size o⟩))
        go_wp2_with fail
        exact ⟨⟨k + 1, by omega, by go_num, (HBo.out _).1, (HBo.out _).2⟩, by simp [intOf]; omega⟩
    · obtain rfl : k = ls.length := by omega
      obtain ⟨wA, rfl⟩ : ∃ W, W = wr := ⟨_, rfl⟩
      obtain ⟨m', rv, V, T, tv, vals, f, es, tags, htd, -, -⟩ := HTE.out
      have q1 := htd.lt.blk.at (o := 1) rfl
      obtain ⟨A, c, hV, hc1, hc2⟩ := htd.xb.own.form
      subst hV
      have x1 := htd.xb.blk.at (o := 1) rfl
      have HTD := Lib.hid htd
      have hTl : T.length ≤ 4096 := by rw [htd.xb.len]; exact htd.xb.le
      have HTL := Lib.hid hTl
      clear htd hTl
      go_wp2_with fail
      go_loopw [6, 7, 9, 42] (fun _ _ _ i wq => ∃ k : Nat, k ≤ T.length ∧ i = .int .i64 (k : Int) ∧ Below wA.heap.size wA wq) (fun _ _ _ i _ => T.length - (intOf i).toNat)
      case atStart => exact ⟨0, by omega, rfl, Below.refl _ _⟩
      case round =>
        obtain ⟨k, hk, rfl, hbq⟩ := hrel
        obtain ⟨wq, rfl⟩ : ∃ W, W = wr := ⟨_, rfl⟩
        have HQ := Lib.hid hbq
        have HXQ := Lib.hid ((HTD.out.xb.own.tmIn).below hbq (Nat.le_refl _))
        clear hbq
        by_cases hlt : k < T.length
        · have hlt' : (k : Int) < (T.length : Int) := by omega
          obtain ⟨g, o, hA, hgl, c0, c1, c2, c3, c4, c5⟩ := HXQ.out.six k hlt
          subst hA
          have q1 := HTD.out.lt.blk.below HQ.out HTD.out.lt.blk.lt |>.at (o := 1) rfl
          have x1 := HTD.out.xb.blk.below HQ.out HTD.out.xb.blk.lt |>.at (o := 1) rfl
          obtain ⟨y, hy⟩ : ∃ y, y = T[k] := ⟨_, rfl⟩
          have HSAME := Lib.hid (fun (j : Nat) (hj : j < k) (W : World) (hb : Below wA.heap.size wA W) => terms_apart HTD.out.xb HTD.out.gr k j hlt hj W hb)
          rw [← hy] at c0 c1 c2 c3 c4 c5 HSAME
          obtain ⟨bq, hbq⟩ : ∃ n, n = wq.heap.size := ⟨_, rfl⟩
          obtain ⟨X1, hX1⟩ : ∃ W, W = wq.alloc (.cells #[.int .i64 y.kind, .slice y.KA y.km y.kc, .slice y.TA y.tm y.tc, .int .i64 y.rounds, .slice y.LA y.lm y.lc, .slice y.MA y.mm y.mc] tTm) := ⟨_, rfl⟩
          have hb1 : Below wq.heap.size wq X1 := by rw [hX1]; exact (Below.refl _ _).alloc (Nat.le_refl _) _
          have HYB := Lib.hid (show Blk X1 bq [.int .i64 y.kind, .slice y.KA y.km y.kc, .slice y.TA y.tm y.tc, .int .i64 y.rounds, .slice y.LA y.lm y.lc, .slice y.MA y.mm y.mc] from by rw [hX1, hbq]; exact Blk.new wq _ tTm)
          have HQ1 := Lib.hid (HQ.out.trans (hb1.mono HQ.out.size))
          have hsl := fun W => slice_hT (some ⟨g, o, none⟩) T.length c k (by have := hc1; omega) W
          have q1' : X1.cell? ⟨W2.heap.size + 1, 1, none⟩ = some (tP W2.heap.size) := HTD.out.lt.blk.below HQ1.out HTD.out.lt.blk.lt |>.at (o := 1) rfl
          have x1' : X1.cell? ⟨W2.heap.size, 1, none⟩ = some (.slice (some ⟨g, o, none⟩) T.length c) := HTD.out.xb.blk.below HQ1.out HTD.out.xb.blk.lt |>.at (o := 1) rfl
          rw [hX1] at q1' x1'
          have HHX1 := Lib.hid hX1
          have HBQ := Lib.hid hbq
          clear hb1 hX1 hbq hy q1 x1
          obtain ⟨kd, KA, km, kc, TA, tm, tc, rd, LA, lm, lc, MA, mm, mc⟩ := y
          go_wp2_with fail
          rw [← HHX1.out, ← HBQ.out]
          go_loopw [9, 57] (fun _ i wz => ∃ j : Nat, j ≤ k ∧ i = .int .i64 (j : Int) ∧ Below X1.heap.size X1 wz) (fun _ i _ => k - (intOf i).toNat)
          case atStart => exact ⟨0, by omega, rfl, Below.refl _ _⟩
          case round =>
            obtain ⟨j, hj, rfl, hbz⟩ := hrel
            obtain ⟨wz, rfl⟩ : ∃ W, W = wr := ⟨_, rfl⟩
            have HZ := Lib.hid hbz
            have HXZ := Lib.hid ((HTD.out.xb.own.tmIn).below (HQ1.out.trans (hbz.mono HQ1.out.size)) (Nat.le_refl _))
            clear hbz
            by_cases hjk : j < k
            · have hjk' : (j : Int) < (k : Int) := by omega
              obtain ⟨g', o', hA', _, d0, d1, d2, d3, d4, d5⟩ := HXZ.out.six j (by omega)
              cases hA'
              obtain ⟨z, hz⟩ : ∃ z, z = T[j] := ⟨_, rfl⟩
              rw [← hz] at d0 d1 d2 d3 d4 d5
              obtain ⟨X2, hX2⟩ : ∃ W, W = wz.alloc (.cells #[.int .i64 z.kind, .slice z.KA z.km z.kc, .slice z.TA z.tm z.tc, .int .i64 z.rounds, .slice z.LA z.lm z.lc, .slice z.MA z.mm z.mc] tTm) := ⟨_, rfl⟩
              have hb2 : Below wz.heap.size wz X2 := by rw [hX2]; exact (Below.refl _ _).alloc (Nat.le_refl _) _
              have HZ2 := Lib.hid (HZ.out.trans (hb2.mono HZ.out.size))
              have hyk := HYB.out.below HZ2.out HYB.out.lt
              rw [hX2] at hyk
              have b0 := hyk.at (o := 0) rfl
              have b1 := hyk.at (o := 1) rfl
              have b2 := hyk.at (o := 2) rfl
              have b3 := hyk.at (o := 3) rfl
              have b4 := hyk.at (o := 4) rfl
              have b5 := hyk.at (o := 5) rfl
              have hsm := HSAME.out j hjk X2 (HQ1.out.trans (HZ2.out.mono HQ1.out.size))
              rw [← hz] at hsm
              have HSM := Lib.hid hsm
              have HX2e := Lib.hid hX2
              clear hyk hb2 hX2 hz hsm
              obtain ⟨kd2, KA2, km2, kc2, TA2, tm2, tc2, rd2, LA2, lm2, lc2, MA2, mm2, mc2⟩ := z
              go_wp2_with fail
              rw [← HX2e.out]
              refine HSM.out.mono ?_
              rintro e X3 ⟨rfl, hb3⟩
              have HZ3 := Lib.hid (HZ2.out.trans (hb3.mono HZ2.out.size))
              clear hb3 b0 b1 b2 b3 b4 b5
              go_wp2_with fail
              exact ⟨⟨j + 1, by omega, by go_num, HZ3.out⟩, by simp [intOf]; omega⟩
            · obtain rfl : j = k := by omega
              have HQZ := Lib.hid (HQ1.out.trans (HZ.out.mono HQ1.out.size))
              go_wp2_with fail
              exact ⟨⟨j + 1, by omega, by go_num, HQZ.out⟩, by simp [intOf]; omega⟩
        · obtain rfl : k = T.length := by omega
          obtain ⟨wq2, rfl⟩ : ∃ W, W = wq := ⟨_, rfl⟩
          go_wp2_with fail
          refine (new_box false wq2).mono ?_
          rintro e Z1 ⟨b2, m2, rfl, hX, hBZ⟩
          have HXZ := Lib.hid hX
          have HBZ := Lib.hid hBZ
          clear hX hBZ
          have hcv := Lib.run_convert_bytes_const (P := Tryz.prog) Z1 34 5 #[.int .u8 97] 1 1 Tryz.underlying34 Tryz.underlying5
          go_wp2_with fail
          clear hcv
          obtain ⟨Z2, hZ2⟩ : ∃ W, W = (Z1.alloc (.cells #[.int .u8 97] 5 (1, 2))).alloc (.cells #[.slice (some ⟨Z1.heap.size, 0, none⟩) 1 1] 34) := ⟨_, rfl⟩
          have hS2 : Sls Z2 Z2.heap.size (.slice (some ⟨Z1.heap.size + 1, 0, none⟩) 1 1) [[97]] := by rw [hZ2]; exact sls_one Z1 97 _ (by simp)
          have hb2 : Below Z1.heap.size Z1 Z2 := by rw [hZ2]; exact ((Below.refl _ _).alloc (Nat.le_refl _) _).alloc (by simp) _
          have HFA := Lib.hid (show Below W1.heap.size W1 Z2 from ((HBl.out.trans (HQ.out.mono HBl.out.size)).trans (HBZ.out.mono (Nat.le_trans HBl.out.size HQ.out.size))).trans (hb2.mono (Nat.le_trans (Nat.le_trans HBl.out.size HQ.out.size) HBZ.out.size)))
          rw [← hZ2]
          refine (hash_P (HXZ.out.below hb2) hS2 (by simp) (by decide) (by intro l hl; rw [List.mem_singleton.1 hl]; decide) (Nat.le_trans HBZ.out.size hb2.size) (HKP.out Z2 HFA.out).1).mono ?_
          rintro e Z3 ⟨vh, rv3, rfl, -, hX3, hT3, -, -⟩
          have HX3 := Lib.hid (show BX Z3 wq2.heap.size b2 m2 rv3 false false [] from hX3)
          have HFB := Lib.hid (show Below w.heap.size w Z3 from (HKP.out Z2 HFA.out).2.2.1.trans (hT3.toBelow (HKP.out Z2 HFA.out).2.2.1.size (fun k hk => by
            have h0 := HBl.out.size
            have h1 := HB1.out.size
            have h2 := HQ.out.size
            rcases mem_bS.1 hk with e | e | e
            · have := HXZ.out.bb; omega
            · have := HXZ.out.bm; omega
            · cases e)))
          clear hX3 hT3 hS2 hb2 hZ2
          go_wp2_with fail
          refine (blen_any HX3.out).mono ?_
          rintro e Z4 ⟨rfl, rfl⟩
          go_wp2_with fail
          refine (bsym_any HX3.out).mono ?_
          rintro e Z5 ⟨rfl, rfl⟩
          go_wp2_with fail
          refine (bfull_any HX3.out).mono ?_
          rintro e Z6 ⟨rfl, rfl⟩
          go_wp2_with fail
          go_ret
          exact ⟨rfl, HFB.out⟩
end Go.Proofs.YtlnjpmpddomjiaaGreatDoor
