/- Bytes that were converted of a text, and grow by texts: their row bears its mark behind its last cell. head: a head's lines as lists: what is printed of it, and that this is read again. head.encode. (head.Request).Bytes, (head.Answer).Bytes, the law's print. -/
import Derived.Test.YtajclihnoedecaaGreatDoorHdEnv
import Derived.Test.YtajclihnoedecaaGreatDoorHdAt
import Derived.Lib.AppendStr
import Derived.Lib.ConvBytes
import Derived.Lib.FrozenHead
import Derived.Test.YtajclihnoedecaaGreatDoorHrL
import Derived.Test.YtajclihnoedecaaGreatDoorHsList
import Derived.Test.YtajclihnoedecaaGreatDoorHdPi
import Derived.Test.YtajclihnoedecaaGreatDoorHdAns
import Derived.Test.YtajclihnoedecaaGreatDoorReg
import Derived.Lib.ItoaLen
set_option maxRecDepth 100000
namespace Go.Proofs.YtajclihnoedecaaGreatDoor
open Go.RowKit Go.Shelf Go.Lib
/-- Nothing that lies in a row of so many cells bears its mark. -/
def Unmarked (fz : Nat × Nat) (n : Nat) : Prop := fz.2 = 0 ∨ n ≤ fz.1
theorem stored_row (P : Program) (g : Nat) (t : TypeId) (fz : Nat × Nat) : ∀ (vs : List Value) (i o : Nat) (cur : Array Value) (w : World), w.heap[g]? = some (.cells cur t fz) → Unmarked fz cur.size → o + i + vs.length ≤ cur.size → (∀ v ∈ vs, v.oneCell' = true) →
    (storeCells ⟨g, o, none⟩ vs i).run P w = .ok () (w.setRow g (cur.toList.take (o + i) ++ vs ++ cur.toList.drop (o + i + vs.length)).toArray) := by
  intro vs
  induction vs with
  | nil =>
    intro i o cur w hg _ _ _
    simp only [storeCells, List.append_nil, List.length_nil, Nat.add_zero, List.take_append_drop, Array.toArray_toList]
    rw [setRow_self w g cur t fz hg]
    rfl
  | cons v rest IH =>
    intro i o cur w hg hfz hl h1
    rw [List.length_cons] at hl
    have hi : o + i < cur.size := by omega
    have hf : w.frozen? ((⟨g, o, none⟩ : Addr).add i) = false := by
      obtain ⟨lo, hi'⟩ := fz
      rw [Addr.add_mid]
      simp only [World.frozen?, hg, Bool.and_eq_false_iff, decide_eq_false_iff_not]
      rcases hfz with h | h
      · right; simp only at h; omega
      · left; simp only at h; omega
    have hc : w.cell? ((⟨g, o, none⟩ : Addr).add i) = some cur[o + i] := by rw [Addr.add_mid]; simp [World.cell?, hg, hi]
    have hs : (store ((⟨g, o, none⟩ : Addr).add i) v).run P w = .ok () (w.setRow g (cur.setIfInBounds (o + i) v)) := by
      rw [run_store P w _ v _ (h1 v (by simp)), hc]
      simp only [Addr.add_mid] at hf ⊢
      simp [hf, setCell_eq_setRow w g (o + i) cur t fz v hg]
    have ih := IH (i + 1) o (cur.setIfInBounds (o + i) v) (w.setRow g (cur.setIfInBounds (o + i) v)) (setRow_heap w g cur _ t _ hg) (by simpa using hfz) (by simp; omega) (fun x hx => h1 x (by simp [hx]))
    simp only [storeCells, Sem.run_bind, hs, Result.andThen_ok, ih, setRow_setRow]
    congr 3
    have e := list_seg_step cur.toList (o + i) v rest (by simp; omega)
    simpa [Array.toList_setIfInBounds, Nat.add_assoc] using e
/-- A row of bytes of one's own, which may bear a conversion's mark. -/
def OwnC (w : World) (base : Nat) (v : Value) (l : List UInt8) : Prop :=
  ∃ g cap cur fz, v = .slice (some ⟨g, 0, none⟩) l.length cap ∧ base ≤ g ∧ w.heap[g]? = some (.cells cur 5 fz) ∧ Unmarked fz cap ∧ l.length ≤ cap ∧ cap ≤ maxLen ∧ cur.size = cap ∧ cur.toList.take l.length = l.map vb
theorem strCells_vb (l : List UInt8) : strCells ⟨l.toArray⟩ = l.map vb := by
  unfold strCells
  exact List.map_congr_left (fun b _ => rfl)
theorem OwnC.cells {w : World} {base : Nat} {g cap n : Nat} {l : List UInt8} (h : OwnC w base (.slice (some ⟨g, 0, none⟩) n cap) l) : ∀ j u, (l.map vb)[j]? = some u → w.cell? ((⟨g, 0, none⟩ : Addr).add j) = some u := by
  obtain ⟨g', cap', cur, fz, he, _, hg, _, _, _, _, ht⟩ := h
  injection he with h1 h2 h3
  injection h1 with h1
  injection h1 with h1
  subst h1
  intro j u hu
  rw [← ht] at hu
  rw [Addr.add_mid, Nat.zero_add]
  have hj : cur[j]? = some u := by
    rw [List.getElem?_take] at hu
    split at hu
    · simpa using hu
    · cases hu
  simp [World.cell?, hg, hj]
theorem OwnC.bs {w : World} {base : Nat} {v : Value} {l : List UInt8} (h : OwnC w base v l) : ∃ g cap, v = .slice (some ⟨g, 0, none⟩) l.length cap ∧ base ≤ g ∧ g < w.heap.size ∧ Bs w g 0 l ∧ l.length ≤ cap ∧ cap ≤ 9223372036854775807 := by
  obtain ⟨g, cap, cur, fz, rfl, hb, hg, hu, hl, hm, hs, ht⟩ := id h
  refine ⟨g, cap, rfl, hb, (Array.getElem?_eq_some_iff.1 hg).1, fun j hj => ?_, hl, by unfold maxLen at hm; omega⟩
  have := h.cells j (vb l[j]) (by rw [List.getElem?_map, List.getElem?_eq_getElem hj]; rfl)
  rwa [Addr.add_mid] at this
theorem OwnC.kept {w w' : World} {base : Nat} {v : Value} {l : List UInt8} (h : OwnC w base v l) (hb : Below w.heap.size w w') : OwnC w' base v l := by
  obtain ⟨g, cap, cur, fz, rfl, h1, hg, h2⟩ := h
  exact ⟨g, cap, cur, fz, rfl, h1, by rw [hb.block g (Array.getElem?_eq_some_iff.1 hg).1]; exact hg, h2⟩
theorem OwnC.own {w : World} {base : Nat} {v : Value} {l : List UInt8} (h : OwnC w base v l) : ∀ k, v.ownBlock = some k → base ≤ k := by
  obtain ⟨g, cap, cur, fz, rfl, h1, _⟩ := h
  intro k hk
  cases hk; exact h1
theorem OwnC.low {w w' : World} {base : Nat} {v : Value} {l : List UInt8} (h : OwnC w base v l) (hg : w.grownBy w' v.ownBlock) (hb : base ≤ w.heap.size) : Below base w w' :=
  ⟨hg.os, hg.tape, hg.output, hg.size, fun i hi => hg.block i (by omega) (fun e => by have := h.own i e.symm; omega)⟩
/-- A text's conversion. -/
theorem conv_own (s : List UInt8) (w : World) (hs : s.length ≤ 100000) : ∃ v W, (convert 9 22 (str s)).run Tryz.prog w = .ok v W ∧ Below w.heap.size w W ∧ OwnC W w.heap.size v s ∧ w.heap.size < W.heap.size := by
  have hz : (ByteArray.mk s.toArray).size = s.length := by simp [ByteArray.size]
  have hge := grownCap_ge w s.length 0 5
  have hle := grownCap_le_maxLen w s.length 0 5 (by unfold maxLen; omega)
  refine ⟨_, _, Lib.run_convert_string_bytes w 9 22 5 ⟨s.toArray⟩ Tryz.underlying9 Tryz.underlying22 Tryz.underlying5, Lib.bytesWorld_below w _ _, ⟨w.heap.size, _, _, _, by rw [hz], Nat.le_refl _, Lib.bytesWorld_at_new w _ _, .inr ?_, hge, hle, ?_, ?_⟩, by rw [Lib.bytesWorld_size]; omega⟩
  · unfold bytesCells
    rw [hz]; simp; omega
  · unfold bytesCells
    rw [hz]; simp; omega
  · unfold bytesCells
    rw [Array.toList_append, List.take_append_of_le_length (by simp)]
    rw [List.take_of_length_le (by simp)]
    simp only [Array.toList_map]
    exact List.map_congr_left (fun b _ => rfl)
theorem appendS_run (w : World) (base : Nat) (ty : TypeId) (v : Value) (l ms : List UInt8) (hown : OwnC w base v l) (hlen : l.length + ms.length ≤ 1000000) (hbase : base ≤ w.heap.size) :
    ∃ v' w', (Builtin.append_ #[22, 9] ty #[v, str ms]).run Tryz.prog w = .ok v' w' ∧ OwnC w' base v' (l ++ ms) ∧ w.grownBy w' v.ownBlock := by
  obtain ⟨i0, hi, hz0, hz1, hz2⟩ := info_parts info_b
  obtain ⟨g, cap, cur, fz, rfl, hbg, hg, hfz, hnc, hcm, hcs, htake⟩ := id hown
  have hms : (ByteArray.mk ms.toArray).size = ms.length := by simp [ByteArray.size]
  by_cases hroom : l.length + ms.length ≤ cap
  · have hf := run_firstCells_string (P := Tryz.prog) w 1 ⟨ms.toArray⟩
    have hst := stored_row Tryz.prog g 5 fz (strCells ⟨ms.toArray⟩) 0 l.length cur w hg (by rw [hcs]; exact hfz) (by rw [strCells_length, hms]; omega) (strCells_oneCell _)
    simp only [Nat.add_zero, strCells_length, hms] at hst
    rw [hms] at hf
    refine ⟨.slice (some ⟨g, 0, none⟩) (l.length + ms.length) cap, w.setRow g (cur.toList.take l.length ++ strCells ⟨ms.toArray⟩ ++ cur.toList.drop (l.length + ms.length)).toArray, ?_, ⟨g, cap, _, fz, by rw [List.length_append], hbg, setRow_heap w g cur _ _ _ hg, hfz, by rw [List.length_append]; exact hroom, hcm, ?_, ?_⟩, ⟨rfl, rfl, rfl, by simp, fun k _ hk => setRow_other w g k _ (fun e => hk (by simp [Value.ownBlock, e]))⟩⟩
    · simp [Builtin.append_, run_underlying Tryz.underlying22, run_underlying Tryz.underlying9, sizeOf, typeInfo, hi, hz1, Builtin.lenOf, hms, hroom, hf, Addr.add_lit, hst]
    · simp only [List.size_toArray, List.length_append, List.length_take, List.length_drop, Array.length_toList, strCells_length, hms]
      omega
    · rw [strCells_vb, htake, ← List.map_append]
      exact List.take_left' (by simp)
  · have hr := run_append_grow_string (P := Tryz.prog) w 22 9 ty 5 i0 (.int .u8 0) Tryz.underlying22 Tryz.underlying9 hi hz0 ⟨g, 0, none⟩ l.length cap (l.map vb) (by rw [hz1]; simp) hown.cells ⟨ms.toArray⟩ (by rw [hms]; omega) (by rw [hms]; omega) (by rw [hms, hz2]; exact growslice_fits (by omega) (by omega))
    rw [hms] at hr
    have hge := grownCap_ge w (l.length + ms.length) cap 5
    have hcm2 := grownCap_le_maxLen w (l.length + ms.length) cap 5 (by unfold maxLen; omega)
    refine ⟨_, _, hr, ⟨w.heap.size, _, _, (0, 0), by rw [List.length_append], hbase, heap_alloc_new w.drew _, .inl rfl, by rw [List.length_append]; exact hge, hcm2, ?_, ?_⟩, ⟨rfl, rfl, rfl, by simp, fun k hk _ => heap_alloc_old w.drew _ hk⟩⟩
    · have hz : (Value.int IntKind.u8 0).cells.size = 1 := rfl
      simp only [Array.size_append, List.size_toArray, size_zeroCells, hz, List.length_map, strCells_length, hms]
      omega
    · rw [strCells_vb]
      simp only [Array.toList_append]
      rw [← List.map_append]
      exact List.take_left' (by simp)
theorem wpList_appS {w : World} {ops : Array Oper} {rest : List Oper} {o : Oper} {a : Act} {Q : Exit → Act → World → Prop} (hgd : o.guard = none) (s x : Operand) (ho : o.op = .call { callee := .builtin .append, args := #[s, x], argTypes := #[22, 9] })
    (base : Nat) (v : Value) (l ms : List UInt8) (hs : a.eval s = v) (hown : OwnC w base v l) (hx : a.eval x = str ms) (hlen : l.length + ms.length ≤ 1000000) (hbase : base ≤ w.heap.size)
    (h : ∀ v' w', OwnC w' base v' (l ++ ms) → w.grownBy w' v.ownBlock → wpList Tryz.prog ops Q rest (a.put o.dst v') w') : wpList Tryz.prog ops Q (o :: rest) a w := by
  refine wpList_plain hgd fun K hK => ?_
  obtain ⟨v', w', hr, h2, h3⟩ := appendS_run w base o.type v l ms hown hlen hbase
  unfold Oper.wp execOp
  simp only [ho, resolve, invoke, builtin, Sem.run_bind, Sem.run_pure, Result.andThen_ok, List.map_toArray, List.map_cons, List.map_nil, hs, hx, hr]
  exact hK _ _ (h v' w' h2 h3)
end Go.Proofs.YtajclihnoedecaaGreatDoor
namespace Go.Proofs.YtajclihnoedecaaGreatDoor
open Go
abbrev PrL := List (List UInt8 × List UInt8)
theorem reqT_eq (l : List UInt8) : reqT l = if tokB (Lib.cut l [32]).1 = true ∧ tgtB (Lib.cut (Lib.cut l [32]).2.1 [32]).1 = true ∧ (Lib.cut (Lib.cut l [32]).2.1 [32]).2.1 = verS
    then ((Lib.cut l [32]).1, (Lib.cut (Lib.cut l [32]).2.1 [32]).1, true) else ([], [], false) := by
  unfold reqT reqL
  split <;> (rename_i h; split at h <;> simp_all)
theorem tok_no (c : UInt8) (hc : tokS.contains c = false) {n : List UInt8} (h : tokB n = true) : ∀ x ∈ n, x ≠ c := by
  unfold tokB at h
  rw [Bool.and_eq_true, List.all_eq_true] at h
  intro x hx e
  subst e
  have := h.2 x hx
  rw [hc] at this
  cases this
theorem tgt_no {b : List UInt8} (h : tgtB b = true) : ∀ x ∈ b, seB x = true := by
  rw [tgt_se, Bool.and_eq_true, List.all_eq_true] at h
  exact h.2
theorem se_ne32 (x : UInt8) (h : seB x = true) : x ≠ 32 := fun e => by subst e; exact absurd h (by decide)
/-- A request's first line, and an answer's. -/
def askS (a b : List UInt8) : List UInt8 := a ++ 32 :: (b ++ 32 :: verS)
def ansS (st : Int) (a : List UInt8) : List UInt8 := verS ++ 32 :: (Lib.itoa st ++ 32 :: a)
theorem ask_iff (a b : List UInt8) : reqT (askS a b) = (a, b, true) ↔ tokB a = true ∧ tgtB b = true := by
  constructor
  · intro h
    rw [reqT_eq] at h
    split at h
    · rename_i hc
      injection h with h1 h2
      injection h2 with h2 _
      rw [h1] at hc
      rw [h2] at hc
      exact ⟨hc.1, hc.2.1⟩
    · injection h with _ h2
      injection h2 with _ h3
      cases h3
  · rintro ⟨h1, h2⟩
    have c1 : Lib.cut (askS a b) [32] = (a, b ++ 32 :: verS, true) := cut_of a _ 32 (tok_no 32 (by decide) h1)
    have c2 : Lib.cut (b ++ 32 :: verS) [32] = (b, verS, true) := cut_of b _ 32 (fun x hx => se_ne32 x (tgt_no h2 x hx))
    rw [reqT_eq, c1]
    simp only [c2]
    rw [if_pos ⟨h1, h2, trivial⟩]
def digS : List UInt8 := [48, 49, 50, 51, 52, 53, 54, 55, 56, 57]
def digB (i : Int) : UInt8 := digS.getD i.toNat 0
theorem itoa3N : ∀ n : Fin 900, decP (Lib.itoa ((n.val + 100 : Nat) : Int)) 100 999 = (((n.val + 100 : Nat) : Int), true) ∧ Lib.itoa ((n.val + 100 : Nat) : Int) = [digB (((n.val + 100 : Nat) : Int) / 100), digB (((n.val + 100 : Nat) : Int) / 10 % 10), digB (((n.val + 100 : Nat) : Int) % 10)] ∧ (Lib.itoa ((n.val + 100 : Nat) : Int)).all isD = true := by
  decide +kernel
theorem itoa3 (st : Int) (h0 : 100 ≤ st) (h1 : st ≤ 999) : decP (Lib.itoa st) 100 999 = (st, true) ∧ Lib.itoa st = [digB (st / 100), digB (st / 10 % 10), digB (st % 10)] ∧ (Lib.itoa st).all isD = true := by
  obtain ⟨k, rfl⟩ : ∃ k : Nat, st = ((k + 100 : Nat) : Int) := ⟨(st - 100).toNat, by omega⟩
  exact itoa3N ⟨k, by omega⟩
theorem decP_rng (s : List UInt8) (lo hi : Int) (h : (decP s lo hi).2 = true) : lo ≤ (decP s lo hi).1 ∧ (decP s lo hi).1 ≤ hi := by
  unfold decP at h ⊢
  rcases ends (Lib.atoiAll s) with ⟨v, hat⟩ | hat | hat
  · rw [hat] at h ⊢
    by_cases hc : Lib.itoa v = s ∧ lo ≤ v ∧ v ≤ hi
    · simp only [if_pos hc]
      exact ⟨hc.2.1, hc.2.2⟩
    · simp only [if_neg hc] at h
      cases h
  · rw [hat] at h; cases h
  · rw [hat] at h; cases h
theorem ans_iff (st : Int) (a : List UInt8) : ansT (ansS st a) = (st, a, true) ↔ (100 ≤ st ∧ st ≤ 999) ∧ txtB a = true := by
  constructor
  · intro h
    unfold ansT at h
    split at h
    · rename_i hc
      have hr := decP_rng _ _ _ hc.2.2.1
      injection h with h1 h2
      injection h2 with h2 _
      rw [h1] at hr
      rw [h2] at hc
      exact ⟨hr, hc.2.2.2⟩
    · injection h with _ h2
      injection h2 with _ h3
      cases h3
  · rintro ⟨⟨h0, h1⟩, h2⟩
    obtain ⟨t1, _, t3⟩ := itoa3 st h0 h1
    have c1 : Lib.cut (ansS st a) [32] = (verS, Lib.itoa st ++ 32 :: a, true) := cut_of verS _ 32 (by decide)
    have c2 : Lib.cut (Lib.itoa st ++ 32 :: a) [32] = (Lib.itoa st, a, true) := cut_of _ _ 32 (fun x hx => d_ne32 x (List.all_eq_true.1 t3 x hx))
    unfold ansT
    rw [c1]
    simp only [c2, t1]
    rw [if_pos ⟨trivial, trivial, trivial, h2⟩]
/-- A field's line. -/
def fldS (f : List UInt8 × List UInt8) : List UInt8 := f.1 ++ 58 :: 32 :: f.2
def fldOk (f : List UInt8 × List UInt8) : Bool := tokB f.1 && (txtB f.2 && (trimR f.2 == f.2))
theorem trimR_blank (v : List UInt8) : trimR (32 :: v) = trimR v := by
  unfold trimR
  rw [List.dropWhile_cons, if_pos (by decide)]
theorem fld_cut {n : List UInt8} (v : List UInt8) (h : tokB n = true) : Lib.cut (n ++ 58 :: 32 :: v) [58] = (n, 32 :: v, true) := cut_of n _ 58 (tok_no 58 (by decide) h)
theorem fld_iff (f : List UInt8 × List UInt8) : fieldT (fldS f) = (f.1, f.2, true) ↔ fldOk f = true := by
  unfold fldOk
  rw [Bool.and_eq_true, Bool.and_eq_true, beq_iff_eq, fieldT_eq]
  constructor
  · intro h
    split at h
    · rename_i hc
      injection h with h1 h2
      injection h2 with h2 _
      rw [h1] at hc
      rw [h2] at hc
      refine ⟨hc.2.1, hc.2.2, ?_⟩
      have c1 : Lib.cut (fldS f) [58] = (f.1, 32 :: f.2, true) := fld_cut f.2 hc.2.1
      rw [c1, trimS_R] at h2
      rw [← trimR_blank]
      exact h2
    · injection h with _ h2
      injection h2 with _ h3
      cases h3
  · rintro ⟨h1, h2, h3⟩
    have c1 : Lib.cut (fldS f) [58] = (f.1, 32 :: f.2, true) := fld_cut f.2 h1
    have c2 : Lib.trimS (32 :: f.2) [32, 9] = f.2 := by rw [trimS_R, trimR_blank]; exact h3
    rw [c1]
    simp only [c2]
    rw [if_pos ⟨trivial, h1, h2⟩]
theorem fieldL_of_T {l : List UInt8} {n v : List UInt8} (h : fieldT l = (n, v, true)) : fieldL l = some (n, v) := by
  unfold fieldT at h
  split at h
  · rename_i m t hm
    injection h with h1 h2
    injection h2 with h2 _
    rw [hm, h1, h2]
  · injection h with _ h2
    injection h2 with _ h3
    cases h3
theorem fieldsL_round : ∀ (fs : PrL), fs.all fldOk = true → fieldsL (fs.map fldS) = some fs
  | [], _ => rfl
  | f :: fs, h => by
    rw [List.all_cons, Bool.and_eq_true] at h
    rw [List.map_cons, fieldsL, fieldL_of_T ((fld_iff f).2 h.1)]
    show (fieldsL (fs.map fldS)).map (f :: ·) = _
    rw [fieldsL_round fs h.2]; rfl
def lnsL : List (List UInt8) → List UInt8
  | [] => []
  | l :: ls => l ++ 13 :: 10 :: lnsL ls
theorem flat_lns : ∀ ls, flatL ls = lnsL ls ++ [13, 10]
  | [] => rfl
  | l :: ls => by show l ++ 13 :: 10 :: flatL ls = l ++ 13 :: 10 :: lnsL ls ++ [13, 10]; rw [flat_lns ls]; simp
theorem lns_snoc : ∀ ls l, lnsL (ls ++ [l]) = lnsL ls ++ (l ++ [13, 10])
  | [], l => by simp [lnsL]
  | m :: ls, l => by show m ++ 13 :: 10 :: lnsL (ls ++ [l]) = (m ++ 13 :: 10 :: lnsL ls) ++ (l ++ [13, 10]); rw [lns_snoc ls l]; simp
theorem rl_lns : ∀ ls : List (List UInt8), (∀ l ∈ ls, lineOk l) → rl [] (lnsL ls) = ls.map fun l => (l, true)
  | [], _ => by unfold lnsL rl; simp
  | l :: ls, h => by
    show rl [] (l ++ 13 :: 10 :: lnsL ls) = _
    rw [rl_line l [] _ (h l (by simp)).2, rl_lns ls (fun x hx => h x (by simp [hx]))]; rfl
theorem flat_end (l : List UInt8) (ls : List (List UInt8)) : ∃ u, flatL (l :: ls) = u ++ crcr ∧ lnsL (l :: ls) = u ++ [13, 10] := by
  obtain ⟨m, ms, hm⟩ : ∃ m ms, l :: ls = ms ++ [m] := ⟨(l :: ls).getLast (by simp), (l :: ls).dropLast, (List.dropLast_concat_getLast (by simp)).symm⟩
  refine ⟨lnsL ms ++ m, ?_, ?_⟩
  · rw [flat_lns, hm, lns_snoc]; simp [crcr]
  · rw [hm, lns_snoc]; simp
theorem flat_endL (l : List UInt8) (ls : List (List UInt8)) (h : ∀ x ∈ l :: ls, lineOk x) (hn : (flatL (l :: ls)).length ≤ 4096) (t : List UInt8) : endL (flatL (l :: ls) ++ t) = ((flatL (l :: ls)).length : Int) - 4 := by
  obtain ⟨u, hu, _⟩ := flat_end l ls
  have ho := flat_occ (l :: ls) h
  rw [hu] at hn ho ⊢
  have hl : (u ++ crcr).length = u.length + 4 := by rw [List.length_append]; rfl
  have htk : (u ++ crcr ++ t).take 4096 = u ++ crcr ++ t.take (4096 - (u.length + 4)) := by
    rw [List.take_append, hl, List.take_of_length_le (by omega)]
  unfold endL
  rw [htk]
  obtain ⟨T, hT⟩ : ∃ T, T = t.take (4096 - (u.length + 4)) := ⟨_, rfl⟩
  rw [← hT]
  clear hT htk
  have hi : Lib.index (u ++ crcr ++ T) crcr = u.length := by
    refine Lib.index_first (by simp) ?_ ?_
    · unfold Lib.occAt
      rw [List.append_assoc, List.drop_left' rfl, List.isPrefixOf_iff_prefix]
      exact List.prefix_append _ _
    · intro j hj
      rw [← Bool.not_eq_true]
      intro e
      have : Lib.occAt (u ++ crcr) crcr j = true := by
        unfold Lib.occAt at e ⊢
        rw [List.isPrefixOf_iff_prefix] at e ⊢
        rw [List.drop_append_of_le_length (by rw [hl]; omega)] at e
        exact List.prefix_of_prefix_length_le e (List.prefix_append _ _) (by rw [List.length_drop, hl]; show 4 ≤ _; omega)
      have := ho j this
      rw [hl] at this
      omega
  rw [hi, hl]; omega
theorem flat_lines (l : List UInt8) (ls : List (List UInt8)) (h : ∀ x ∈ l :: ls, lineOk x) (hn : (flatL (l :: ls)).length ≤ 4096) (t : List UInt8) : headLines (flatL (l :: ls) ++ t) = l :: ls := by
  unfold headLines
  rw [flat_endL l ls h hn t]
  obtain ⟨u, hu, hv⟩ := flat_end l ls
  have hl : (flatL (l :: ls)).length = u.length + 4 := by rw [hu, List.length_append]; rfl
  have e : (flatL (l :: ls) ++ t).take ((((flatL (l :: ls)).length : Int) - 4).toNat + 2) = lnsL (l :: ls) := by
    rw [hv, show ((((flatL (l :: ls)).length : Int) - 4).toNat + 2) = u.length + 2 by omega, hu]
    rw [show u ++ crcr ++ t = (u ++ [13, 10]) ++ ([13, 10] ++ t) by simp [crcr]]
    exact List.take_left' (by simp)
  rw [e, linesL_rl, rl_lns _ h, List.map_map]
  show (l :: ls).map _ = _
  simp [Function.comp_def]
/-- What is printed is read again, whatever stands behind it. -/
theorem parse_round (st : List UInt8 → Bool) (l : List UInt8) (fs : PrL) (t : List UInt8) (h1 : st l = true) (h2 : lineOk l) (h3 : fs.all fldOk = true) (h4 : ∀ f ∈ fs, lineOk (fldS f)) (hn : (flatL (l :: fs.map fldS)).length ≤ 4096) (hf : fs.length ≤ 24) :
    parseL st (flatL (l :: fs.map fldS) ++ t) = (fs, ((flatL (l :: fs.map fldS)).length : Int), 0) := by
  have hok : ∀ x ∈ l :: fs.map fldS, lineOk x := by
    intro x hx
    rcases List.mem_cons.1 hx with rfl | hx
    · exact h2
    · obtain ⟨f, hf, rfl⟩ := List.mem_map.1 hx
      exact h4 f hf
  have hl : 4 ≤ (flatL (l :: fs.map fldS)).length := by
    obtain ⟨u, hu, _⟩ := flat_end l (fs.map fldS)
    rw [hu, List.length_append]; show 4 ≤ u.length + 4; omega
  unfold parseL
  rw [flat_endL l _ hok hn t, flat_lines l _ hok hn t, if_neg (by omega)]
  show (if st l = false then _ else match fieldsL (fs.map fldS) with
    | none => _
    | some fs => _) = _
  rw [if_neg (by rw [h1]; decide), fieldsL_round fs h3]
  show (if 24 < fs.length then _ else _) = _
  rw [if_neg (by omega)]
  congr 2
  omega
theorem tk_no13 (c : UInt8) (h : tokS.contains c = true) : c ≠ 13 := fun e => by subst e; exact absurd h (by decide +kernel)
theorem tx_no13 (c : UInt8) (h : txC c = true) : c ≠ 13 := fun e => by subst e; exact absurd h (by decide +kernel)
theorem se_no13 (c : UInt8) (h : seB c = true) : c ≠ 13 := fun e => by subst e; exact absurd h (by decide +kernel)
theorem ask_ok {a b : List UInt8} (h1 : tokB a = true) (h2 : tgtB b = true) : lineOk (askS a b) := by
  refine ⟨by simp [askS], fun c hc => ?_⟩
  unfold askS at hc
  simp only [List.mem_append, List.mem_cons] at hc
  rcases hc with hc | rfl | hc | rfl | hc
  · exact tok_no 13 (by decide) h1 c hc
  · decide
  · exact se_no13 c (tgt_no h2 c hc)
  · decide
  · intro e; subst e; exact absurd hc (by decide)
theorem ans_ok {st : Int} {a : List UInt8} (h0 : 100 ≤ st) (h1 : st ≤ 999) (h2 : txtB a = true) : lineOk (ansS st a) := by
  refine ⟨by simp [ansS], fun c hc => ?_⟩
  unfold ansS at hc
  simp only [List.mem_append, List.mem_cons] at hc
  rcases hc with hc | rfl | hc | rfl | hc
  · intro e; subst e; exact absurd hc (by decide)
  · decide
  · intro e
    subst e
    have := List.all_eq_true.1 (itoa3 st h0 h1).2.2 13 hc
    exact absurd this (by decide)
  · decide
  · exact tx_no13 c (List.all_eq_true.1 h2 c hc)
theorem fld_ok {f : List UInt8 × List UInt8} (h : fldOk f = true) : lineOk (fldS f) := by
  unfold fldOk at h
  rw [Bool.and_eq_true, Bool.and_eq_true] at h
  refine ⟨by simp [fldS], fun c hc => ?_⟩
  unfold fldS at hc
  simp only [List.mem_append, List.mem_cons] at hc
  rcases hc with hc | rfl | rfl | hc
  · exact tok_no 13 (by decide) h.1 c hc
  · decide
  · decide
  · exact tx_no13 c (List.all_eq_true.1 h.2.1 c hc)
/-- The first line of a head, whether it may be one, and what is printed: the bytes, and the errno. -/
def firstS (asks : Bool) (a b : List UInt8) (st : Int) : List UInt8 := if asks then askS a b else ansS st a
def firstOk (asks : Bool) (a b : List UInt8) (st : Int) : Bool := if asks then tokB a && tgtB b else (decide (100 ≤ st) && decide (st ≤ 999)) && txtB a
def codeL (ok : Bool) (l : List UInt8) (fs : PrL) : Int := if (ok && fs.all fldOk) = false then 4 else if 4096 < (flatL (l :: fs.map fldS)).length ∨ 24 < fs.length then 3 else 0
theorem lns_pos (l : List UInt8) (ls : List (List UInt8)) : 4 ≤ (flatL (l :: ls)).length := by
  obtain ⟨u, hu, _⟩ := flat_end l ls
  rw [hu, List.length_append]; show 4 ≤ u.length + 4; omega
end Go.Proofs.YtajclihnoedecaaGreatDoor
set_option maxRecDepth 100000
namespace Go.Proofs.YtajclihnoedecaaGreatDoor
open Go.RowKit Go.Shelf
/-- What is printed: the bytes, or the errno. -/
def PrintR (w : World) (x : Int) (F : List UInt8) (e : Ending) (w' : World) : Prop :=
  ∃ v, e = .returned (.tuple #[v, .int .i64 x]) ∧ (x = 0 → ∃ g c, v = .slice (some ⟨g, 0, none⟩) F.length c ∧ w.heap.size ≤ g ∧ g < w'.heap.size ∧ Bs w' g 0 F ∧ F.length ≤ c ∧ c ≤ 9223372036854775807) ∧ (x ≠ 0 → v = .slice none 0 0) ∧ Below w.heap.size w w'
theorem fld_strP (n v : List UInt8) : Value.string (ByteArray.mk n.toArray ++ ByteArray.mk #[58] ++ ByteArray.mk #[32] ++ ByteArray.mk v.toArray) = str (n ++ [58] ++ [32] ++ v) :=
  congrArg Value.string (by rw [← str_app, ← str_app, ← str_app])
theorem crlf_str (l : List UInt8) : Value.string (ByteArray.mk l.toArray ++ ByteArray.mk #[13, 10]) = str (l ++ [13, 10]) := congrArg Value.string (by rw [← str_app])
theorem fldS_app (f : List UInt8 × List UInt8) : f.1 ++ [58] ++ [32] ++ f.2 = fldS f := by simp [fldS]
/-- A field of a head is printed as it is read. -/
def fldE (f : List UInt8 × List UInt8) : Bool := (fieldT (fldS f)).2.2 && ((fieldT (fldS f)).1 == f.1 && (fieldT (fldS f)).2.1 == f.2)
theorem fldE_ok (f : List UInt8 × List UInt8) : fldE f = fldOk f := by
  have h := fld_iff f
  rw [Bool.eq_iff_iff, ← h]
  unfold fldE
  rw [Bool.and_eq_true, Bool.and_eq_true, beq_iff_eq, beq_iff_eq]
  constructor
  · rintro ⟨h1, h2, h3⟩
    exact Prod.ext h2 (Prod.ext h3 h1)
  · intro e
    rw [e]
    exact ⟨rfl, rfl, rfl⟩
theorem lns_len : ∀ (fs : PrL), (∀ x ∈ fs, x.1.length ≤ 12 ∧ x.2.length ≤ 2000) → (lnsL (fs.map fldS)).length ≤ fs.length * 2020
  | [], _ => by simp [lnsL]
  | f :: fs, h => by
    have ih := lns_len fs (fun x hx => h x (by simp [hx]))
    have h1 := h f (by simp)
    show (fldS f ++ 13 :: 10 :: lnsL (fs.map fldS)).length ≤ _
    simp [fldS]; omega
theorem str_ne {a b : List UInt8} (h : a ≠ b) : ((⟨a.toArray⟩ : ByteArray) == ⟨b.toArray⟩) = false := by
  show (a.toArray == b.toArray) = false
  rw [beq_eq_false_iff_ne]
  intro e
  exact h (by simpa using e)
set_option maxHeartbeats 2000000 in
theorem encode_any (S : List UInt8) (V : Bool) (v0 : Value) (xs : Prs) (w : World) (hE : Env w) (hv : PrIn w v0 xs) (hl : xs.length ≤ 27) (hm : ∀ x ∈ xs, x.1.length ≤ 12 ∧ x.2.length ≤ 2000) (hS : S.length ≤ 2700) :
    Calls Tryz.prog 39 #[str S, .bool V, v0] w (PrintR w (codeL V S xs) (flatL (S :: xs.map fldS))) := by
  obtain ⟨v1, W1, hr1, hB1, hO1, hlt1⟩ := conv_own (S ++ [13, 10]) w (by simp; omega)
  have HR1 := Lib.hid hr1
  have HB1 := Lib.hid hB1
  have HO1 := Lib.hid hO1
  have HV := Lib.hid hv
  have HE := Lib.hid hE
  have HM := Lib.hid hm
  have hstr : ByteArray.mk S.toArray ++ ByteArray.mk #[13, 10] = ByteArray.mk (S ++ [13, 10]).toArray := str_app S [13, 10]
  obtain ⟨A0, c0, rfl, hc0, hcm0, _⟩ := hv
  obtain ⟨S1, hS1⟩ : ∃ S1, S1 = S ++ [13, 10] := ⟨_, rfl⟩
  rw [← hS1] at hr1 hstr HO1
  have hS1l : S1.length ≤ 2702 := by rw [hS1]; simp; omega
  have HS1 := Lib.hid hS1
  clear hB1 hO1 hm hS1 HR1 hE
  go_enter Tryz.func39, Tryz.ntmps39
  go_wp2_with fail
  go_loopw [1, 8, 19] (fun okv ov i wr => ∃ (k : Nat) (okb : Bool) (s : List UInt8), k ≤ xs.length ∧ i = .int .i64 (k : Int) ∧ okv = .bool okb ∧ okb = (V && (xs.take k).all fldOk) ∧ s = lnsL (S :: (xs.take k).map fldS) ∧ OwnC wr w.heap.size ov s ∧ Below w.heap.size w wr) (fun _ _ i _ => xs.length - (intOf i).toNat)
  case atStart => exact ⟨0, V, S1, by omega, rfl, rfl, by simp, by rw [HS1.out]; simp [lnsL], HO1.out, HB1.out⟩
  case round =>
    obtain ⟨k, okb, s, hk, rfl, rfl, hok, hs, hown, hb⟩ := hrel
    have hsl : s.length ≤ 2702 + k * 2020 := by
      have h1 := lns_len (xs.take k) (fun x hx => HM.out x (List.mem_of_mem_take hx))
      rw [List.length_take, Nat.min_eq_left hk] at h1
      rw [hs]
      show (S ++ 13 :: 10 :: lnsL ((xs.take k).map fldS)).length ≤ _
      simp at h1 ⊢; omega
    have HOK := Lib.hid hok
    have HSS := Lib.hid hs
    have HOW := Lib.hid hown
    have HB := Lib.hid hb
    obtain ⟨gs, cs, rfl, hgs, hgs2, _, hcs, hcs2⟩ := hown.bs
    by_cases hlt : k < xs.length
    · obtain ⟨A', c', he, _, _, hin⟩ := HV.out.below hb
      injection he with he1 he2 he3
      subst he1 he3
      obtain ⟨g, o, rfl, d0, d1⟩ := hin k hlt
      have hbx := HM.out xs[k] (List.getElem_mem hlt)
      have hts : xs.take (k + 1) = xs.take k ++ [xs[k]] := take_snocG xs k hlt
      obtain ⟨x, hx⟩ : ∃ x, x = xs[k] := ⟨_, rfl⟩
      rw [← hx] at d0 d1 hbx hts
      have hns : s ++ (fldS x ++ [13, 10]) = lnsL (S :: (xs.take (k + 1)).map fldS) := by
        rw [hts, List.map_append, hs, ← List.cons_append]
        show _ = lnsL (S :: (xs.take k).map fldS ++ [fldS x])
        rw [lns_snoc]
      have hnok : (okb && fldOk x) = (V && (xs.take (k + 1)).all fldOk) := by
        rw [hts, List.all_append, hok, Bool.and_assoc]
        simp
      rw [← fldE_ok] at hnok
      have HNS := Lib.hid hns
      have HNOK := Lib.hid hnok
      clear hx hin he2 hts hns hnok hok hs
      obtain ⟨q, r⟩ := x
      simp only at d0 d1 hbx
      obtain ⟨hq1, hr1'⟩ := hbx
      have hfs := fld_strP q r
      have hfe : q ++ [58] ++ [32] ++ r = fldS (q, r) := fldS_app (q, r)
      rw [hfe] at hfs
      have hfl : (fldS (q, r)).length ≤ 2014 := by simp [fldS]; omega
      obtain ⟨FS, hFS⟩ : ∃ FS, FS = fldS (q, r) := ⟨_, rfl⟩
      rw [← hFS] at hfs hfl
      have hcl := str_app FS [13, 10]
      have HF := Lib.hid (fun W (hE : Env W) => field_any FS W hE (by omega))
      have hT : fldE (q, r) = ((fieldT FS).2.2 && ((fieldT FS).1 == q && (fieldT FS).2.1 == r)) := by rw [hFS]; rfl
      have HNS2 : Hid (s ++ (FS ++ [13, 10]) = lnsL (S :: (xs.take (k + 1)).map fldS)) := Lib.hid (by rw [hFS]; exact HNS.out)
      obtain ⟨R, hR⟩ : ∃ R, R = fieldT FS := ⟨_, rfl⟩
      rw [← hR] at HF hT
      have hNK : (okb && (R.2.2 && (R.1 == q && R.2.1 == r))) = (V && (xs.take (k + 1)).all fldOk) := by rw [← hT]; exact HNOK.out
      have HNK := Lib.hid hNK
      clear hFS hR hT hNK HNOK HNS hfe
      obtain ⟨T1, T2, T3⟩ := R
      simp only at HF HNK
      have hba := hb.alloc hb.size (.cells #[str q, str r] 51)
      have HEA := Lib.hid (HE.out.below hba)
      have HBA := Lib.hid hba
      have HKA := Lib.hid (Blk.new wr [str q, str r] 51)
      clear hba hown hb
      cases okb
      · have HNK2 : Hid (false = (V && (xs.take (k + 1)).all fldOk)) := Lib.hid (by rw [← HNK.out]; rfl)
        go_wp2_with fail
        refine (HF.out _ HEA.out).mono ?_
        rintro e w2 ⟨rfl, hB⟩
        have hba := HBA.out.trans (hB.mono HBA.out.size)
        have HB2 := Lib.hid (hba.alloc hba.size (.cells #[str T1, str T2] 51))
        have HO2 := Lib.hid (((HOW.out.kept ((Below.refl _ wr).alloc (Nat.le_refl _) (.cells #[str q, str r] 51))).kept hB).kept ((Below.refl _ w2).alloc (Nat.le_refl _) (.cells #[str T1, str T2] 51)))
        have hk1 := (HKA.out.below hB (by simp)).alloc (.cells #[str T1, str T2] 51)
        have k0 := hk1.at (o := 0) rfl
        have k1 := hk1.at (o := 1) rfl
        have hz2 : wr.heap.size < w2.heap.size := (HKA.out.below hB (by simp)).lt
        clear hk1 hba hB HF HEA HBA HKA HNK
        go_wp2_with (at_builtin; ((with_reducible refine wpList_appS ?g1 (.tmp 44) (.tmp 46) ?g2 w.heap.size (.slice (some ⟨gs, 0, none⟩) s.length cs) s (FS ++ [13, 10]) ?g3 ?g4 ?g5 ?g6 ?g7 ?_); (case g1 => rfl); (case g2 => rfl); (case g3 => rfl); (case g4 => exact HO2.out); (case g5 => exact congrArg Value.string hcl); (case g6 => simp; omega); (case g7 => have := HB2.out.size; simp at this ⊢; omega); intro v4 w4 hv4 hg4; have HO4 := Lib.hid hv4; have HB4 := Lib.hid (HB2.out.trans (HO2.out.low hg4 HB2.out.size)); clear hv4 hg4))
        go_roundw
        case rel => exact ⟨k + 1, false, _, by omega, by go_num, rfl, HNK2.out, HNS2.out, HO4.out, HB4.out⟩
        case measure => simp [intOf]; omega
      · cases T3
        · have HNK2 : Hid (false = (V && (xs.take (k + 1)).all fldOk)) := Lib.hid (by rw [← HNK.out]; rfl)
          go_wp2_with fail
          refine (HF.out _ HEA.out).mono ?_
          rintro e w2 ⟨rfl, hB⟩
          have hba := HBA.out.trans (hB.mono HBA.out.size)
          have HB2 := Lib.hid (hba.alloc hba.size (.cells #[str T1, str T2] 51))
          have HO2 := Lib.hid (((HOW.out.kept ((Below.refl _ wr).alloc (Nat.le_refl _) (.cells #[str q, str r] 51))).kept hB).kept ((Below.refl _ w2).alloc (Nat.le_refl _) (.cells #[str T1, str T2] 51)))
          have hk1 := (HKA.out.below hB (by simp)).alloc (.cells #[str T1, str T2] 51)
          have k0 := hk1.at (o := 0) rfl
          have k1 := hk1.at (o := 1) rfl
          have hz2 : wr.heap.size < w2.heap.size := (HKA.out.below hB (by simp)).lt
          clear hk1 hba hB HF HEA HBA HKA HNK
          go_wp2_with (at_builtin; ((with_reducible refine wpList_appS ?g1 (.tmp 44) (.tmp 46) ?g2 w.heap.size (.slice (some ⟨gs, 0, none⟩) s.length cs) s (FS ++ [13, 10]) ?g3 ?g4 ?g5 ?g6 ?g7 ?_); (case g1 => rfl); (case g2 => rfl); (case g3 => rfl); (case g4 => exact HO2.out); (case g5 => exact congrArg Value.string hcl); (case g6 => simp; omega); (case g7 => have := HB2.out.size; simp at this ⊢; omega); intro v4 w4 hv4 hg4; have HO4 := Lib.hid hv4; have HB4 := Lib.hid (HB2.out.trans (HO2.out.low hg4 HB2.out.size)); clear hv4 hg4))
          go_roundw
          case rel => exact ⟨k + 1, false, _, by omega, by go_num, rfl, HNK2.out, HNS2.out, HO4.out, HB4.out⟩
          case measure => simp [intOf]; omega
        · by_cases e1 : T1 = q
          · by_cases e2 : T2 = r
            · subst e1; subst e2
              have HNK2 : Hid (true = (V && (xs.take (k + 1)).all fldOk)) := Lib.hid (by rw [← HNK.out]; simp)
              go_wp2_with fail
              refine (HF.out _ HEA.out).mono ?_
              rintro e w2 ⟨rfl, hB⟩
              have hba := HBA.out.trans (hB.mono HBA.out.size)
              have HB2 := Lib.hid (hba.alloc hba.size (.cells #[str T1, str T2] 51))
              have HO2 := Lib.hid (((HOW.out.kept ((Below.refl _ wr).alloc (Nat.le_refl _) (.cells #[str T1, str T2] 51))).kept hB).kept ((Below.refl _ w2).alloc (Nat.le_refl _) (.cells #[str T1, str T2] 51)))
              have hk1 := (HKA.out.below hB (by simp)).alloc (.cells #[str T1, str T2] 51)
              have k0 := hk1.at (o := 0) rfl
              have k1 := hk1.at (o := 1) rfl
              have hz2 : wr.heap.size < w2.heap.size := (HKA.out.below hB (by simp)).lt
              clear hk1 hba hB HF HEA HBA HKA HNK
              go_wp2_with (at_builtin; ((with_reducible refine wpList_appS ?g1 (.tmp 44) (.tmp 46) ?g2 w.heap.size (.slice (some ⟨gs, 0, none⟩) s.length cs) s (FS ++ [13, 10]) ?g3 ?g4 ?g5 ?g6 ?g7 ?_); (case g1 => rfl); (case g2 => rfl); (case g3 => rfl); (case g4 => exact HO2.out); (case g5 => exact congrArg Value.string hcl); (case g6 => simp; omega); (case g7 => have := HB2.out.size; simp at this ⊢; omega); intro v4 w4 hv4 hg4; have HO4 := Lib.hid hv4; have HB4 := Lib.hid (HB2.out.trans (HO2.out.low hg4 HB2.out.size)); clear hv4 hg4))
              go_roundw
              case rel => exact ⟨k + 1, true, _, by omega, by go_num, rfl, HNK2.out, HNS2.out, HO4.out, HB4.out⟩
              case measure => simp [intOf]; omega
            · subst e1
              have HNK2 : Hid (false = (V && (xs.take (k + 1)).all fldOk)) := Lib.hid (by rw [← HNK.out]; simp [e2])
              have hne := str_ne e2
              go_wp2_with fail
              refine (HF.out _ HEA.out).mono ?_
              rintro e w2 ⟨rfl, hB⟩
              have hba := HBA.out.trans (hB.mono HBA.out.size)
              have HB2 := Lib.hid (hba.alloc hba.size (.cells #[str T1, str T2] 51))
              have HO2 := Lib.hid (((HOW.out.kept ((Below.refl _ wr).alloc (Nat.le_refl _) (.cells #[str T1, str r] 51))).kept hB).kept ((Below.refl _ w2).alloc (Nat.le_refl _) (.cells #[str T1, str T2] 51)))
              have hk1 := (HKA.out.below hB (by simp)).alloc (.cells #[str T1, str T2] 51)
              have k0 := hk1.at (o := 0) rfl
              have k1 := hk1.at (o := 1) rfl
              have hz2 : wr.heap.size < w2.heap.size := (HKA.out.below hB (by simp)).lt
              clear hk1 hba hB HF HEA HBA HKA HNK
              go_wp2_with (at_builtin; ((with_reducible refine wpList_appS ?g1 (.tmp 44) (.tmp 46) ?g2 w.heap.size (.slice (some ⟨gs, 0, none⟩) s.length cs) s (FS ++ [13, 10]) ?g3 ?g4 ?g5 ?g6 ?g7 ?_); (case g1 => rfl); (case g2 => rfl); (case g3 => rfl); (case g4 => exact HO2.out); (case g5 => exact congrArg Value.string hcl); (case g6 => simp; omega); (case g7 => have := HB2.out.size; simp at this ⊢; omega); intro v4 w4 hv4 hg4; have HO4 := Lib.hid hv4; have HB4 := Lib.hid (HB2.out.trans (HO2.out.low hg4 HB2.out.size)); clear hv4 hg4))
              go_roundw
              case rel => exact ⟨k + 1, false, _, by omega, by go_num, rfl, HNK2.out, HNS2.out, HO4.out, HB4.out⟩
              case measure => simp [intOf]; omega
          · have HNK2 : Hid (false = (V && (xs.take (k + 1)).all fldOk)) := Lib.hid (by rw [← HNK.out]; simp [e1])
            have hne := str_ne e1
            go_wp2_with fail
            refine (HF.out _ HEA.out).mono ?_
            rintro e w2 ⟨rfl, hB⟩
            have hba := HBA.out.trans (hB.mono HBA.out.size)
            have HB2 := Lib.hid (hba.alloc hba.size (.cells #[str T1, str T2] 51))
            have HO2 := Lib.hid (((HOW.out.kept ((Below.refl _ wr).alloc (Nat.le_refl _) (.cells #[str q, str r] 51))).kept hB).kept ((Below.refl _ w2).alloc (Nat.le_refl _) (.cells #[str T1, str T2] 51)))
            have hk1 := (HKA.out.below hB (by simp)).alloc (.cells #[str T1, str T2] 51)
            have k0 := hk1.at (o := 0) rfl
            have k1 := hk1.at (o := 1) rfl
            have hz2 : wr.heap.size < w2.heap.size := (HKA.out.below hB (by simp)).lt
            clear hk1 hba hB HF HEA HBA HKA HNK
            go_wp2_with (at_builtin; ((with_reducible refine wpList_appS ?g1 (.tmp 44) (.tmp 46) ?g2 w.heap.size (.slice (some ⟨gs, 0, none⟩) s.length cs) s (FS ++ [13, 10]) ?g3 ?g4 ?g5 ?g6 ?g7 ?_); (case g1 => rfl); (case g2 => rfl); (case g3 => rfl); (case g4 => exact HO2.out); (case g5 => exact congrArg Value.string hcl); (case g6 => simp; omega); (case g7 => have := HB2.out.size; simp at this ⊢; omega); intro v4 w4 hv4 hg4; have HO4 := Lib.hid hv4; have HB4 := Lib.hid (HB2.out.trans (HO2.out.low hg4 HB2.out.size)); clear hv4 hg4))
            go_roundw
            case rel => exact ⟨k + 1, false, _, by omega, by go_num, rfl, HNK2.out, HNS2.out, HO4.out, HB4.out⟩
            case measure => simp [intOf]; omega
    · obtain rfl : k = xs.length := by omega
      have hF : s ++ [13, 10] = flatL (S :: xs.map fldS) := by rw [flat_lns, hs, List.take_length]
      have hcode : codeL V S xs = if okb = false then 4 else if 4096 < (s ++ [13, 10]).length ∨ 24 < xs.length then 3 else 0 := by
        unfold codeL
        rw [hF, hok, List.take_length]
      have hFl : (s ++ [13, 10]).length ≤ 60000 := by simp; omega
      obtain ⟨F, hFE⟩ : ∃ F, F = s ++ [13, 10] := ⟨_, rfl⟩
      rw [← hFE] at hFl hF hcode
      have HFL := Lib.hid hF.symm
      have HFE := Lib.hid hFE
      clear hF hok hs HOK HSS hFE hown hb
      cases okb
      · rw [if_pos rfl] at hcode
        have HC := Lib.hid hcode; clear hcode
        go_wp2_with (at_builtin; ((with_reducible refine wpList_appS ?g1 (.tmp 49) (.const (.string ⟨#[13, 10]⟩)) ?g2 w.heap.size (.slice (some ⟨gs, 0, none⟩) s.length cs) s [13, 10] ?g3 ?g4 ?g5 ?g6 ?g7 ?_); (case g1 => rfl); (case g2 => rfl); (case g3 => rfl); (case g4 => exact HOW.out); (case g5 => rfl); (case g6 => simp; omega); (case g7 => exact HB.out.size); intro v4 w4 hv4 hg4; rw [← HFE.out] at hv4; have HB4 := Lib.hid (HB.out.trans (HOW.out.low hg4 HB.out.size)); obtain ⟨g4, c4, rfl, hb4, hl4, hbs4, hc4, hcm4⟩ := hv4.bs; have HBS4 := Lib.hid (And.intro hb4 (And.intro hl4 (And.intro hbs4 (And.intro hc4 hcm4)))); clear hv4 hg4 hb4 hl4 hbs4))
        exact bodyPost_ret (v := .tuple #[.slice none 0 0, .int .i64 4]) (by simp [results, Tryz.results39, go_sem]) rfl (by rw [HC.out, HFL.out]; exact ⟨_, rfl, fun h => absurd h (by decide), fun _ => rfl, HB4.out⟩)
      · rw [if_neg (by decide)] at hcode
        by_cases h5 : (4096 : Int) < (F.length : Int)
        · rw [if_pos (by omega)] at hcode
          have HC := Lib.hid hcode; clear hcode
          go_wp2_with (at_builtin; ((with_reducible refine wpList_appS ?g1 (.tmp 49) (.const (.string ⟨#[13, 10]⟩)) ?g2 w.heap.size (.slice (some ⟨gs, 0, none⟩) s.length cs) s [13, 10] ?g3 ?g4 ?g5 ?g6 ?g7 ?_); (case g1 => rfl); (case g2 => rfl); (case g3 => rfl); (case g4 => exact HOW.out); (case g5 => rfl); (case g6 => simp; omega); (case g7 => exact HB.out.size); intro v4 w4 hv4 hg4; rw [← HFE.out] at hv4; have HB4 := Lib.hid (HB.out.trans (HOW.out.low hg4 HB.out.size)); obtain ⟨g4, c4, rfl, hb4, hl4, hbs4, hc4, hcm4⟩ := hv4.bs; have HBS4 := Lib.hid (And.intro hb4 (And.intro hl4 (And.intro hbs4 (And.intro hc4 hcm4)))); clear hv4 hg4 hb4 hl4 hbs4))
          exact bodyPost_ret (v := .tuple #[.slice none 0 0, .int .i64 3]) (by simp [results, Tryz.results39, go_sem]) rfl (by rw [HC.out, HFL.out]; exact ⟨_, rfl, fun h => absurd h (by decide), fun _ => rfl, HB4.out⟩)
        · by_cases h6 : (24 : Int) < (xs.length : Int)
          · rw [if_pos (by omega)] at hcode
            have HC := Lib.hid hcode; clear hcode
            go_wp2_with (at_builtin; ((with_reducible refine wpList_appS ?g1 (.tmp 49) (.const (.string ⟨#[13, 10]⟩)) ?g2 w.heap.size (.slice (some ⟨gs, 0, none⟩) s.length cs) s [13, 10] ?g3 ?g4 ?g5 ?g6 ?g7 ?_); (case g1 => rfl); (case g2 => rfl); (case g3 => rfl); (case g4 => exact HOW.out); (case g5 => rfl); (case g6 => simp; omega); (case g7 => exact HB.out.size); intro v4 w4 hv4 hg4; rw [← HFE.out] at hv4; have HB4 := Lib.hid (HB.out.trans (HOW.out.low hg4 HB.out.size)); obtain ⟨g4, c4, rfl, hb4, hl4, hbs4, hc4, hcm4⟩ := hv4.bs; have HBS4 := Lib.hid (And.intro hb4 (And.intro hl4 (And.intro hbs4 (And.intro hc4 hcm4)))); clear hv4 hg4 hb4 hl4 hbs4))
            exact bodyPost_ret (v := .tuple #[.slice none 0 0, .int .i64 3]) (by simp [results, Tryz.results39, go_sem]) rfl (by rw [HC.out, HFL.out]; exact ⟨_, rfl, fun h => absurd h (by decide), fun _ => rfl, HB4.out⟩)
          · rw [if_neg (by omega)] at hcode
            have HC := Lib.hid hcode; clear hcode
            go_wp2_with (at_builtin; ((with_reducible refine wpList_appS ?g1 (.tmp 49) (.const (.string ⟨#[13, 10]⟩)) ?g2 w.heap.size (.slice (some ⟨gs, 0, none⟩) s.length cs) s [13, 10] ?g3 ?g4 ?g5 ?g6 ?g7 ?_); (case g1 => rfl); (case g2 => rfl); (case g3 => rfl); (case g4 => exact HOW.out); (case g5 => rfl); (case g6 => simp; omega); (case g7 => exact HB.out.size); intro v4 w4 hv4 hg4; rw [← HFE.out] at hv4; have HB4 := Lib.hid (HB.out.trans (HOW.out.low hg4 HB.out.size)); obtain ⟨g4, c4, rfl, hb4, hl4, hbs4, hc4, hcm4⟩ := hv4.bs; have HBS4 := Lib.hid (And.intro hb4 (And.intro hl4 (And.intro hbs4 (And.intro hc4 hcm4)))); clear hv4 hg4 hb4 hl4 hbs4))
            exact bodyPost_ret (v := .tuple #[.slice (some ⟨g4, 0, none⟩) F.length c4, .int .i64 0]) (by simp [results, Tryz.results39, go_sem]) rfl (by rw [HC.out, HFL.out]; exact ⟨_, rfl, fun _ => ⟨g4, c4, rfl, HBS4.out.1, HBS4.out.2.1, HBS4.out.2.2.1, HBS4.out.2.2.2.1, HBS4.out.2.2.2.2⟩, fun h => absurd rfl h, HB4.out⟩)
end Go.Proofs.YtajclihnoedecaaGreatDoor
set_option maxRecDepth 100000
namespace Go.Proofs.YtajclihnoedecaaGreatDoor
open Go.RowKit Go.Shelf
attribute [local go_sem] Oper.semAt_some
theorem PrintR.lift {w w1 w2 : World} {x : Int} {F : List UInt8} {e : Ending} (h : PrintR w1 x F e w2) (hb : Below w.heap.size w w1) : PrintR w x F e w2 := by
  obtain ⟨v, h1, h2, h3, h4⟩ := h
  refine ⟨v, h1, fun hx => ?_, h3, hb.trans (h4.mono hb.size)⟩
  obtain ⟨g, c, e1, e2, e3⟩ := h2 hx
  exact ⟨g, c, e1, Nat.le_trans hb.size e2, e3⟩
theorem ask_bool (a b : List UInt8) : ((reqT (askS a b)).2.2 && ((reqT (askS a b)).1 == a && (reqT (askS a b)).2.1 == b)) = (tokB a && tgtB b) := by
  have h := ask_iff a b
  rw [Bool.eq_iff_iff, Bool.and_eq_true, Bool.and_eq_true, Bool.and_eq_true, beq_iff_eq, beq_iff_eq, ← h]
  constructor
  · rintro ⟨h1, h2, h3⟩
    exact Prod.ext h2 (Prod.ext h3 h1)
  · intro e
    rw [e]
    exact ⟨rfl, rfl, rfl⟩
theorem ans_bool (st : Int) (a : List UInt8) : ((ansT (ansS st a)).2.2 && ((ansT (ansS st a)).1 == st && (ansT (ansS st a)).2.1 == a)) = ((decide (100 ≤ st) && decide (st ≤ 999)) && txtB a) := by
  have h := ans_iff st a
  rw [Bool.eq_iff_iff, Bool.and_eq_true, Bool.and_eq_true, Bool.and_eq_true, Bool.and_eq_true, beq_iff_eq, beq_iff_eq, decide_eq_true_eq, decide_eq_true_eq, ← h]
  constructor
  · rintro ⟨h1, h2, h3⟩
    exact Prod.ext h2 (Prod.ext h3 h1)
  · intro e
    rw [e]
    exact ⟨rfl, rfl, rfl⟩
theorem ask_strP (a b : List UInt8) : Value.string (ByteArray.mk a.toArray ++ ByteArray.mk #[32] ++ ByteArray.mk b.toArray ++ ByteArray.mk #[32] ++ ByteArray.mk #[72, 84, 84, 80, 47, 49, 46, 49]) = str (askS a b) :=
  (congrArg Value.string (by rw [← str_app, ← str_app, ← str_app, ← str_app]; rfl)).trans (congrArg str (show a ++ [32] ++ b ++ [32] ++ verS = askS a b by simp [askS]))
theorem ans_strP (d a : List UInt8) : Value.string (ByteArray.mk #[72, 84, 84, 80, 47, 49, 46, 49, 32] ++ ByteArray.mk d.toArray ++ ByteArray.mk #[32] ++ ByteArray.mk a.toArray) = str (verS ++ 32 :: (d ++ 32 :: a)) :=
  (congrArg Value.string (by rw [← str_app, ← str_app, ← str_app]; rfl)).trans (congrArg str (show ver9 ++ d ++ [32] ++ a = verS ++ 32 :: (d ++ 32 :: a) by simp [ver9, verS]))
set_option maxHeartbeats 2000000 in
theorem reqBytes_any (a b : List UInt8) (v0 : Value) (xs : Prs) (w : World) (hE : Env w) (hv : PrIn w v0 xs) (hl : xs.length ≤ 27) (hm : ∀ x ∈ xs, x.1.length ≤ 12 ∧ x.2.length ≤ 2000) (ha : a.length ≤ 100) (hb : b.length ≤ 2500) :
    Calls Tryz.prog 26 #[.agg #[str a, str b, v0]] w (PrintR w (codeL (tokB a && tgtB b) (askS a b) xs) (flatL (askS a b :: xs.map fldS))) := by
  have hbw : Below w.heap.size w (w.alloc (.cells #[str a, str b, v0] 45)) := (Below.refl _ w).alloc (Nat.le_refl _) _
  have hk := Blk.newA w #[str a, str b, v0] 45
  obtain ⟨w1, hw1⟩ : ∃ w1, w1 = w.alloc (.cells #[str a, str b, v0] 45) := ⟨_, rfl⟩
  rw [← hw1] at hbw hk
  have HBW := Lib.hid hbw; have HK := Lib.hid hk; have HW := Lib.hid hw1
  have HE1 := Lib.hid (hE.below hbw)
  have hSl : (askS a b).length ≤ 2700 := by simp [askS, verS]; omega
  have HEN := Lib.hid (fun V W (hE : Env W) (h : PrIn W v0 xs) => encode_any (askS a b) V v0 xs W hE h hl hm hSl)
  have HV := Lib.hid (hv.below hbw)
  have HLN := Lib.hid (fun W (h : Env W) => reqLine_any (askS a b) W h (by omega))
  have hB := ask_bool a b
  have hstr := ask_strP a b
  obtain ⟨C, hC⟩ : ∃ C, C = (tokB a && tgtB b) := ⟨_, rfl⟩
  rw [← hC] at hB ⊢
  obtain ⟨S, hS⟩ : ∃ S, S = askS a b := ⟨_, rfl⟩
  rw [← hS] at hB hstr HEN HLN ⊢
  obtain ⟨⟨T1, T2, T3⟩, hR⟩ : ∃ R, R = reqT S := ⟨_, rfl⟩
  rw [← hR] at hB HLN
  simp only at hB HLN
  have hsl2 : S.length ≤ 2700 := by rw [hS]; exact hSl
  clear hR hS hC hw1 hbw hE hv hl hm hSl
  obtain ⟨D, hD⟩ : ∃ D : Bool, D = (T3 && (T1 == a && T2 == b)) := ⟨_, rfl⟩
  have HD := Lib.hid hD
  rw [← hD] at hB
  subst hB
  clear hD
  have q0 := hk.at (o := 0) rfl
  have q1 := hk.at (o := 1) rfl
  have q2 := hk.at (o := 2) rfl
  clear hk
  have hlt0 : w.heap.size < w1.heap.size := HK.out.lt
  go_enter Tryz.func26, Tryz.ntmps26
  go_upto_region 1 with fail
  rw [← HW.out]
  go_wp2_with fail
  refine (HLN.out _ HE1.out).mono ?_
  rintro e w2 ⟨rfl, hB2⟩
  have hk2 := HK.out.below hB2 HK.out.lt
  have p0 := hk2.at (o := 0) rfl
  have p1 := hk2.at (o := 1) rfl
  have p2 := hk2.at (o := 2) rfl
  have HB2 := Lib.hid (HBW.out.trans (hB2.mono HBW.out.size))
  have HEN2 := Lib.hid (fun V => HEN.out V w2 (HE1.out.below hB2) (HV.out.below hB2))
  clear hk2 hB2 HLN HEN HE1 HV HK HBW
  cases T3
  · have hD : D = false := by rw [HD.out]; rfl
    have HDD := Lib.hid hD; clear hD HD
    go_wp2_with fail
    refine (HEN2.out _).mono ?_
    rintro e w3 h3
    have HP := Lib.hid (h3.lift HB2.out)
    have HB3 := Lib.hid h3
    obtain ⟨v3, rfl, _, _, _⟩ := h3
    go_wp2_with fail
    exact bodyPost_ret (v := .tuple #[v3, .int .i64 (codeL false S xs)]) (by simp [results, Tryz.results26, go_sem]) rfl (by rw [HDD.out]; exact HP.out)
  · by_cases e1 : T1 = a
    · by_cases e2 : T2 = b
      · subst e1; subst e2
        have hD : D = true := by rw [HD.out]; simp
        have HDD := Lib.hid hD; clear hD HD
        go_wp2_with fail
        refine (HEN2.out _).mono ?_
        rintro e w3 h3
        have HP := Lib.hid (h3.lift HB2.out)
        have HB3 := Lib.hid h3
        obtain ⟨v3, rfl, _, _, _⟩ := h3
        go_wp2_with fail
        exact bodyPost_ret (v := .tuple #[v3, .int .i64 (codeL true S xs)]) (by simp [results, Tryz.results26, go_sem]) rfl (by rw [HDD.out]; exact HP.out)
      · subst e1
        have hD : D = (T2 == b) := by rw [HD.out]; simp
        have HDD := Lib.hid hD; clear hD HD
        go_wp2_with fail
        refine (HEN2.out _).mono ?_
        rintro e w3 h3
        have HP := Lib.hid (h3.lift HB2.out)
        have HB3 := Lib.hid h3
        obtain ⟨v3, rfl, _, _, _⟩ := h3
        go_wp2_with fail
        exact bodyPost_ret (v := .tuple #[v3, .int .i64 (codeL (T2 == b) S xs)]) (by simp [results, Tryz.results26, go_sem]) rfl (by rw [HDD.out]; exact HP.out)
    · have hD : D = false := by rw [HD.out]; simp [e1]
      have HDD := Lib.hid hD; clear hD HD
      have hne := str_ne e1
      go_wp2_with fail
      refine (HEN2.out _).mono ?_
      rintro e w3 h3
      have HP := Lib.hid (h3.lift HB2.out)
      have HB3 := Lib.hid h3
      obtain ⟨v3, rfl, _, _, _⟩ := h3
      go_wp2_with fail
      exact bodyPost_ret (v := .tuple #[v3, .int .i64 (codeL false S xs)]) (by simp [results, Tryz.results26, go_sem]) rfl (by rw [HDD.out]; exact HP.out)
set_option maxHeartbeats 2000000 in
theorem ansBytes_any (a : List UInt8) (st : Int) (v0 : Value) (xs : Prs) (w : World) (hE : Env w) (hv : PrIn w v0 xs) (hl : xs.length ≤ 27) (hm : ∀ x ∈ xs, x.1.length ≤ 12 ∧ x.2.length ≤ 2000) (ha : a.length ≤ 100) (h0 : -9223372036854775808 ≤ st) (h1 : st ≤ 9223372036854775807) :
    Calls Tryz.prog 27 #[.agg #[.int .i64 st, str a, v0]] w (PrintR w (codeL ((decide (100 ≤ st) && decide (st ≤ 999)) && txtB a) (ansS st a) xs) (flatL (ansS st a :: xs.map fldS))) := by
  have hbw : Below w.heap.size w (w.alloc (.cells #[.int .i64 st, str a, v0] 53)) := (Below.refl _ w).alloc (Nat.le_refl _) _
  have hk := Blk.newA w #[.int .i64 st, str a, v0] 53
  obtain ⟨w1, hw1⟩ : ∃ w1, w1 = w.alloc (.cells #[.int .i64 st, str a, v0] 53) := ⟨_, rfl⟩
  rw [← hw1] at hbw hk
  have HBW := Lib.hid hbw; have HK := Lib.hid hk; have HW := Lib.hid hw1
  have HE1 := Lib.hid (hE.below hbw)
  have hil := Lib.itoa_length_le st h0 h1
  have hSl : (ansS st a).length ≤ 2700 := by simp [ansS, verS]; omega
  have HEN := Lib.hid (fun V W (hE : Env W) (h : PrIn W v0 xs) => encode_any (ansS st a) V v0 xs W hE h hl hm hSl)
  have HV := Lib.hid (hv.below hbw)
  have HLN := Lib.hid (fun W (h : Env W) => statusLine_any (ansS st a) W h (by omega))
  have HIT := Lib.hid (fun W (h : Env W) => itoa_any st W h h0 h1)
  have hB := ans_bool st a
  have hstr := ans_strP (Lib.itoa st) a
  obtain ⟨C, hC⟩ : ∃ C, C = ((decide (100 ≤ st) && decide (st ≤ 999)) && txtB a) := ⟨_, rfl⟩
  rw [← hC] at hB ⊢
  have hSe : verS ++ 32 :: (Lib.itoa st ++ 32 :: a) = ansS st a := rfl
  rw [hSe] at hstr
  obtain ⟨S, hS⟩ : ∃ S, S = ansS st a := ⟨_, rfl⟩
  rw [← hS] at hB hstr HEN HLN ⊢
  obtain ⟨⟨T1, T2, T3⟩, hR⟩ : ∃ R, R = ansT S := ⟨_, rfl⟩
  rw [← hR] at hB HLN
  simp only at hB HLN
  have hsl2 : S.length ≤ 2700 := by rw [hS]; exact hSl
  clear hSe hSl
  obtain ⟨I, hI⟩ : ∃ I, I = Lib.itoa st := ⟨_, rfl⟩
  rw [← hI] at hil hstr HIT
  clear hR hS hC hw1 hbw hv hl hm hI
  obtain ⟨D, hD⟩ : ∃ D : Bool, D = (T3 && (T1 == st && T2 == a)) := ⟨_, rfl⟩
  have HD := Lib.hid hD
  rw [← hD] at hB
  subst hB
  clear hD
  have q0 := hk.at (o := 0) rfl
  have q1 := hk.at (o := 1) rfl
  have q2 := hk.at (o := 2) rfl
  clear hk
  have hlt0 : w.heap.size < w1.heap.size := HK.out.lt
  go_enter Tryz.func27, Tryz.ntmps27
  go_upto_region 1 with fail
  rw [← HW.out]
  refine wp_region_noPanic ?_
  refine wp_region_held (S := fun W => W.cell? ⟨w.heap.size, 0, none⟩ = some (.int .i64 st) ∧ W.cell? ⟨w.heap.size, 1, none⟩ = some (str a)) (by kernel_rfl) ?_
  change wpAnyH _ _ _ _ _ _ _ _ w1.drew
  have HSIX := Lib.hid (fun W (h : Blk W w.heap.size [.int .i64 st, str a, v0]) => (show W.cell? ⟨w.heap.size, 0, none⟩ = some (.int .i64 st) ∧ W.cell? ⟨w.heap.size, 1, none⟩ = some (str a) from ⟨h.at (o := 0) rfl, h.at (o := 1) rfl⟩))
  obtain ⟨V1, hV1⟩ : ∃ V, V = w1.drew := ⟨_, rfl⟩
  have HK1 := Lib.hid (show Blk V1 w.heap.size _ from by rw [hV1]; exact HK.out.drew)
  have HB1 := Lib.hid (show Below w.heap.size w V1 from by rw [hV1]; exact HBW.out.drew)
  have HVA := Lib.hid (show PrIn V1 v0 xs from by rw [hV1]; exact HV.out.below (Below.refl _ w1).drew)
  have HEA := Lib.hid (hE.below HB1.out)
  rw [← hV1]
  clear hV1 q0 q1 q2 HE1 hE HV
  have HX := Lib.hid (HSIX.out _ HK1.out)
  refine takeH 0 8 (.pointer (some ⟨w.heap.size, 0, none⟩)) rfl rfl (by kernel_rfl) (by kernel_rfl) (by kernel_rfl) (fun _ _ _ h => h) rfl (fun w' h => by obtain ⟨h0, h1⟩ := h; go_simp) HX.out ?_
  go_frame
  refine takeH 1 9 (.int .i64 st) rfl rfl (by kernel_rfl) (by kernel_rfl) (by kernel_rfl) (fun _ _ _ h => h) rfl (fun w' h => by obtain ⟨h0, h1⟩ := h; go_simp) HX.out ?_
  go_frame
  refine takeH 5 13 (.pointer (some ⟨w.heap.size, 1, none⟩)) rfl rfl (by kernel_rfl) (by kernel_rfl) (by kernel_rfl) (fun _ _ _ h => h) rfl (fun w' h => by obtain ⟨h0, h1⟩ := h; go_simp) HX.out ?_
  go_frame
  refine takeH 6 14 (str a) rfl rfl (by kernel_rfl) (by kernel_rfl) (by kernel_rfl) (fun _ _ _ h => h) rfl (fun w' h => by obtain ⟨h0, h1⟩ := h; go_simp) HX.out ?_
  go_frame
  refine wpAnyH_all (rs := [2]) (by kernel_rfl) (by simp) ?_
  simp only [List.mem_singleton, forall_eq]
  refine wpOp_callD 10 rfl rfl rfl 40 #[.int .i64 st] (by go_simp) ?_
  refine (HIT.out _ HEA.out).mono ?_
  rintro e V2 ⟨rfl, hB⟩
  have hk2 := HK1.out.below hB HK1.out.lt
  have HX := Lib.hid (HSIX.out _ hk2)
  have HB2 := Lib.hid (HB1.out.trans (hB.mono HB1.out.size))
  have HE2 := Lib.hid (HEA.out.below hB)
  have HV2 := Lib.hid (HVA.out.below hB)
  have HK2 := Lib.hid hk2
  clear hB hk2
  refine ⟨_, rfl, HX.out, ?_⟩
  go_frame
  refine takeH 3 11 (.string ((⟨#[72, 84, 84, 80, 47, 49, 46, 49, 32]⟩ : ByteArray) ++ ⟨I.toArray⟩)) rfl rfl (by kernel_rfl) (by kernel_rfl) (by kernel_rfl) (fun _ _ _ h => h) rfl (fun w' h => by obtain ⟨h0, h1⟩ := h; go_simp; omega) HX.out ?_
  go_frame
  refine takeH 4 12 (.string ((⟨#[72, 84, 84, 80, 47, 49, 46, 49, 32]⟩ : ByteArray) ++ ⟨I.toArray⟩ ++ ⟨#[32]⟩)) rfl rfl (by kernel_rfl) (by kernel_rfl) (by kernel_rfl) (fun _ _ _ h => h) rfl (fun w' h => by obtain ⟨h0, h1⟩ := h; go_simp; omega) HX.out ?_
  go_frame
  refine takeH 7 15 (str S) rfl rfl (by kernel_rfl) (by kernel_rfl) (by kernel_rfl) (fun _ _ _ h => h) rfl (fun w' h => by obtain ⟨h0, h1⟩ := h; rw [← hstr]; go_simp; omega) HX.out ?_
  go_frame
  refine takeH 8 4 (str S) rfl rfl (by kernel_rfl) (by kernel_rfl) (by kernel_rfl) (fun _ _ _ h => h) rfl (fun w' h => by obtain ⟨h0, h1⟩ := h; go_simp) HX.out ?_
  go_frame
  refine wpAnyH_done (by kernel_rfl) ?_ _
  refine NoPanic.normal ?_
  clear HX HSIX HIT hstr HK1 HB1 HEA HVA
  go_wp2_with fail
  refine (HLN.out _ HE2.out).mono ?_
  rintro e w2 ⟨rfl, hB2⟩
  have hk2 := HK2.out.below hB2 HK2.out.lt
  have p0 := hk2.at (o := 0) rfl
  have p1 := hk2.at (o := 1) rfl
  have p2 := hk2.at (o := 2) rfl
  have HB3 := Lib.hid (HB2.out.trans (hB2.mono HB2.out.size))
  have HEN2 := Lib.hid (fun V => HEN.out V w2 (HE2.out.below hB2) (HV2.out.below hB2))
  clear hk2 hB2 HLN HEN HE2 HV2 HK2 HK HBW HB2
  have HB2 := HB3
  clear HB3
  cases T3
  · have hD : D = false := by rw [HD.out]; rfl
    have HDD := Lib.hid hD; clear hD HD
    go_wp2_with fail
    refine (HEN2.out _).mono ?_
    rintro e w3 h3
    have HP := Lib.hid (h3.lift HB2.out)
    have HB3 := Lib.hid h3
    obtain ⟨v3, rfl, _, _, _⟩ := h3
    go_wp2_with fail
    exact bodyPost_ret (v := .tuple #[v3, .int .i64 (codeL false S xs)]) (by simp [results, Tryz.results27, go_sem]) rfl (by rw [HDD.out]; exact HP.out)
  · by_cases e1 : T1 = st
    · by_cases e2 : T2 = a
      · subst e1; subst e2
        have hD : D = true := by rw [HD.out]; simp
        have HDD := Lib.hid hD; clear hD HD
        go_wp2_with fail
        refine (HEN2.out _).mono ?_
        rintro e w3 h3
        have HP := Lib.hid (h3.lift HB2.out)
        have HB3 := Lib.hid h3
        obtain ⟨v3, rfl, _, _, _⟩ := h3
        go_wp2_with fail
        exact bodyPost_ret (v := .tuple #[v3, .int .i64 (codeL true S xs)]) (by simp [results, Tryz.results27, go_sem]) rfl (by rw [HDD.out]; exact HP.out)
      · subst e1
        have hD : D = (T2 == a) := by rw [HD.out]; simp
        have HDD := Lib.hid hD; clear hD HD
        go_wp2_with fail
        refine (HEN2.out _).mono ?_
        rintro e w3 h3
        have HP := Lib.hid (h3.lift HB2.out)
        have HB3 := Lib.hid h3
        obtain ⟨v3, rfl, _, _, _⟩ := h3
        go_wp2_with fail
        exact bodyPost_ret (v := .tuple #[v3, .int .i64 (codeL (T2 == a) S xs)]) (by simp [results, Tryz.results27, go_sem]) rfl (by rw [HDD.out]; exact HP.out)
    · have hD : D = false := by rw [HD.out]; simp [e1]
      have HDD := Lib.hid hD; clear hD HD
      have hne := (show (T1 == st) = false from by rw [beq_eq_false_iff_ne]; exact e1)
      go_wp2_with fail
      refine (HEN2.out _).mono ?_
      rintro e w3 h3
      have HP := Lib.hid (h3.lift HB2.out)
      have HB3 := Lib.hid h3
      obtain ⟨v3, rfl, _, _, _⟩ := h3
      go_wp2_with fail
      exact bodyPost_ret (v := .tuple #[v3, .int .i64 (codeL false S xs)]) (by simp [results, Tryz.results27, go_sem]) rfl (by rw [HDD.out]; exact HP.out)
end Go.Proofs.YtajclihnoedecaaGreatDoor
