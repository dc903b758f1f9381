/- trace: the line of an event that has one. -/
import Derived.Test.YtoehkhbppmgfkaaGreatDoorFmtU
import Derived.Test.YtoehkhbppmgfkaaGreatDoorNmPlA
import Derived.Test.YtoehkhbppmgfkaaGreatDoorHexN
import Derived.Test.YtoehkhbppmgfkaaGreatDoorReg
import Derived.Lib.ConvBytes
import Derived.Lib.AppendIntMem
import Derived.Lib.QuietBelow
import Derived.Lib.AtoiErrMem
import Derived.Lib.ItoaLen
import Derived.Lib.LaidTab
import Derived.Deep.QuietTactic
import Derived.BigQuiet
import Derived.StillTailTactics
set_option maxRecDepth 100000
namespace Go.Proofs.YtoehkhbppmgfkaaGreatDoor
open Go.RowKit Go.Shelf
/-- The table of powers of ten, as long as no elder block turns. -/
structure PowE (w : World) : Prop where
  pow : Lib.TabIs Tryz.prog w "internal/strconv.uint64pow10" .u64 Lib.pow10Tab
  low : 0 < w.heap.size
theorem PowE.below {w w' : World} (h : PowE w) (hb : Below w.heap.size w w') : PowE w' := by
  obtain ⟨h1, h2⟩ := h
  refine ⟨?_, by have := hb.size; omega⟩
  unfold Lib.TabIs World.var? at h1 ⊢
  have hg : Tryz.prog.globalNamed "internal/strconv.uint64pow10" = some 0 := by kernel_rfl
  simp only [hg, Option.bind_some] at h1 ⊢
  rw [hb.block 0 h2]
  exact h1
theorem fmtU_b (n : Nat) (hn : n < 18446744073709551616) (w : World) (hE : PowE w) :
    Calls Tryz.prog 16 #[.int .u64 n, .int .i64 10] w fun e w' => e = .returned (str (Lib.decDigits n)) ∧ Below w.heap.size w w' := by
  refine (fmtU_any n hn w hE.pow).mono ?_
  rintro e w' ⟨rfl, k, os, rfl⟩
  exact ⟨rfl, Lib.below_grow _ _ (Nat.le_refl _) k os⟩
theorem itoa_b (n : Int) (h0 : -9223372036854775808 ≤ n) (h1 : n ≤ 9223372036854775807) (w : World) (hE : PowE w) :
    Calls Tryz.prog 17 #[.int .i64 n] w fun e w' => e = .returned (str (Lib.itoa n)) ∧ Below w.heap.size w w' := by
  refine (Tryz.strconv_Itoa n h0 h1 w hE.pow).mono ?_
  rintro e w' ⟨rfl, k, os, rfl⟩
  exact ⟨rfl, Lib.below_grow _ _ (Nat.le_refl _) k os⟩
/-- A text's bytes. -/
theorem conv_tx (s : List UInt8) (w : World) (hs : s.length ≤ 100000) : ∃ v W, (convert 9 49 (str s)).run Tryz.prog w = .ok v W ∧ Below w.heap.size w W ∧ Sl W W.heap.size v s := by
  have hz : (ByteArray.mk s.toArray).size = s.length := by simp [ByteArray.size]
  have hge := grownCap_ge w s.length 0 5
  have hle := grownCap_le_maxLen w s.length 0 5 (by unfold maxLen; omega)
  refine ⟨_, _, Lib.run_convert_string_bytes w 9 49 5 ⟨s.toArray⟩ Tryz.underlying9 Tryz.underlying49 Tryz.underlying5, Lib.bytesWorld_below w _ _, _, _, by rw [hz], (fun h => by cases h), hge, by unfold maxLen at hle; omega, fun _ => ⟨_, 0, rfl, by rw [Lib.bytesWorld_size]; omega, fun j h => ?_⟩⟩
  rw [Nat.zero_add, Lib.bytesWorld_cell w _ _ j (by simpa [ByteArray.size] using h)]
  simp [vb, bn, List.getD_eq_getElem?_getD, List.getElem?_eq_getElem h]
theorem wpOp_valueX {P : Program} {ops : Array Oper} {Q : Exit → Act → World → Prop} {K : Act → World → Prop} {a : Act} {w : World} {i : Nat} {o : Oper} (d : Tmp) (hi : ops[i]? = some o) (hd : o.dst = some d) (hw : Region.wanted o (yielded ops a.tmps) = true) (v : Value) (w' : World) (hr : (execOp a.eval o).run P w = .ok (.value v) w') (h : K (a.put (some d) v) w') : wpOp P ops Q i K a w :=
  wpOp_of_wp hi hw (by unfold Oper.wp; rw [hr]; rw [← hd] at h; exact h)
theorem join5 (a b c d e : List UInt8) : Lib.join [a, b, c, d, e] [32] = a ++ 32 :: (b ++ 32 :: (c ++ 32 :: (d ++ 32 :: e))) := by
  simp [Lib.join, List.intercalate]
theorem join5_any (g : Nat) (a b c d e : List UInt8) (w : World) (hk : Blk w g [str a, str b, str c, str d, str e]) (h1 : a.length ≤ 1000) (h2 : b.length ≤ 1000) (h3 : c.length ≤ 1000) (h4 : d.length ≤ 1000) (h5 : e.length ≤ 1000) :
    Calls Tryz.prog 18 #[.slice (some ⟨g, 0, none⟩) 5 5, str [32]] w fun x w' => x = .returned (str (a ++ 32 :: (b ++ 32 :: (c ++ 32 :: (d ++ 32 :: e))))) ∧ Below w.heap.size w w' := by
  have hj : Lib.join ([(⟨a.toArray⟩ : ByteArray), ⟨b.toArray⟩, ⟨c.toArray⟩, ⟨d.toArray⟩, ⟨e.toArray⟩].map (·.data.toList)) (⟨#[32]⟩ : ByteArray).data.toList = a ++ 32 :: (b ++ 32 :: (c ++ 32 :: (d ++ 32 :: e))) := by
    simpa using join5 a b c d e
  refine (Tryz.strings_Join g 0 5 [⟨a.toArray⟩, ⟨b.toArray⟩, ⟨c.toArray⟩, ⟨d.toArray⟩, ⟨e.toArray⟩] ⟨#[32]⟩ w ?_ hk.lt (by simp) (by simp) ?_).mono ?_
  · intro j x hx
    rw [Nat.zero_add]
    match j, hx with
    | 0, hx => cases hx; exact hk.at (o := 0) rfl
    | 1, hx => cases hx; exact hk.at (o := 1) rfl
    | 2, hx => cases hx; exact hk.at (o := 2) rfl
    | 3, hx => cases hx; exact hk.at (o := 3) rfl
    | 4, hx => cases hx; exact hk.at (o := 4) rfl
    | j + 5, hx => simp at hx
  · rw [hj]; simp; omega
  · rintro x w' ⟨rfl, hB⟩
    rw [hj]
    exact ⟨rfl, hB⟩
/-- An event. -/
structure EvL where
  n : Nat
  tick : Nat
  kind : List UInt8
  conn : Int
  text : List UInt8
def evA (e : EvL) : Value := .agg #[.int .u64 e.n, .int .u64 e.tick, str e.kind, .int .i64 e.conn, str e.text]
def EvL.cells (e : EvL) : List Value := [.int .u64 e.n, .int .u64 e.tick, str e.kind, .int .i64 e.conn, str e.text]
/-- Every part is within its limits. -/
structure EvL.Ok (e : EvL) : Prop where
  n1 : 1 ≤ e.n
  n2 : e.n ≤ 9007199254740992
  t : e.tick ≤ 1099511627776
  k : plainL e.kind = true
  c0 : 0 ≤ e.conn
  c1 : e.conn ≤ 2147483647
  l : e.text.length ≤ 200
def textF (t : List UInt8) : List UInt8 := if t = [] then [45] else encH t
def evLine (e : EvL) : List UInt8 := Lib.decDigits e.n ++ 32 :: (Lib.decDigits e.tick ++ 32 :: (e.kind ++ 32 :: (Lib.itoa e.conn ++ 32 :: textF e.text)))
attribute [local go_sem] Oper.semAt_some
set_option maxHeartbeats 4000000 in
theorem hasLine_ok (e : EvL) (ho : e.Ok) (w : World) :
    Calls Tryz.prog 14 #[evA e] w fun x w' => x = .returned (.bool true) ∧ Below w.heap.size w w' := by
  obtain ⟨n, t, k, c, s⟩ := e
  obtain ⟨o1, o2, o3, o4, o5, o6, o7⟩ := ho
  simp only at o1 o2 o3 o4 o5 o6 o7
  have hk600 : k.length ≤ 600 := by
    unfold plainL at o4
    simp only [Bool.and_eq_true, decide_eq_true_eq] at o4
    omega
  obtain ⟨W, hW⟩ : ∃ W, W = w.alloc (.cells #[.int .u64 n, .int .u64 t, str k, .int .i64 c, str s] 29) := ⟨_, rfl⟩
  have HB0 := Lib.hid (show Below w.heap.size w W from by rw [hW]; exact (Below.refl _ w).alloc (Nat.le_refl _) _)
  have HC := Lib.hid (fun W => plain_any k W hk600)
  rw [o4] at HC
  have i1 : (1 : Int) ≤ (n : Int) := by omega
  have i2 : (n : Int) ≤ 9007199254740992 := by omega
  have i3 : (t : Int) ≤ 1099511627776 := by omega
  have i7 : (s.length : Int) ≤ 200 := by omega
  have HK0 := Lib.hid (show Blk W w.heap.size [.int .u64 n, .int .u64 t, str k, .int .i64 c, str s] from by rw [hW]; exact Blk.new w _ _)
  unfold evA
  go_enter Tryz.func14, Tryz.ntmps14
  go_wp2_with fail
  refine (HC.out _).mono ?_
  rintro e w1 ⟨rfl, hB⟩
  have HB1 := Lib.hid (show Below w.heap.size w w1 from by rw [← hW] at hB; exact HB0.out.trans (hB.mono HB0.out.size))
  have hK1 : Blk w1 w.heap.size [.int .u64 n, .int .u64 t, str k, .int .i64 c, str s] := by rw [← hW] at hB; exact HK0.out.below hB HK0.out.lt
  have d3 := hK1.at (o := 3) rfl
  have d4 := hK1.at (o := 4) rfl
  clear hB hK1 HC
  go_wp2_with fail
  go_ret
  exact ⟨rfl, HB1.out⟩
set_option maxHeartbeats 4000000 in
theorem evLine_ok (e : EvL) (ho : e.Ok) (w : World) (hE : PowE w) :
    Calls Tryz.prog 6 #[evA e] w fun x w' => x = .returned (.tuple #[str (evLine e), .int .i64 0]) ∧ Below w.heap.size w w' := by
  have HH := Lib.hid (fun W => hasLine_ok e ho W)
  have hlen : (evLine e) = (evLine e) := rfl
  obtain ⟨n, t, k, c, s⟩ := e
  obtain ⟨o1, o2, o3, o4, o5, o6, o7⟩ := ho
  simp only at o1 o2 o3 o4 o5 o6 o7
  have hk32 : k.length ≤ 32 := by
    unfold plainL at o4
    simp only [Bool.and_eq_true, decide_eq_true_eq] at o4
    omega
  have HF1 := Lib.hid (fun W (h : PowE W) => fmtU_b n (by omega) W h)
  have HF2 := Lib.hid (fun W (h : PowE W) => fmtU_b t (by omega) W h)
  have HF3 := Lib.hid (fun W (h : PowE W) => itoa_b c (by omega) (by omega) W h)
  have l1 : (Lib.decDigits n).length ≤ 1000 := by rw [Lib.decDigits_length]; have := Lib.nDigits_le20 n (by omega); omega
  have l2 : (Lib.decDigits t).length ≤ 1000 := by rw [Lib.decDigits_length]; have := Lib.nDigits_le20 t (by omega); omega
  have l3 : (Lib.itoa c).length ≤ 1000 := by have := Lib.itoa_length_le c (by omega) (by omega); omega
  clear hlen
  unfold evLine
  simp only
  generalize Lib.decDigits n = D1 at HF1 l1 ⊢
  generalize Lib.decDigits t = D2 at HF2 l2 ⊢
  generalize Lib.itoa c = D3 at HF3 l3 ⊢
  obtain ⟨W, hW⟩ : ∃ W, W = w.alloc (.cells #[.int .u64 n, .int .u64 t, str k, .int .i64 c, str s] 29) := ⟨_, rfl⟩
  have HB0 := Lib.hid (show Below w.heap.size w W from by rw [hW]; exact (Below.refl _ w).alloc (Nat.le_refl _) _)
  have HK0 := Lib.hid (show Blk W w.heap.size [.int .u64 n, .int .u64 t, str k, .int .i64 c, str s] from by rw [hW]; exact Blk.new w _ _)
  have hE0 := hE
  clear hE
  have HSIX := Lib.hid (fun W (h : Blk W w.heap.size [.int .u64 n, .int .u64 t, str k, .int .i64 c, str s]) => (show W.cell? ⟨w.heap.size, 0, none⟩ = some (.int .u64 n) ∧ W.cell? ⟨w.heap.size, 1, none⟩ = some (.int .u64 t) ∧ W.cell? ⟨w.heap.size, 2, none⟩ = some (str k) ∧ W.cell? ⟨w.heap.size, 3, none⟩ = some (.int .i64 c) ∧ W.cell? ⟨w.heap.size, 4, none⟩ = some (str s) from ⟨h.at (o := 0) rfl, h.at (o := 1) rfl, h.at (o := 2) rfl, h.at (o := 3) rfl, h.at (o := 4) rfl⟩))
  clear o1 o2 o3 o4 o5 o6
  unfold evA at HH ⊢
  simp only at HH ⊢
  go_enter Tryz.func6, Tryz.ntmps6
  go_wp2_with fail
  refine (HH.out _).mono ?_
  rintro e w1 ⟨rfl, hB⟩
  have HB1 := Lib.hid (show Below w.heap.size w w1 from by rw [← hW] at hB; exact HB0.out.trans (hB.mono HB0.out.size))
  have HK1 := Lib.hid (show Blk w1 w.heap.size [.int .u64 n, .int .u64 t, str k, .int .i64 c, str s] from by rw [← hW] at hB; exact HK0.out.below hB HK0.out.lt)
  clear hB HH HB0 HK0 hW
  by_cases hs0 : s = []
  · subst hs0
    have d4 := HK1.out.at (o := 4) rfl
    go_wp2_with fail
    refine wp_region_noPanic ?_
    refine wp_region_held (S := fun W => W.cell? ⟨w.heap.size, 0, none⟩ = some (.int .u64 n) ∧ W.cell? ⟨w.heap.size, 1, none⟩ = some (.int .u64 t) ∧ W.cell? ⟨w.heap.size, 2, none⟩ = some (str k) ∧ W.cell? ⟨w.heap.size, 3, none⟩ = some (.int .i64 c) ∧ W.cell? ⟨w.heap.size, 4, none⟩ = some (str [])) (by kernel_rfl) ?_
    change wpAnyH _ _ _ _ _ _ _ _ (World.drew _)
    obtain ⟨V1, hV1⟩ : ∃ V, V = World.drew w1 := ⟨_, rfl⟩
    have HK1 := Lib.hid (show Blk V1 w.heap.size _ from by rw [hV1]; exact HK1.out.drew)
    have HB1 := Lib.hid (show Below w.heap.size w V1 from by rw [hV1]; exact HB1.out.drew)
    have HE1 := Lib.hid (hE0.below HB1.out)
    rw [← hV1]
    clear hV1
    have HX := Lib.hid (HSIX.out _ HK1.out)
    refine takeH 0 16 (.pointer (some ⟨w.heap.size, 0, none⟩)) rfl rfl (by kernel_rfl) (by kernel_rfl) (by kernel_rfl) (fun _ _ _ h => h) rfl (fun w' h => by obtain ⟨h0, h1, h2, h3, h4⟩ := h; go_simp) HX.out ?_
    go_frame
    refine takeH 1 17 (.int .u64 n) rfl rfl (by kernel_rfl) (by kernel_rfl) (by kernel_rfl) (fun _ _ _ h => h) rfl (fun w' h => by obtain ⟨h0, h1, h2, h3, h4⟩ := h; go_simp) HX.out ?_
    go_frame
    refine takeH 3 19 (.pointer (some ⟨w.heap.size, 1, none⟩)) rfl rfl (by kernel_rfl) (by kernel_rfl) (by kernel_rfl) (fun _ _ _ h => h) rfl (fun w' h => by obtain ⟨h0, h1, h2, h3, h4⟩ := h; go_simp) HX.out ?_
    go_frame
    refine takeH 4 20 (.int .u64 t) rfl rfl (by kernel_rfl) (by kernel_rfl) (by kernel_rfl) (fun _ _ _ h => h) rfl (fun w' h => by obtain ⟨h0, h1, h2, h3, h4⟩ := h; go_simp) HX.out ?_
    go_frame
    refine takeH 6 22 (.pointer (some ⟨w.heap.size, 2, none⟩)) rfl rfl (by kernel_rfl) (by kernel_rfl) (by kernel_rfl) (fun _ _ _ h => h) rfl (fun w' h => by obtain ⟨h0, h1, h2, h3, h4⟩ := h; go_simp) HX.out ?_
    go_frame
    refine takeH 7 23 (str k) rfl rfl (by kernel_rfl) (by kernel_rfl) (by kernel_rfl) (fun _ _ _ h => h) rfl (fun w' h => by obtain ⟨h0, h1, h2, h3, h4⟩ := h; go_simp) HX.out ?_
    go_frame
    refine takeH 8 24 (.pointer (some ⟨w.heap.size, 3, none⟩)) rfl rfl (by kernel_rfl) (by kernel_rfl) (by kernel_rfl) (fun _ _ _ h => h) rfl (fun w' h => by obtain ⟨h0, h1, h2, h3, h4⟩ := h; go_simp) HX.out ?_
    go_frame
    refine takeH 9 25 (.int .i64 c) rfl rfl (by kernel_rfl) (by kernel_rfl) (by kernel_rfl) (fun _ _ _ h => h) rfl (fun w' h => by obtain ⟨h0, h1, h2, h3, h4⟩ := h; go_simp) HX.out ?_
    go_frame
    refine takeH 11 27 (str [45]) rfl rfl (by kernel_rfl) (by kernel_rfl) (by kernel_rfl) (fun _ _ _ h => h) rfl (fun w' h => by obtain ⟨h0, h1, h2, h3, h4⟩ := h; go_simp) HX.out ?_
    go_frame
    refine wpAnyH_all (rs := [2]) (by kernel_rfl) (by simp) ?_
    simp only [List.mem_singleton, forall_eq]
    refine wpOp_callD 18 rfl rfl rfl 16 #[.int .u64 n, .int .i64 10] (by go_simp) ?_
    refine (HF1.out _ HE1.out).mono ?_
    rintro e V2 ⟨rfl, hB⟩
    have HK2 := Lib.hid (HK1.out.below hB HK1.out.lt)
    have HB2 := Lib.hid (HB1.out.trans (hB.mono HB1.out.size))
    have HE2 := Lib.hid (hE0.below HB2.out)
    clear hB
    refine ⟨_, rfl, HSIX.out _ HK2.out, ?_⟩
    go_frame
    refine wpAnyH_all (rs := [5]) (by kernel_rfl) (by simp) ?_
    simp only [List.mem_singleton, forall_eq]
    refine wpOp_callD 21 rfl rfl rfl 16 #[.int .u64 t, .int .i64 10] (by go_simp) ?_
    refine (HF2.out _ HE2.out).mono ?_
    rintro e V3 ⟨rfl, hB⟩
    have HK3 := Lib.hid (HK2.out.below hB HK2.out.lt)
    have HB3 := Lib.hid (HB2.out.trans (hB.mono HB2.out.size))
    have HE3 := Lib.hid (hE0.below HB3.out)
    clear hB
    refine ⟨_, rfl, HSIX.out _ HK3.out, ?_⟩
    go_frame
    refine wpAnyH_all (rs := [10]) (by kernel_rfl) (by simp) ?_
    simp only [List.mem_singleton, forall_eq]
    refine wpOp_callD 26 rfl rfl rfl 17 #[.int .i64 c] (by go_simp) ?_
    refine (HF3.out _ HE3.out).mono ?_
    rintro e V4 ⟨rfl, hB⟩
    have HK4 := Lib.hid (HK3.out.below hB HK3.out.lt)
    have HB4 := Lib.hid (HB3.out.trans (hB.mono HB3.out.size))
    have HE4 := Lib.hid (hE0.below HB4.out)
    clear hB
    refine ⟨_, rfl, HSIX.out _ HK4.out, ?_⟩
    go_frame
    refine wpAnyH_all (rs := [12]) (by kernel_rfl) (by simp) ?_
    simp only [List.mem_singleton, forall_eq]
    obtain ⟨V5, hV5⟩ : ∃ V, V = V4.alloc (.cells #[str D1, str D2, str k, str D3, str [45]] 9) := ⟨_, rfl⟩
    have HK5 := Lib.hid (show Blk V5 w.heap.size _ from by rw [hV5]; exact HK4.out.alloc _)
    have HB5 := Lib.hid (show Below w.heap.size w V5 from by rw [hV5]; exact HB4.out.alloc HB4.out.size _)
    have HN := Lib.hid (show Blk V5 V4.heap.size [str D1, str D2, str k, str D3, str [45]] from by rw [hV5]; exact Blk.new _ _ _)
    refine wpOp_valueX 28 rfl rfl rfl (.slice (some ⟨V4.heap.size, 0, none⟩) 5 5) V5 (by rw [hV5]; go_simp) ⟨HSIX.out _ HK5.out, ?_⟩
    go_frame
    clear hV5
    have HX := Lib.hid (HSIX.out _ HK5.out)
    refine takeH 13 5 (.slice (some ⟨V4.heap.size, 0, none⟩) 5 5) rfl rfl (by kernel_rfl) (by kernel_rfl) (by kernel_rfl) (fun _ _ _ h => h) rfl (fun w' h => by obtain ⟨h0, h1, h2, h3, h4⟩ := h; go_simp) HX.out ?_
    go_frame
    refine wpAnyH_done (by kernel_rfl) ?_ _
    refine NoPanic.normal ?_
    go_wp2_with fail
    refine (join5_any V4.heap.size D1 D2 k D3 [45] V5 HN.out l1 l2 (by omega) l3 (by simp)).mono ?_
    rintro e V6 ⟨rfl, hB⟩
    have HB6 := Lib.hid (HB5.out.trans (hB.mono HB5.out.size))
    clear hB
    go_wp2_with fail
    go_ret2
    exact ⟨by rfl, HB6.out⟩
  · have hs1 : s.isEmpty = false := str_ne s (fun h => hs0 (List.eq_nil_of_length_eq_zero h))
    have d4 := HK1.out.at (o := 4) rfl
    obtain ⟨vb, W2, hc, hB2, hv2⟩ := conv_tx s w1 (by omega)
    have HV2 := Lib.hid hv2
    have HB2 := Lib.hid (HB1.out.trans (hB2.mono HB1.out.size))
    have HK2 := Lib.hid (HK1.out.below hB2 HK1.out.lt)
    clear hv2 hB2 HB1 HK1
    go_wp2_with fail
    refine (hex_any _ vb s W2 HV2.out (Nat.le_refl _) (by omega)).mono ?_
    rintro e w3 ⟨rfl, hB⟩
    have HB3 := Lib.hid (HB2.out.trans (hB.mono HB2.out.size))
    have HK3 := Lib.hid (HK2.out.below hB HK2.out.lt)
    have hx : (encH s).length ≤ 1000 := by
      unfold encH; rw [letters_length]; unfold many; omega
    clear hB HB2 HK2 HV2 hc
    generalize hX : encH s = X at hx ⊢
    go_wp2_with fail
    refine wp_region_noPanic ?_
    refine wp_region_held (S := fun W => W.cell? ⟨w.heap.size, 0, none⟩ = some (.int .u64 n) ∧ W.cell? ⟨w.heap.size, 1, none⟩ = some (.int .u64 t) ∧ W.cell? ⟨w.heap.size, 2, none⟩ = some (str k) ∧ W.cell? ⟨w.heap.size, 3, none⟩ = some (.int .i64 c) ∧ W.cell? ⟨w.heap.size, 4, none⟩ = some (str s)) (by kernel_rfl) ?_
    change wpAnyH _ _ _ _ _ _ _ _ (World.drew _)
    obtain ⟨V1, hV1⟩ : ∃ V, V = World.drew w3 := ⟨_, rfl⟩
    have HK1 := Lib.hid (show Blk V1 w.heap.size _ from by rw [hV1]; exact HK3.out.drew)
    have HB1 := Lib.hid (show Below w.heap.size w V1 from by rw [hV1]; exact HB3.out.drew)
    have HE1 := Lib.hid (hE0.below HB1.out)
    rw [← hV1]
    clear hV1
    have HX := Lib.hid (HSIX.out _ HK1.out)
    refine takeH 0 16 (.pointer (some ⟨w.heap.size, 0, none⟩)) rfl rfl (by kernel_rfl) (by kernel_rfl) (by kernel_rfl) (fun _ _ _ h => h) rfl (fun w' h => by obtain ⟨h0, h1, h2, h3, h4⟩ := h; go_simp) HX.out ?_
    go_frame
    refine takeH 1 17 (.int .u64 n) rfl rfl (by kernel_rfl) (by kernel_rfl) (by kernel_rfl) (fun _ _ _ h => h) rfl (fun w' h => by obtain ⟨h0, h1, h2, h3, h4⟩ := h; go_simp) HX.out ?_
    go_frame
    refine takeH 3 19 (.pointer (some ⟨w.heap.size, 1, none⟩)) rfl rfl (by kernel_rfl) (by kernel_rfl) (by kernel_rfl) (fun _ _ _ h => h) rfl (fun w' h => by obtain ⟨h0, h1, h2, h3, h4⟩ := h; go_simp) HX.out ?_
    go_frame
    refine takeH 4 20 (.int .u64 t) rfl rfl (by kernel_rfl) (by kernel_rfl) (by kernel_rfl) (fun _ _ _ h => h) rfl (fun w' h => by obtain ⟨h0, h1, h2, h3, h4⟩ := h; go_simp) HX.out ?_
    go_frame
    refine takeH 6 22 (.pointer (some ⟨w.heap.size, 2, none⟩)) rfl rfl (by kernel_rfl) (by kernel_rfl) (by kernel_rfl) (fun _ _ _ h => h) rfl (fun w' h => by obtain ⟨h0, h1, h2, h3, h4⟩ := h; go_simp) HX.out ?_
    go_frame
    refine takeH 7 23 (str k) rfl rfl (by kernel_rfl) (by kernel_rfl) (by kernel_rfl) (fun _ _ _ h => h) rfl (fun w' h => by obtain ⟨h0, h1, h2, h3, h4⟩ := h; go_simp) HX.out ?_
    go_frame
    refine takeH 8 24 (.pointer (some ⟨w.heap.size, 3, none⟩)) rfl rfl (by kernel_rfl) (by kernel_rfl) (by kernel_rfl) (fun _ _ _ h => h) rfl (fun w' h => by obtain ⟨h0, h1, h2, h3, h4⟩ := h; go_simp) HX.out ?_
    go_frame
    refine takeH 9 25 (.int .i64 c) rfl rfl (by kernel_rfl) (by kernel_rfl) (by kernel_rfl) (fun _ _ _ h => h) rfl (fun w' h => by obtain ⟨h0, h1, h2, h3, h4⟩ := h; go_simp) HX.out ?_
    go_frame
    refine takeH 11 27 (str X) rfl rfl (by kernel_rfl) (by kernel_rfl) (by kernel_rfl) (fun _ _ _ h => h) rfl (fun w' h => by obtain ⟨h0, h1, h2, h3, h4⟩ := h; go_simp) HX.out ?_
    go_frame
    refine wpAnyH_all (rs := [2]) (by kernel_rfl) (by simp) ?_
    simp only [List.mem_singleton, forall_eq]
    refine wpOp_callD 18 rfl rfl rfl 16 #[.int .u64 n, .int .i64 10] (by go_simp) ?_
    refine (HF1.out _ HE1.out).mono ?_
    rintro e V2 ⟨rfl, hB⟩
    have HK2 := Lib.hid (HK1.out.below hB HK1.out.lt)
    have HB2 := Lib.hid (HB1.out.trans (hB.mono HB1.out.size))
    have HE2 := Lib.hid (hE0.below HB2.out)
    clear hB
    refine ⟨_, rfl, HSIX.out _ HK2.out, ?_⟩
    go_frame
    refine wpAnyH_all (rs := [5]) (by kernel_rfl) (by simp) ?_
    simp only [List.mem_singleton, forall_eq]
    refine wpOp_callD 21 rfl rfl rfl 16 #[.int .u64 t, .int .i64 10] (by go_simp) ?_
    refine (HF2.out _ HE2.out).mono ?_
    rintro e V3 ⟨rfl, hB⟩
    have HK3 := Lib.hid (HK2.out.below hB HK2.out.lt)
    have HB3 := Lib.hid (HB2.out.trans (hB.mono HB2.out.size))
    have HE3 := Lib.hid (hE0.below HB3.out)
    clear hB
    refine ⟨_, rfl, HSIX.out _ HK3.out, ?_⟩
    go_frame
    refine wpAnyH_all (rs := [10]) (by kernel_rfl) (by simp) ?_
    simp only [List.mem_singleton, forall_eq]
    refine wpOp_callD 26 rfl rfl rfl 17 #[.int .i64 c] (by go_simp) ?_
    refine (HF3.out _ HE3.out).mono ?_
    rintro e V4 ⟨rfl, hB⟩
    have HK4 := Lib.hid (HK3.out.below hB HK3.out.lt)
    have HB4 := Lib.hid (HB3.out.trans (hB.mono HB3.out.size))
    have HE4 := Lib.hid (hE0.below HB4.out)
    clear hB
    refine ⟨_, rfl, HSIX.out _ HK4.out, ?_⟩
    go_frame
    refine wpAnyH_all (rs := [12]) (by kernel_rfl) (by simp) ?_
    simp only [List.mem_singleton, forall_eq]
    obtain ⟨V5, hV5⟩ : ∃ V, V = V4.alloc (.cells #[str D1, str D2, str k, str D3, str X] 9) := ⟨_, rfl⟩
    have HK5 := Lib.hid (show Blk V5 w.heap.size _ from by rw [hV5]; exact HK4.out.alloc _)
    have HB5 := Lib.hid (show Below w.heap.size w V5 from by rw [hV5]; exact HB4.out.alloc HB4.out.size _)
    have HN := Lib.hid (show Blk V5 V4.heap.size [str D1, str D2, str k, str D3, str X] from by rw [hV5]; exact Blk.new _ _ _)
    refine wpOp_valueX 28 rfl rfl rfl (.slice (some ⟨V4.heap.size, 0, none⟩) 5 5) V5 (by rw [hV5]; go_simp) ⟨HSIX.out _ HK5.out, ?_⟩
    go_frame
    clear hV5
    have HX := Lib.hid (HSIX.out _ HK5.out)
    refine takeH 13 5 (.slice (some ⟨V4.heap.size, 0, none⟩) 5 5) rfl rfl (by kernel_rfl) (by kernel_rfl) (by kernel_rfl) (fun _ _ _ h => h) rfl (fun w' h => by obtain ⟨h0, h1, h2, h3, h4⟩ := h; go_simp) HX.out ?_
    go_frame
    refine wpAnyH_done (by kernel_rfl) ?_ _
    refine NoPanic.normal ?_
    go_wp2_with fail
    refine (join5_any V4.heap.size D1 D2 k D3 X V5 HN.out l1 l2 (by omega) l3 hx).mono ?_
    rintro e V6 ⟨rfl, hB⟩
    have HB6 := Lib.hid (HB5.out.trans (hB.mono HB5.out.size))
    clear hB
    go_wp2_with fail
    go_ret2
    exact ⟨by unfold textF; rw [if_neg hs0, hX]; rfl, HB6.out⟩
end Go.Proofs.YtoehkhbppmgfkaaGreatDoor
