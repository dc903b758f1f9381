/- The reference of frame: Num and Bytes at two bytes, Pack, Unpack, Same. -/
import Derived.Test.YtgldfobfchnkeaaFrUn
import Derived.Test.YtgldfobfchnkeaaFlip
import Derived.LoopTactic
import Derived.Deep.RegionHeld3
namespace Go.Proofs.Ytgldfobfchnkeaa
open Go.RowKit

unseal num2 in
theorem num2_int (a b : UInt8) : bn a * 256 + bn b = (num2 a b : Int) := by unfold num2 bn; omega
set_option maxHeartbeats 400000 in
theorem numRef (B : Nat) (v : Value) (a b : UInt8) (w : World) (hv : Sl w B v [a, b]) :
    Calls Try.prog 29 #[v] w fun e w' => e = .returned (.int .u64 (num2 a b : Int)) ∧ w = w' := by
  obtain ⟨A, c, rfl, _, k1, k2, h3⟩ := hv
  obtain ⟨g, o, rfl, _, hbs⟩ := h3 (by simp)
  have c0 : w.cell? ⟨g, o, none⟩ = some (vb a) := hbs 0 (by simp)
  have c1 : w.cell? ⟨g, o + 1, none⟩ = some (vb b) := hbs 1 (by simp)
  clear hbs h3
  have hra := bn_range a
  have hrb := bn_range b
  have hm := Lib.hid (num2_int a b)
  show Calls Try.prog 29 #[.slice (some ⟨g, o, none⟩) 2 c] w _
  go_enter Try.func29, Try.ntmps29
  go_wp2_with fail
  go_loop [3, 8] (fun n i => (i = .int .i64 0 ∧ n = .int .u64 0) ∨ (i = .int .i64 1 ∧ n = .int .u64 (bn a)) ∨ (i = .int .i64 2 ∧ n = .int .u64 (bn a * 256 + bn b))) (fun _ i => 2 - (intOf i).toNat)
  case atStart => exact .inl ⟨rfl, rfl⟩
  case round =>
    rcases hrel with ⟨rfl, rfl⟩ | ⟨rfl, rfl⟩ | ⟨rfl, rfl⟩
    · go_wp2_with fail
      go_round
      case rel => exact .inr (.inl ⟨rfl, by simp⟩)
      case measure => simp [intOf]
    · go_wp2_with fail
      go_round
      case rel => exact .inr (.inr ⟨rfl, rfl⟩)
      case measure => simp [intOf]
    · go_wp2_with fail
      go_ret
      exact ⟨by rw [hm.out]; rfl, rfl⟩
set_option maxRecDepth 100000 in
set_option maxHeartbeats 1000000 in
theorem bytesRef (n : Nat) (hn : n ≤ 2048) (w : World) :
    Calls Try.prog 27 #[.int .u64 (n : Int), .int .i64 2] w fun e w' => ∃ v', e = .returned v' ∧ OwnB w' w.heap.size v' (len2 n) ∧ Below w.heap.size w w' := by
  have hmk : ∀ W : World, (Instr.makeSlice 22 (.int .i64 2) (.int .i64 2)).run Try.prog W = .ok (.slice (some ⟨W.heap.size, 0, none⟩) 2 2) (W.alloc (.cells (noughts 2) 5)) := make_bytes 2 2 (by omega) (by omega)
  have HO := Lib.hid (OwnB.of_heap (base := w.heap.size) (g := w.heap.size) (cap := 2) (n := 2) (l := [0, 0]) (Nat.le_refl _) (heap_alloc_new w (.cells (noughts 2) 5)) (noughts_size _) (by unfold maxLen; omega) rfl (by rw [noughts_list]; rfl) (by omega))
  have HB := Lib.hid ((Below.refl w.heap.size w).alloc (Nat.le_refl _) (.cells (noughts 2) 5))
  have h1 := vb_hi n hn
  have h2 := vb_lo n
  have hx : (n : Int) / 256 % 256 = (n : Int) / 256 := by omega
  go_enter Try.func27, Try.ntmps27
  go_wp2_with fail
  clear hmk
  go_loopw [0, 6] (fun m i wr => ∃ l : List UInt8, ((i = .int .i64 1 ∧ m = .int .u64 (n : Int) ∧ l = [0, 0]) ∨ (i = .int .i64 0 ∧ m = .int .u64 ((n : Int) / 256) ∧ l = [0, UInt8.ofNat n]) ∨ (i = .int .i64 (-1) ∧ l = len2 n)) ∧ OwnB wr w.heap.size (.slice (some ⟨w.heap.size, 0, none⟩) 2 2) l ∧ Below w.heap.size w wr) (fun _ i _ => match i with | .int _ k => (k + 1).toNat | _ => 0)
  case atStart => exact ⟨[0, 0], .inl ⟨rfl, rfl, rfl⟩, HO.out, HB.out⟩
  case round =>
    obtain ⟨l, hc, hO, hB⟩ := hrel
    have HO2 := Lib.hid hO
    have HB2 := Lib.hid hB; clear hB HO HB
    rcases hc with ⟨rfl, rfl, rfl⟩ | ⟨rfl, rfl, rfl⟩ | ⟨rfl, rfl⟩
    · obtain ⟨hc, hf⟩ := hO.getAt 1 0 rfl
      clear hO
      go_wp2_with fail
      exact ⟨⟨[0, UInt8.ofNat n], .inr (.inl ⟨rfl, rfl, rfl⟩), HO2.out.setAt 1 _, HB2.out.setCell (Nat.le_refl _) _⟩, by simp⟩
    · obtain ⟨hc, hf⟩ := hO.getAt 0 0 rfl
      clear hO
      go_wp2_with fail
      exact ⟨⟨len2 n, .inr (.inr ⟨rfl, rfl⟩), HO2.out.setAt 0 _, HB2.out.setCell (Nat.le_refl _) _⟩, by simp⟩
    · clear hO
      go_wp2_with fail
      go_ret
      exact ⟨_, rfl, HO2.out, HB2.out⟩
section
variable {w : World} {ops : Array Oper} {o : Oper} {a : Act} {K : Act → World → Prop} {Q : Exit → Act → World → Prop} {E : Prop}
theorem step_app_sl (hgd : o.guard = none) (s x : Operand) (ho : o.op = .call { callee := .builtin .append, args := #[s, x], argTypes := #[22, 22] })
    (base : Nat) (v : Value) (l ms : List UInt8) (hs : a.eval s = v) (hown : OwnB w base v l) (B : Nat) (vx : Value) (hx : a.eval x = vx) (hsrc : Sl w B vx ms)
    (hlen : l.length + ms.length ≤ 1099511627776) (hbase : base ≤ w.heap.size)
    (h : ∀ v' w', OwnB w' base v' (l ++ ms) → w.grownBy w' v.ownBlock → (v'.ownBlock = v.ownBlock ∨ v'.ownBlock = some w.heap.size) → K (a.put o.dst v') w') : if Region.wanted o (yielded ops a.tmps) = true then Oper.wp Try.prog o a w K Q else E := by
  rw [if_pos (show Region.wanted o (yielded ops a.tmps) = true by simp [Region.wanted, hgd])]
  obtain ⟨A, c, rfl, h0, h1, h2, h3⟩ := hsrc
  obtain ⟨i0, hi, hz0, hz1, hz2⟩ := info_parts info_b
  cases A with
  | none =>
    obtain rfl := h0 rfl
    obtain rfl : ms = [] := List.eq_nil_of_length_eq_zero (by omega)
    have hrun := run_append_owned_none (P := Try.prog) (w := w) base 22 o.type 5 i0 1 Try.underlying22 hi v l.length (l.map vb) hown
    unfold Oper.wp
    simp [execOp, ho, resolve, invoke, builtin, hs, hx, hrun, Result.andThen]
    exact h v w (by simpa using hown) (World.grownBy.refl w _) (.inl rfl)
  | some ad =>
    have hcells : ∀ j u, (ms.map vb)[j]? = some u → w.cell? (ad.add j) = some u := by
      intro j u hu
      rw [List.getElem?_map] at hu
      by_cases hj : j < ms.length
      · obtain ⟨b, so, e, _, hbs⟩ := h3 (by omega)
        obtain rfl := Option.some.inj e
        rw [Addr.add_mid]
        rw [List.getElem?_eq_getElem hj] at hu; cases hu; exact hbs j hj
      · rw [List.getElem?_eq_none (by omega)] at hu; cases hu
    obtain ⟨v', w', hr, g1, g2, _, g3⟩ := run_append_own_at (P := Try.prog) w base 22 o.type 5 i0 (.int .u8 0) 1 1 Try.underlying22 hi hz0 hz1 hz2 rfl (by decide) v l.length (l.map vb) hown ad ms.length c (ms.map vb) (by simp) hcells (oneCell_bytes ms) (by unfold maxLen; omega) (by omega) hbase
    unfold Oper.wp execOp
    simp only [ho, resolve, invoke, builtin, Sem.run_bind, Sem.run_pure, Result.andThen_ok, List.map_toArray, List.map_cons, List.map_nil, hs, hx, hr]
    refine h v' w' ?_ g2 g3
    unfold OwnB
    rw [List.length_append, List.map_append]
    exact g1
end
theorem OwnB.one (W : World) (k : UInt8) : OwnB (W.alloc (.cells #[vb k] 5)) W.heap.size (.slice (some ⟨W.heap.size, 0, none⟩) 1 1) [k] :=
  OwnB.of_heap (cur := #[vb k]) (n := 1) (Nat.le_refl _) (heap_alloc_new W _) rfl (by unfold maxLen; omega) rfl rfl (by omega)
theorem OwnB.one2 (W : World) (o : Obj) (k : UInt8) : OwnB ((W.alloc o).alloc (.cells #[vb k] 5)) (W.heap.size + 1) (.slice (some ⟨W.heap.size + 1, 0, none⟩) 1 1) [k] := by
  have := OwnB.one (W.alloc o) k
  simpa only [World.size_alloc] using this
theorem OwnB.drew {w : World} {base : Nat} {v : Value} {l : List UInt8} (h : OwnB w base v l) : OwnB w.drew base v l := h
set_option maxRecDepth 100000 in
set_option maxHeartbeats 1000000 in
theorem packRef_ok (k : UInt8) (v : Value) (l : List UInt8) (B : Nat) (w : World) (hv : Sl w B v l) (hB : B ≤ w.heap.size) (h1 : 1 ≤ bn k) (h2 : bn k ≤ 15) (h3 : l.length ≤ 2048) :
    Calls Try.prog 12 #[.agg #[vb k, v]] w fun e w' => ∃ v', e = .returned (.tuple #[v', .int .i64 0]) ∧ OwnB w' w.heap.size v' (frm k l) ∧ Below w.heap.size w w' := by
  have HV := Lib.hid hv
  obtain ⟨A, c, rfl, _, k1, k2, _⟩ := hv
  have hk0 : ((bn k : Int) == 0) = false := by simp; omega
  have hk15 : ¬ 15 < bn k := by omega
  have hl3 : ¬ (2048 : Int) < (l.length : Int) := by omega
  have hcv : IntKind.u64.wrap (l.length : Int) = (l.length : Int) := by rw [IntKind.wrap_u64]; omega
  go_enter Try.func12, Try.ntmps12
  go_wp2_with fail
  go_region_held3 (fun w' => w'.cell? ⟨w.heap.size, 0, none⟩ = some (vb k) ∧ w'.cell? ⟨w.heap.size, 1, none⟩ = some (.slice A l.length c)) (first | go_keep | exact ⟨hc0, hc1⟩ | exact ⟨hd0, hd1⟩ | exact ⟨he0, he1⟩)
    (first
      | (go_at_call 27; refine (bytesRef l.length h3 _).mono ?_; rintro e w2 ⟨v', rfl, hO, hb⟩; obtain ⟨Ab, db, rfl, _, _, _, _⟩ := hO.sl
         have hK : Blk w2 w.heap.size [vb k, .slice A l.length c] := Blk.below (by first | exact ((Blk.new w [vb k, .slice A l.length c] 33).alloc _).drew | exact (Blk.new w [vb k, .slice A l.length c] 33).drew) hb (by simp <;> omega)
         have hc0 := hK.at (o := 0) rfl; have hc1 := hK.at (o := 1) rfl
         have HBe : Hid (Below w.heap.size w w2) := Lib.hid (by first | exact (((Below.refl _ w).alloc (Nat.le_refl _) _).alloc (by simp) _).drew.trans (hb.mono (by simp; omega)) | exact ((Below.refl _ w).alloc (Nat.le_refl _) _).drew.trans (hb.mono (by simp)))
         have hsz : w.heap.size + 1 ≤ w2.heap.size := by have := hK.lt; omega
         have HKK := Lib.hid hK; clear hK)
      | ((refine step_app_sl rfl (.tmp 18) (.tmp 23) rfl (w.heap.size + 1) (.slice (some ⟨w.heap.size + 1, 0, none⟩) 1 1) [k] (len2 l.length) (by go_simp) (by exact ((OwnB.drew (OwnB.one2 w _ k)).below hb)) w2.heap.size (.slice Ab (len2 l.length).length db) (by go_simp) (by exact hO.sl) (by simp [len2]) hsz ?_; intro v1 w3 hv1 hg1 ho1; have hK3 := HKK.out.grown hg1 (by simp [Value.ownBlock]); have hd0 := hK3.at (o := 0) rfl; have hd1 := hK3.at (o := 1) rfl; have HB3 := Lib.hid (HBe.out.trans (((OwnB.drew (OwnB.one2 w (.cells #[vb k, .slice A l.length c] 33) k)).below hb |>.belowBase hg1 hsz).mono (by omega))); have hsz3 : w.heap.size + 1 ≤ w3.heap.size := (by have := hK3.lt; omega); have HK3 := Lib.hid hK3; clear hK3; have Hv1 := Lib.hid hv1; clear hv1; clear hO; clear hb; clear hg1; clear ho1))
      | ((refine step_app_sl rfl (.tmp 18) (.tmp 23) rfl (w.heap.size + 1) (.slice (some ⟨w2.heap.size, 0, none⟩) 1 1) [k] (len2 l.length) (by go_simp) (by exact (OwnB.one w2 k).lower hsz) w2.heap.size (.slice Ab (len2 l.length).length db) (by go_simp) (by exact hO.sl.below ((Below.refl _ _).alloc (Nat.le_refl _) _) (Nat.le_refl _)) (by simp [len2]) (by simp; omega) ?_; intro v1 w3 hv1 hg1 ho1; have hK3 := (HKK.out.alloc _).grown hg1 (by simp [Value.ownBlock]; omega); have hd0 := hK3.at (o := 0) rfl; have hd1 := hK3.at (o := 1) rfl; have HB3 := Lib.hid ((HBe.out.alloc (by omega) _).trans ((((OwnB.one w2 k).lower hsz).belowBase hg1 (by simp; omega)).mono (by omega))); have hsz3 : w.heap.size + 1 ≤ w3.heap.size := (by have := hK3.lt; omega); have HK3 := Lib.hid hK3; clear hK3; have Hv1 := Lib.hid hv1; clear hv1; clear hO; clear hb; clear hg1; clear ho1))
      | ((refine step_app_sl rfl (.tmp 24) (.tmp 26) rfl (w.heap.size + 1) v1 ([k] ++ len2 l.length) l (by go_simp) (by exact Hv1.out) B (.slice A l.length c) (by go_simp) (by exact HV.out.below HB3.out hB) (by simp [len2]; omega) hsz3 ?_; intro v2 w4 hv2 hg2 ho2; have hK4 := HK3.out.grown hg2 (by first | (intro e; have := Hv1.out.lt _ e.symm; omega)); have he0 := hK4.at (o := 0) rfl; have he1 := hK4.at (o := 1) rfl; have HB4 := Lib.hid (HB3.out.trans ((Hv1.out.belowBase hg2 hsz3).mono (by omega))); clear hK4; have Hv2 := Lib.hid hv2; clear hv2; clear hg2; clear ho2)))
  all_goals
    go_wp2_with fail
    go_ret2
    exact ⟨v2, rfl, Hv2.out.lower (by omega), HB4.out⟩
end Go.Proofs.Ytgldfobfchnkeaa
