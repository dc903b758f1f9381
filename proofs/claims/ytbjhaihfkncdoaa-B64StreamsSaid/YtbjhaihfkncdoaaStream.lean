/- b64.Stream: Write and Close. -/
import Derived.Test.YtbjhaihfkncdoaaConcat
import Derived.Test.YtbjhaihfkncdoaaRefDec
import Derived.Deep.RegionHeld3
namespace Go.Proofs.Ytbjhaihfkncdoaa
open Go.RowKit

/-- The Stream at block gs holds the bytes r behind the last whole group. -/
def IsSt (w : World) (gs : Nat) (r : List UInt8) : Prop := ∃ r0 r1 : UInt8, Blk w gs [vb r0, vb r1, .int .i64 (r.length : Int)] ∧ r.length ≤ 2 ∧ r = [r0, r1].take r.length
theorem IsSt.sl {w : World} {gs : Nat} {r : List UInt8} (h : IsSt w gs r) : Sl w w.heap.size (.slice (some ⟨gs, 0, none⟩) r.length 2) r := by
  obtain ⟨r0, r1, hb, hl, he⟩ := h
  refine ⟨_, 2, rfl, (fun h => by cases h), hl, by omega, fun _ => ⟨gs, 0, rfl, hb.lt, fun j hj => ?_⟩⟩
  rw [Nat.zero_add]
  refine hb.at ?_
  have e : r[j] = ([r0, r1].take r.length)[j]'(by rw [← he]; exact hj) := by simp only [← he]
  rw [e]
  match j, hj with
  | 0, _ => simp
  | 1, h => simp
  | j + 2, h => omega
theorem IsSt.below {w w' : World} {gs B : Nat} {r : List UInt8} (h : IsSt w gs r) (hb : Below B w w') (hB : gs < B) : IsSt w' gs r := by
  obtain ⟨r0, r1, h1, h2, h3⟩ := h
  exact ⟨r0, r1, h1.below hb hB, h2, h3⟩
theorem IsSt.lt {w : World} {gs : Nat} {r : List UInt8} (h : IsSt w gs r) : gs < w.heap.size := by
  obtain ⟨_, _, h1, _⟩ := h; exact h1.lt
/-- copy into the Stream's bytes, as one step of a region that draws. -/
theorem step_cp {ops : Array Oper} {o : Oper} {a : Act} {w : World} {K : Act → World → Prop} {Q : Exit → Act → World → Prop} {E : Prop}
    (hgd : o.guard = none) (d s : Operand) (ho : o.op = .call { callee := .builtin .copy, args := #[d, s], argTypes := #[22, 22] })
    (gs : Nat) (r0 r1 : UInt8) (cnt : Value) (hd : a.eval d = .slice (some ⟨gs, 0, none⟩) 2 2) (B : Nat) (V : Value) (t : List UInt8) (hs : a.eval s = V) (hsrc : Sl w B V t) (ht : t.length ≤ 2) (hb : Blk w gs [vb r0, vb r1, cnt])
    (h : ∀ w' q0 q1, Blk w' gs [vb q0, vb q1, cnt] → t = [q0, q1].take t.length → w.grownBy w' (some gs) → K (a.put o.dst (goInt t.length)) w') : if Region.wanted o (yielded ops a.tmps) = true then Oper.wp Try.prog o a w K Q else E := by
  rw [if_pos (show Region.wanted o (yielded ops a.tmps) = true by simp [Region.wanted, hgd])]
  obtain ⟨A, c, rfl, _, _, _, h3⟩ := hsrc
  by_cases h0 : t.length = 0
  · obtain rfl : t = [] := List.eq_nil_of_length_eq_zero h0
    have hrun := run_copy_none (P := Try.prog) w 22 22 o.type 5 (some ⟨gs, 0, none⟩) A 2 2 0 c Try.underlying22 info_b1 rfl
    unfold Oper.wp
    simp [execOp, ho, resolve, invoke, builtin, hd, hs, hrun, Result.andThen]
    exact h w r0 r1 hb rfl (World.grownBy.refl w _)
  · obtain ⟨b, so, rfl, _, hbs⟩ := h3 (by omega)
    have hrun := run_copy_cells (P := Try.prog) w 22 22 o.type 5 gs 0 2 2 ⟨b, so, none⟩ t.length c (t.map vb) Try.underlying22 info_b1 (by rw [List.length_map]; exact (Nat.min_eq_left ht).symm)
      (fun j v hv => by rw [Addr.add_mid]; exact hbs.rangeAt j v hv) (fun j hj => (hb.there 0 t.length (by show 0 + t.length ≤ 3; omega) j (by simpa using hj)).1) (fun j hj => hb.free _) (oneCell_bytes t)
    unfold Oper.wp
    simp [execOp, ho, resolve, invoke, builtin, hd, hs, hrun, Result.andThen]
    have hb2 := hb.setCells (vs := t.map vb) 0 (by rw [List.length_map]; show 0 + t.length ≤ 3; omega)
    rw [List.length_map] at hb2
    match t, ht, h0 with
    | [x], _, _ => exact h _ x r1 hb2 rfl (grown_setCells gs _ w 0)
    | [x, y], _, _ => exact h _ x y hb2 rfl (grown_setCells gs _ w 0)
set_option maxRecDepth 100000 in
set_option maxHeartbeats 1000000 in
theorem write_any (gs : Nat) (r : List UInt8) (v : Value) (l : List UInt8) (w : World) (hst : IsSt w gs r) (hv : Sl w w.heap.size v l) (hl : l.length ≤ 1000) :
    Calls Try.prog 30 #[.pointer (some ⟨gs, 0, none⟩), v] w fun e w' => e = .returned (str (encS ((r ++ l).take ((r ++ l).length / 3 * 3)))) ∧ IsSt w' gs ((r ++ l).drop ((r ++ l).length / 3 * 3)) ∧ w.grownBy w' (some gs) := by
  have HST := Lib.hid hst
  have HV := Lib.hid hv
  obtain ⟨A, c, rfl, _, k1, k2, _⟩ := hv
  obtain ⟨r0, r1, hb, hr2, hr⟩ := hst
  have HB := Lib.hid hb
  have c0 := hb.at (o := 0) (v := vb r0) rfl
  have c1 := hb.at (o := 1) (v := vb r1) rfl
  have c2 := hb.at (o := 2) (v := .int .i64 (r.length : Int)) rfl
  have hgl : gs < w.heap.size := hb.lt
  have hr0 : (0 : Int) ≤ (r.length : Int) := by omega
  have hr3 : (r.length : Int) ≤ 2 := by omega
  have Hr := Lib.hid hr; clear hr hb
  go_enter Try.func30, Try.ntmps30
  go_upto_region 3 with fail
  go_cut [5] (fun s5 wx => OwnB wx w.heap.size s5 (r ++ l) ∧ Below w.heap.size w wx)
  case first =>
    go_region_held3 (fun w' => w'.cell? ⟨gs, 2, none⟩ = some (.int .i64 (r.length : Int))) (go_keep)
      ((go_at_call 44; refine (concat_any w.heap.size _ _ r l _ (by simp) ((Blk.newA w _ _).drew.at rfl) ((Blk.newA w _ _).drew.at rfl) ((HST.out.sl.below (((Below.refl w.heap.size w).alloc (Nat.le_refl _) _).drew) (Nat.le_refl _)).more (by simp)) ((HV.out.below (((Below.refl w.heap.size w).alloc (Nat.le_refl _) _).drew) (Nat.le_refl _)).more (by simp)) (by omega) (by omega)).mono ?_; rintro e w2 ⟨v', rfl, hO, hb⟩; have HO := Lib.hid (hO.lower (base' := w.heap.size) (by simp)); clear hO; have HBw := Lib.hid ((((Below.refl w.heap.size w).alloc (Nat.le_refl _) _).drew).trans (hb.mono (by simp))); clear hb; have hck : w2.cell? ⟨gs, 2, none⟩ = some (.int .i64 (r.length : Int)) := (HBw.out.cell (p := ⟨gs, 2, none⟩) hgl).trans c2))
    all_goals (go_wp2_with fail; go_meet; exact ⟨HO.out, HBw.out⟩)
  case rest =>
    obtain ⟨hO, hBw⟩ := hcut
    obtain ⟨x, hx⟩ : ∃ x, x = r ++ l := ⟨_, rfl⟩
    rw [← hx] at hO
    obtain ⟨wh, hwh⟩ : ∃ wh, wh = x.length / 3 * 3 := ⟨_, rfl⟩
    have hxl : x.length ≤ 1002 := by rw [hx, List.length_append]; omega
    have Hx := Lib.hid hx; clear hx
    have HST2 := Lib.hid (HST.out.below hBw hgl)
    have HBK := Lib.hid (HB.out.below hBw hgl)
    have c22 : wc.cell? ⟨gs, 2, none⟩ = some (.int .i64 (r.length : Int)) := HBK.out.at rfl
    have HBw := Lib.hid hBw
    have hs0 : w.heap.size ≤ wc.heap.size := hBw.size
    clear hBw HST HB c0 c1 c2
    have HO := Lib.hid hO
    obtain ⟨A', c', e5, _, k1', k2', _⟩ := hO.sl
    subst e5
    have hmod : (x.length : Int) - (x.length : Int) % 3 = (wh : Int) := by omega
    have hwl : wh ≤ x.length := by omega
    have Hwh := Lib.hid hwh; clear hwh
    obtain ⟨V, hrunV, hSV⟩ := slice_from A' x.length c' wh hwl k1'
    have HSV := Lib.hid (hSV wc wc.heap.size x HO.out.sl rfl); clear hSV
    have Htl : Hid ((x.drop wh).length ≤ 2) := Lib.hid (by rw [List.length_drop, Hwh.out]; omega)
    obtain ⟨t, ht⟩ : ∃ t, t = x.drop wh := ⟨_, rfl⟩
    rw [← ht] at Htl HSV
    have Ht := Lib.hid ht; clear ht
    go_upto_region 5 with fail
    go_cut [] (fun wx => IsSt wx gs t ∧ OwnB wx w.heap.size (.slice A' x.length c') x ∧ wc.grownBy wx (some gs))
    case first =>
      go_region_law ((refine step_cp rfl (.tmp 30) (.tmp 33) rfl gs r0 r1 (.int .i64 (r.length : Int)) (by go_simp) wc.heap.size V t (by go_simp) (by exact HSV.out) Htl.out (by exact HBK.out) ?_; intro w2 q0 q1 hq ht2 hg; have Hq := Lib.hid hq; have hcq : w2.cell? ⟨gs, 2, none⟩ = some (.int .i64 (r.length : Int)) := hq.at rfl; have hfq : w2.frozen? ⟨gs, 2, none⟩ = false := hq.free _; clear hq; have Ht2 := Lib.hid ht2; clear ht2; have Hg := Lib.hid hg; clear hg))
      all_goals
        have HG : Hid (wc.grownBy (w2.setCell ⟨gs, 2, none⟩ (.int .i64 (t.length : Int))) (some gs)) := Lib.hid ((grown_drewN (World.grownBy.refl wc (some gs)) 1).trans (Hg.out.trans (grown_set w2 ⟨gs, 2, none⟩ _)))
        have HS3 : Hid (IsSt (w2.setCell ⟨gs, 2, none⟩ (.int .i64 (t.length : Int))) gs t) := Lib.hid ⟨q0, q1, Hq.out.set 2 _, Htl.out, Ht2.out⟩
        have HO3 : Hid (OwnB (w2.setCell ⟨gs, 2, none⟩ (.int .i64 (t.length : Int))) w.heap.size (.slice A' x.length c') x) := Lib.hid (HO.out.kept HG.out (by
          by_cases hn : (Value.slice A' x.length c').ownBlock = none
          · exact .inl hn
          · right
            intro e
            have := HO.out.lt gs e
            omega))
        go_wp2_with fail
        go_meet
        exact ⟨HS3.out, HO3.out, HG.out⟩
    case rest =>
      obtain ⟨hS, hO2, hG⟩ := hcut
      have HS := Lib.hid hS; clear hS
      have HG := Lib.hid hG; clear hG
      have hs1 := HG.out.size
      obtain ⟨A2, c2, e2, hk0, _, _, hsl⟩ := hO2.sl.take wh hwl
      injection e2 with e3 _ e4
      subst e3; subst e4
      have HSL := Lib.hid hsl; clear hsl hO2 hO
      have hrun := slice_h A' x.length c' wh hk0
      clear hrunV
      have Hwl : Hid ((x.take wh).length ≤ 100000) := Lib.hid (by rw [List.length_take]; omega)
      go_wp2_with fail
      refine (encode_any wc.heap.size _ (x.take wh) wc HSL.out (Nat.le_refl _) Hwl.out).mono ?_
      rintro e w3 ⟨rfl, hb3⟩
      have HB3 := Lib.hid hb3; clear hb3
      go_wp2_with fail
      go_ret
      refine ⟨by rw [← Hx.out, ← Hwh.out]; rfl, ?_, ?_⟩
      · rw [← Hx.out, ← Hwh.out, ← Ht.out]; exact HS.out.below HB3.out HS.out.lt
      · exact ((grown_of_below HBw.out (some gs)).trans HG.out).trans (grown_of_below HB3.out (some gs))
set_option maxRecDepth 100000 in
set_option maxHeartbeats 1000000 in
theorem close_any (gs : Nat) (r : List UInt8) (w : World) (hst : IsSt w gs r) :
    Calls Try.prog 32 #[.pointer (some ⟨gs, 0, none⟩)] w fun e w' => e = .returned (str (encS r)) ∧ IsSt w' gs [] ∧ w.grownBy w' (some gs) := by
  have HST := Lib.hid hst
  obtain ⟨r0, r1, hb, hr2, hrr⟩ := hst
  clear hrr
  have HB := Lib.hid hb
  have c2 := hb.at (o := 2) (v := .int .i64 (r.length : Int)) rfl
  have hgl : gs < w.heap.size := hb.lt
  clear hb
  have hr0 : (0 : Int) ≤ (r.length : Int) := by omega
  have hr3 : (r.length : Int) ≤ 2 := by omega
  go_enter Try.func32, Try.ntmps32
  go_upto_region 3 with fail
  go_cut [3] (fun s3 wx => s3 = str (encS r) ∧ Below w.heap.size w wx)
  case first =>
    go_region_held3 (fun w' => w'.cell? ⟨gs, 2, none⟩ = some (.int .i64 (r.length : Int))) (go_keep)
      ((go_at_call 11; refine (encode_any w.heap.size _ r _ (HST.out.sl.below ((Below.refl w.heap.size w).drew) (Nat.le_refl _)) (by simp) (by omega)).mono ?_; rintro e w2 ⟨rfl, hb⟩; have HBw := Lib.hid ((Below.refl w.heap.size w).drew.trans (hb.mono (by simp))); clear hb; have hck : w2.cell? ⟨gs, 2, none⟩ = some (.int .i64 (r.length : Int)) := (HBw.out.cell (p := ⟨gs, 2, none⟩) hgl).trans c2))
    all_goals (go_wp2_with fail; go_meet; exact ⟨rfl, HBw.out⟩)
  case rest =>
    obtain ⟨rfl, hBw⟩ := hcut
    have HBK := Lib.hid (HB.out.below hBw hgl)
    have HBw := Lib.hid hBw; clear hBw
    have c0 := HBK.out.at (o := 0) (v := vb r0) rfl
    have c1 := HBK.out.at (o := 1) (v := vb r1) rfl
    have c22 := HBK.out.at (o := 2) (v := .int .i64 (r.length : Int)) rfl
    have f0 := HBK.out.free 0
    have f1 := HBK.out.free 1
    have f2 := HBK.out.free 2
    clear c2
    go_wp2_with fail
    go_ret
    refine ⟨rfl, ⟨0, 0, ((HBK.out.set 0 _).set 1 _).set 2 _, by simp, rfl⟩, ?_⟩
    exact (grown_of_below HBw.out (some gs)).trans (((grown_set wc ⟨gs, 0, none⟩ _).trans (grown_set _ ⟨gs, 1, none⟩ _)).trans (grown_set _ ⟨gs, 2, none⟩ _))
set_option maxHeartbeats 400000 in
theorem write_nil (v : Value) (w : World) : Calls Try.prog 30 #[.pointer none, v] w fun e w' => e = .returned (str []) ∧ w = w' := by
  go_enter Try.func30, Try.ntmps30
  go_wp2_with fail
  go_ret
  exact ⟨rfl, rfl⟩
set_option maxHeartbeats 400000 in
theorem close_nil (w : World) : Calls Try.prog 32 #[.pointer none] w fun e w' => e = .returned (str []) ∧ w = w' := by
  go_enter Try.func32, Try.ntmps32
  go_wp2_with fail
  go_ret
  exact ⟨rfl, rfl⟩
end Go.Proofs.Ytbjhaihfkncdoaa
