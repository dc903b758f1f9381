/- pipe: Write, Read. -/
import Derived.Test.YtlobmffcnobgeaaDoorPpL
import Derived.Test.YtlobmffcnobgeaaDoorStepSl
import Derived.Test.YtlobmffcnobgeaaDoorCut2
set_option maxRecDepth 100000
namespace Go.Proofs.YtlobmffcnobgeaaDoor
open Go.RowKit
attribute [local go_sem] Oper.semAt_some
section
variable {w w' : World} {base b room : Nat} {V : Nat → Value} {H : Nat → Nat} {X : Nat → WayL}
theorem write_nil (k : Int) (v : Value) (w : World) : Calls Tryd.prog 14 #[.pointer none, .int .i64 k, v] w fun e w' => e = .returned (.tuple #[.int .i64 0, .int .i64 6]) ∧ w' = w := by
  have HD := Lib.hid (dir_nil k w)
  go_enter Tryd.func14, Tryd.ntmps14
  go_wp2_with fail
  refine HD.out.mono ?_
  rintro e w' ⟨rfl, rfl⟩
  go_wp2_with fail
  go_ret2
  exact ⟨rfl, rfl⟩
theorem write_bad (b : Nat) (k : Int) (hk : k ≠ 0 ∧ k ≠ 1) (v : Value) (w : World) : Calls Tryd.prog 14 #[tP b, .int .i64 k, v] w fun e w' => e = .returned (.tuple #[.int .i64 0, .int .i64 1]) ∧ w' = w := by
  have HD := Lib.hid (dir_bad b k hk w)
  clear hk
  go_enter Tryd.func14, Tryd.ntmps14
  go_wp2_with fail
  refine HD.out.mono ?_
  rintro e w' ⟨rfl, rfl⟩
  go_wp2_with fail
  go_ret2
  exact ⟨rfl, rfl⟩
/-- How many bytes are taken, and what is then. -/
def wrN (room : Nat) (x : WayL) (p : List UInt8) : Nat := min p.length (room - x.buf.length)
def wrX (room : Nat) (x : WayL) (p : List UInt8) : WayL := { x with buf := x.buf ++ p.take (wrN room x p), wrote := x.wrote + wrN room x p }
theorem un_cast (n : Nat) (h : n ≤ 4096) : (n : Int) = un n := by unfold un; omega
theorem Trs.ofGrown {w w' : World} {row : Option Nat} (h : w.grownBy w' row) : Trs row.toList w w' :=
  ⟨h.os, h.tape, h.output, h.size, fun k hk hn => h.block k hk (fun e => hn (by rw [← e]; simp))⟩
theorem grown_drew_pp {w w2 : World} {q : Nat} {r : Option Nat} (h : (w.drewN q).grownBy w2 r) : w.grownBy w2 r := ⟨h.os, h.tape, h.output, h.size, h.block⟩
theorem write_fin (h : PP w base b room V H X) (i : Nat) (hi : i < 2) {w2 W : World} {v' : Value} {x' : WayL} (hg : w.grownBy w2 (V i).ownBlock) (hO : OwnB w2 base v' x'.buf) (ho : v'.ownBlock = (V i).ownBlock ∨ v'.ownBlock = some w.heap.size)
    (hsh : x'.shut = (X i).shut) (hr : x'.read = (X i).read) (hl : x'.buf.length ≤ room) (hW : W = (w2.setCell ⟨b, 1 + 4 * i, none⟩ v').setCell ⟨b, 3 + 4 * i, none⟩ (.int .u64 (un x'.wrote))) :
    PP W base b room (upd V i v') H (upd X i x') ∧ Trs (ppS b V H) w W ∧ (∀ k ∈ ppS b (upd V i v') H, k ∈ ppS b V H ∨ w.heap.size ≤ k) := by
  subst hW
  have ht0 : Trs (b :: (V i).ownBlock.toList) w w2 := (Trs.ofGrown hg).mono (fun k hk => List.mem_cons_of_mem _ hk)
  have ht : Trs (b :: (V i).ownBlock.toList) w ((w2.setCell ⟨b, 1 + 4 * i, none⟩ v').setCell ⟨b, 3 + 4 * i, none⟩ (.int .u64 (un x'.wrote))) := (ht0.set (by simp) _).set (by simp) _
  have hb2 : Blk w2 b (ppc room V H X) := h.blk.grown hg (h.apb i hi).1.symm
  have hvb : v'.ownBlock ≠ some b := by
    rcases ho with e | e
    · rw [e]; exact (h.apb i hi).1
    · rw [e]; intro e'; have := Option.some.inj e'; have := h.blk.lt; omega
  refine h.turn i hi v' x' _ ht (fun k hk => ?_) ?_ ?_ ?_ (fun k hk => ?_) hl
  · rcases List.mem_cons.1 hk with e | e
    · exact .inl e
    · exact .inr (.inr (by simpa using e))
  · have := (hb2.set (1 + 4 * i) v').set (3 + 4 * i) (.int .u64 (un x'.wrote))
    rcases (show i = 0 ∨ i = 1 by omega) with rfl | rfl
    · have e : ((ppc room V H X).set 1 v').set 3 (.int .u64 (un x'.wrote)) = ppc room (upd V 0 v') H (upd X 0 x') := by
        show [_, v', .bool (X 0).shut, _, _, _, _, _, _] = [_, v', .bool x'.shut, _, _, _, _, _, _]
        rw [hsh]; rfl
      rw [← e]; exact this
    · have e : ((ppc room V H X).set 5 v').set 7 (.int .u64 (un x'.wrote)) = ppc room (upd V 1 v') H (upd X 1 x') := by
        show [_, _, _, _, _, v', .bool (X 1).shut, _, _] = [_, _, _, _, _, v', .bool x'.shut, _, _]
        rw [hsh]; rfl
      rw [← e]; exact this
  · exact ((hO.kept (grown_set w2 ⟨b, 1 + 4 * i, none⟩ v') (.inr hvb)).kept (grown_set _ ⟨b, 3 + 4 * i, none⟩ _) (.inr hvb))
  · rw [hr]
    refine (h.hash i hi).trs ht (fun hm => ?_)
    rcases List.mem_cons.1 hm with e | e
    · exact (h.apb i hi).2 e
    · exact h.aph i i hi hi (by simpa using e)
  · rcases ho with e | e
    · exact .inl (by rw [← e]; exact hk)
    · right; rw [e] at hk; have := Option.some.inj hk; omega
theorem wshut_0 (h : PP w base b room V H X) (hs : (X 0).shut = true) (v : Value) :
    Calls Tryd.prog 14 #[tP b, .int .i64 0, v] w fun e w' => e = .returned (.tuple #[.int .i64 0, .int .i64 14]) ∧ w' = w := by
  have HD := Lib.hid (dir_ok b 0 (by omega) w)
  have k1 : w.cell? ⟨b, 2, none⟩ = some (.bool (X 0).shut) := h.blk.at (o := 2) rfl
  rw [hs] at k1
  clear h hs
  go_enter Tryd.func14, Tryd.ntmps14
  go_wp2_with fail
  refine HD.out.mono ?_
  rintro e w' ⟨rfl, rfl⟩
  go_wp2_with fail
  go_ret2
  exact ⟨rfl, rfl⟩
set_option maxHeartbeats 1000000 in
theorem write_0 (h : PP w base b room V H X) (hs : (X 0).shut = false) (B : Nat) (v : Value) (p : List UInt8) (hv : Sl w B v p) :
    Calls Tryd.prog 14 #[tP b, .int .i64 0, v] w fun e w' => e = .returned (.tuple #[.int .i64 (wrN room (X 0) p : Int), .int .i64 0]) ∧ ∃ v', PP w' base b room (upd V 0 v') H (upd X 0 (wrX room (X 0) p)) ∧ Trs (ppS b V H) w w' ∧ (∀ k ∈ ppS b (upd V 0 v') H, k ∈ ppS b V H ∨ w.heap.size ≤ k) := by
  have HD := Lib.hid (dir_ok b 0 (by omega) w)
  have HRm := Lib.hid (room_0 h)
  have HP := Lib.hid h
  have HV := Lib.hid hv
  have k1 : w.cell? ⟨b, 2, none⟩ = some (.bool (X 0).shut) := h.blk.at (o := 2) rfl
  rw [hs] at k1
  have hln := h.len 0 (by omega)
  have hr2 := h.r2
  have hrm : roomL room (X 0) = (room : Int) - ((X 0).buf.length : Int) := by unfold roomL; rw [hs]; rfl
  rw [hrm] at HRm
  obtain ⟨A, c, rfl, _, q1, q2, _⟩ := hv
  obtain ⟨n, hn⟩ : ∃ n, n = wrN room (X 0) p := ⟨_, rfl⟩
  obtain ⟨x2, hx2⟩ : ∃ x, x = wrX room (X 0) p := ⟨_, rfl⟩
  rw [← hn, ← hx2]
  have hx3 : x2 = { X 0 with buf := (X 0).buf ++ p.take n, wrote := (X 0).wrote + n } := by rw [hx2, hn]; rfl
  have hnle : n ≤ p.length := by rw [hn]; unfold wrN; omega
  have hnr : n + (X 0).buf.length ≤ room := by rw [hn]; unfold wrN; omega
  have HN := Lib.hid (show (((p.length : Int) ≤ (room : Int) - ((X 0).buf.length : Int) ∧ (n : Int) = (p.length : Int)) ∨ (¬ (p.length : Int) ≤ (room : Int) - ((X 0).buf.length : Int) ∧ (n : Int) = (room : Int) - ((X 0).buf.length : Int))) from by rw [hn]; unfold wrN; omega)
  obtain ⟨VA, VC, hV, _, _, _, _⟩ := (h.own 0 (by omega)).sl
  have HV1 := Lib.hid hV; clear hV
  have HX3 := Lib.hid hx3
  have hbs := h.size
  clear hrm hs hn hx2 hx3 h
  obtain ⟨L, hL⟩ : ∃ L, L = (X 0).buf := ⟨_, rfl⟩
  rw [← hL] at hln HRm hnr HN HV1 HX3
  have HL := Lib.hid hL; clear hL
  have HSL := Lib.hid (show Sl w B (.slice A n c) (p.take n) from by
    obtain ⟨A2, c2, e2, _, _, _, hsl⟩ := HV.out.take n hnle
    injection e2 with e3 _ e4
    subst e3; subst e4
    exact hsl)
  have Hq : Hid ((p.take n).length = n) := Lib.hid (by rw [List.length_take]; omega)
  have Hlq : Hid ((L ++ p.take n).length = L.length + n) := Lib.hid (by rw [List.length_append, List.length_take]; omega)
  have hun := un_cast n (by omega)
  obtain ⟨N, hNN⟩ : ∃ N : Int, N = (n : Int) := ⟨_, rfl⟩
  have hrun : ∀ w, (Instr.slice 29 (.slice A p.length c) none (some (.int .i64 N)) none).run Tryd.prog w = .ok (.slice A n c) w := by rw [hNN]; exact slice_h A p.length c n (by omega)
  rw [← hNN] at HN ⊢
  have HNN := Lib.hid hNN; clear hNN hun
  have hadd := un_add (X 0).wrote n
  obtain ⟨T, hT⟩ : ∃ T, T = (X 0).wrote := ⟨_, rfl⟩
  rw [← hT] at hadd HX3
  rcases HN.out with ⟨hc, rfl⟩ | ⟨hc, rfl⟩
  all_goals
    go_enter Tryd.func14, Tryd.ntmps14
    go_wp2_with fail
    refine HD.out.mono ?_
    rintro e w' ⟨rfl, rfl⟩
    go_wp2_with fail
    refine HRm.out.mono ?_
    rintro e w1 ⟨rfl, q, rfl⟩
    have c0 : w'.cell? ⟨b, 1, none⟩ = some (.slice VA L.length VC) := by rw [← HV1.out]; exact HP.out.blk.at (o := 1) rfl
    have f0 : w'.frozen? ⟨b, 1, none⟩ = false := HP.out.blk.free _
    have HO0 : Hid (OwnB w' base (.slice VA L.length VC) L) := Lib.hid (by rw [← HV1.out, HL.out]; exact HP.out.own 0 (by omega))
    go_wp2_with fail
    go_region_law ((refine step_app_sl rfl (.tmp 34) (.tmp 37) rfl base (.slice VA L.length VC) L (p.take n) (by go_simp) (by exact HO0.out) B (.slice A n c) (by go_simp) (by exact HSL.out) (by rw [Hq.out]; omega) (by exact hbs) ?_; intro V' w2 hO hg ho; obtain ⟨VA', VC', rfl, _, _, _, _⟩ := hO.sl; rw [Hlq.out] at hO ho; have hne : some b ≠ (Value.slice VA L.length VC).ownBlock := (by rw [← HV1.out]; exact (HP.out.apb 0 (by omega)).1.symm); have hb2 := ((HP.out.blk.drewN q).drew).grown hg hne; have hc2 := hb2.at (o := 1) rfl; have hf2 := hb2.free 1; have hc3 := hb2.at (o := 3) rfl; have hf3 := hb2.free 3; rw [← hT] at hc3; have HO := Lib.hid hO; clear hO; have Hg := Lib.hid hg; clear hg; have Ho := Lib.hid ho; clear ho; have HB2 := Lib.hid hb2; clear hb2))
    go_wp2_with fail
    go_ret2
    refine ⟨rfl, _, write_fin HP.out 0 (by omega) (w2 := w2) (by have := grown_drew_pp Hg.out; rw [← HV1.out] at this; exact this) ?_ (by have := Ho.out; rw [← HV1.out] at this; exact this) ?_ ?_ ?_ ?_⟩
    · rw [HX3.out]; exact HO.out
    · rw [HX3.out]
    · rw [HX3.out]
    · rw [HX3.out]; show (L ++ p.take n).length ≤ room; rw [Hlq.out]; omega
    · rw [HX3.out]; show _ = (w2.setCell ⟨b, 1, none⟩ _).setCell ⟨b, 3, none⟩ (.int .u64 (un (T + n))); rw [← hadd, ← HNN.out, hT]
theorem wshut_1 (h : PP w base b room V H X) (hs : (X 1).shut = true) (v : Value) :
    Calls Tryd.prog 14 #[tP b, .int .i64 1, v] w fun e w' => e = .returned (.tuple #[.int .i64 0, .int .i64 14]) ∧ w' = w := by
  have HD := Lib.hid (dir_ok b 1 (by omega) w)
  have k1 : w.cell? ⟨b, 6, none⟩ = some (.bool (X 1).shut) := h.blk.at (o := 6) rfl
  rw [hs] at k1
  clear h hs
  go_enter Tryd.func14, Tryd.ntmps14
  go_wp2_with fail
  refine HD.out.mono ?_
  rintro e w' ⟨rfl, rfl⟩
  go_wp2_with fail
  go_ret2
  exact ⟨rfl, rfl⟩
set_option maxHeartbeats 1000000 in
theorem write_1 (h : PP w base b room V H X) (hs : (X 1).shut = false) (B : Nat) (v : Value) (p : List UInt8) (hv : Sl w B v p) :
    Calls Tryd.prog 14 #[tP b, .int .i64 1, v] w fun e w' => e = .returned (.tuple #[.int .i64 (wrN room (X 1) p : Int), .int .i64 0]) ∧ ∃ v', PP w' base b room (upd V 1 v') H (upd X 1 (wrX room (X 1) p)) ∧ Trs (ppS b V H) w w' ∧ (∀ k ∈ ppS b (upd V 1 v') H, k ∈ ppS b V H ∨ w.heap.size ≤ k) := by
  have HD := Lib.hid (dir_ok b 1 (by omega) w)
  have HRm := Lib.hid (room_1 h)
  have HP := Lib.hid h
  have HV := Lib.hid hv
  have k1 : w.cell? ⟨b, 6, none⟩ = some (.bool (X 1).shut) := h.blk.at (o := 6) rfl
  rw [hs] at k1
  have hln := h.len 1 (by omega)
  have hr2 := h.r2
  have hrm : roomL room (X 1) = (room : Int) - ((X 1).buf.length : Int) := by unfold roomL; rw [hs]; rfl
  rw [hrm] at HRm
  obtain ⟨A, c, rfl, _, q1, q2, _⟩ := hv
  obtain ⟨n, hn⟩ : ∃ n, n = wrN room (X 1) p := ⟨_, rfl⟩
  obtain ⟨x2, hx2⟩ : ∃ x, x = wrX room (X 1) p := ⟨_, rfl⟩
  rw [← hn, ← hx2]
  have hx3 : x2 = { X 1 with buf := (X 1).buf ++ p.take n, wrote := (X 1).wrote + n } := by rw [hx2, hn]; rfl
  have hnle : n ≤ p.length := by rw [hn]; unfold wrN; omega
  have hnr : n + (X 1).buf.length ≤ room := by rw [hn]; unfold wrN; omega
  have HN := Lib.hid (show (((p.length : Int) ≤ (room : Int) - ((X 1).buf.length : Int) ∧ (n : Int) = (p.length : Int)) ∨ (¬ (p.length : Int) ≤ (room : Int) - ((X 1).buf.length : Int) ∧ (n : Int) = (room : Int) - ((X 1).buf.length : Int))) from by rw [hn]; unfold wrN; omega)
  obtain ⟨VA, VC, hV, _, _, _, _⟩ := (h.own 1 (by omega)).sl
  have HV1 := Lib.hid hV; clear hV
  have HX3 := Lib.hid hx3
  have hbs := h.size
  clear hrm hs hn hx2 hx3 h
  obtain ⟨L, hL⟩ : ∃ L, L = (X 1).buf := ⟨_, rfl⟩
  rw [← hL] at hln HRm hnr HN HV1 HX3
  have HL := Lib.hid hL; clear hL
  have HSL := Lib.hid (show Sl w B (.slice A n c) (p.take n) from by
    obtain ⟨A2, c2, e2, _, _, _, hsl⟩ := HV.out.take n hnle
    injection e2 with e3 _ e4
    subst e3; subst e4
    exact hsl)
  have Hq : Hid ((p.take n).length = n) := Lib.hid (by rw [List.length_take]; omega)
  have Hlq : Hid ((L ++ p.take n).length = L.length + n) := Lib.hid (by rw [List.length_append, List.length_take]; omega)
  have hun := un_cast n (by omega)
  obtain ⟨N, hNN⟩ : ∃ N : Int, N = (n : Int) := ⟨_, rfl⟩
  have hrun : ∀ w, (Instr.slice 29 (.slice A p.length c) none (some (.int .i64 N)) none).run Tryd.prog w = .ok (.slice A n c) w := by rw [hNN]; exact slice_h A p.length c n (by omega)
  rw [← hNN] at HN ⊢
  have HNN := Lib.hid hNN; clear hNN hun
  have hadd := un_add (X 1).wrote n
  obtain ⟨T, hT⟩ : ∃ T, T = (X 1).wrote := ⟨_, rfl⟩
  rw [← hT] at hadd HX3
  rcases HN.out with ⟨hc, rfl⟩ | ⟨hc, rfl⟩
  all_goals
    go_enter Tryd.func14, Tryd.ntmps14
    go_wp2_with fail
    refine HD.out.mono ?_
    rintro e w' ⟨rfl, rfl⟩
    go_wp2_with fail
    refine HRm.out.mono ?_
    rintro e w1 ⟨rfl, q, rfl⟩
    have c0 : w'.cell? ⟨b, 5, none⟩ = some (.slice VA L.length VC) := by rw [← HV1.out]; exact HP.out.blk.at (o := 5) rfl
    have f0 : w'.frozen? ⟨b, 5, none⟩ = false := HP.out.blk.free _
    have HO0 : Hid (OwnB w' base (.slice VA L.length VC) L) := Lib.hid (by rw [← HV1.out, HL.out]; exact HP.out.own 1 (by omega))
    go_wp2_with fail
    go_region_law ((refine step_app_sl rfl (.tmp 34) (.tmp 37) rfl base (.slice VA L.length VC) L (p.take n) (by go_simp) (by exact HO0.out) B (.slice A n c) (by go_simp) (by exact HSL.out) (by rw [Hq.out]; omega) (by exact hbs) ?_; intro V' w2 hO hg ho; obtain ⟨VA', VC', rfl, _, _, _, _⟩ := hO.sl; rw [Hlq.out] at hO ho; have hne : some b ≠ (Value.slice VA L.length VC).ownBlock := (by rw [← HV1.out]; exact (HP.out.apb 1 (by omega)).1.symm); have hb2 := ((HP.out.blk.drewN q).drew).grown hg hne; have hc2 := hb2.at (o := 5) rfl; have hf2 := hb2.free 5; have hc3 := hb2.at (o := 7) rfl; have hf3 := hb2.free 7; rw [← hT] at hc3; have HO := Lib.hid hO; clear hO; have Hg := Lib.hid hg; clear hg; have Ho := Lib.hid ho; clear ho; have HB2 := Lib.hid hb2; clear hb2))
    go_wp2_with fail
    go_ret2
    refine ⟨rfl, _, write_fin HP.out 1 (by omega) (w2 := w2) (by have := grown_drew_pp Hg.out; rw [← HV1.out] at this; exact this) ?_ (by have := Ho.out; rw [← HV1.out] at this; exact this) ?_ ?_ ?_ ?_⟩
    · rw [HX3.out]; exact HO.out
    · rw [HX3.out]
    · rw [HX3.out]
    · rw [HX3.out]; show (L ++ p.take n).length ≤ room; rw [Hlq.out]; omega
    · rw [HX3.out]; show _ = (w2.setCell ⟨b, 5, none⟩ _).setCell ⟨b, 7, none⟩ (.int .u64 (un (T + n))); rw [← hadd, ← HNN.out, hT]
end
end Go.Proofs.YtlobmffcnobgeaaDoor
