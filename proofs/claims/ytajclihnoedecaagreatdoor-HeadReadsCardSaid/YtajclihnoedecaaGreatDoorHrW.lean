/- head: the law's parse of any bytes; the reference's Parse of none; two heads alike. -/
import Derived.Test.YtajclihnoedecaaGreatDoorHrP
set_option maxRecDepth 100000
namespace Go.Proofs.YtajclihnoedecaaGreatDoor
open Go.RowKit Go.Shelf
attribute [local go_sem] Oper.semAt_some
theorem law_low {w W : World} {a b c d : Value} {o : Obj} (h : Below w.heap.size w W) (hz : w.heap.size ≤ W.heap.size) : Below w.heap.size w (((((W.setCell ⟨w.heap.size, 0, none⟩ a).setCell ⟨w.heap.size, 1, none⟩ b).setCell ⟨w.heap.size, 2, none⟩ c).setCell ⟨w.heap.size, 3, none⟩ d).alloc o) :=
  (hd_low h).alloc (by simp; omega) o
theorem law_own {w W : World} {a b c d v : Value} {o : Obj} {fs : List (List UInt8 × List UInt8)} (h : OwnP W (w.heap.size + 1) v fs) : OwnP (((((W.setCell ⟨w.heap.size, 0, none⟩ a).setCell ⟨w.heap.size, 1, none⟩ b).setCell ⟨w.heap.size, 2, none⟩ c).setCell ⟨w.heap.size, 3, none⟩ d).alloc o) w.heap.size v fs :=
  (((((h.set (b := w.heap.size) (i := 0) (by omega) a).set (b := w.heap.size) (i := 1) (by omega) b).set (b := w.heap.size) (i := 2) (by omega) c).set (b := w.heap.size) (i := 3) (by omega) d).below ((Below.refl _ _).alloc (Nat.le_refl _) o)).le (by omega)
set_option maxHeartbeats 2000000 in
theorem lawParse_any (asks : Bool) (b o c : Nat) (l : List UInt8) (w : World) (hE : Env w) (hl : Bs w b o l) (hb : b < w.heap.size) (hc : l.length ≤ c) (hc2 : c ≤ 9223372036854775807) (hs : l.length ≤ 5000) :
    Calls Tryz.prog 8 #[.slice (some ⟨b, o, none⟩) l.length c, .bool asks] w (PrsR asks w l) := by
  have hb1 : Below w.heap.size w (w.alloc (.cells #[str [], str [], .int .i64 0, .slice none 0 0] 29)) := (Below.refl _ w).alloc (Nat.le_refl _) _
  have hk1 := Blk.new w [str [], str [], .int .i64 0, .slice none 0 0] 29
  rw [show [str [], str [], Value.int .i64 0, .slice none 0 0].toArray = #[str [], str [], .int .i64 0, .slice none 0 0] from rfl] at hk1
  have HR := Lib.hid (request_any b o c l _ (hE.below hb1) (hl.below hb1 hb) (by simp; omega) hc hc2 hs)
  have HA := Lib.hid (answer_any b o c l _ (hE.below hb1) (hl.below hb1 hb) (by simp; omega) hc hc2 hs)
  have HK1 := Lib.hid hk1
  have HB1 := Lib.hid hb1
  clear hb1 hk1 hE hl
  cases asks
  · go_enter Tryz.func8, Tryz.ntmps8
    go_wp2_with fail
    refine HA.out.mono ?_
    rintro e w3 ⟨v, fs, n, x, rfl, hp, hO, hB⟩
    obtain ⟨st, hst⟩ : ∃ st : Int, st = if x = 0 then (ansT (line0 l)).1 else 0 := ⟨_, rfl⟩
    obtain ⟨B, hBB⟩ : ∃ B, B = if x = 0 then (ansT (line0 l)).2.1 else [] := ⟨_, rfl⟩
    rw [← hst, ← hBB]
    have HST := Lib.hid hst; have HBB := Lib.hid hBB
    have hsz := hB.size
    simp only [World.size_alloc] at hsz hO
    obtain ⟨VA, VC, rfl⟩ := hO.form
    have hkr := HK1.out.below hB (by simp)
    have HB3 := Lib.hid (HB1.out.trans (hB.mono (by simp)))
    have HO := Lib.hid hO; have HP := Lib.hid hp
    have q0 := hkr.at (o := 0) rfl
    have q1 := hkr.at (o := 1) rfl
    have q2 := hkr.at (o := 2) rfl
    have q3 := hkr.at (o := 3) rfl
    have r0 := hkr.free 0
    have r1 := hkr.free 1
    have r2 := hkr.free 2
    have r3 := hkr.free 3
    have hlt : w.heap.size < w3.heap.size := hkr.lt
    clear hkr hB HR HA hsz hst hBB hO hp
    go_wp2_with fail
    exact bodyPost_ret (v := .tuple #[.agg #[str B, str [], .int .i64 st, .slice VA fs.length VC], .int .i64 n, .int .i64 x]) (by simp [results, Tryz.results8, go_sem, q0, q1, q2, q3, hlt]) rfl
      ⟨_, fs, n, x, by rw [HST.out, HBB.out]; by_cases hx : x = 0 <;> simp [hx, hdA], HP.out, law_own HO.out, law_low HB3.out (by omega)⟩
  · go_enter Tryz.func8, Tryz.ntmps8
    go_wp2_with fail
    refine HR.out.mono ?_
    rintro e w3 ⟨v, fs, n, x, rfl, hp, hO, hB⟩
    obtain ⟨A, hst⟩ : ∃ A, A = if x = 0 then (reqT (line0 l)).1 else [] := ⟨_, rfl⟩
    obtain ⟨B, hBB⟩ : ∃ B, B = if x = 0 then (reqT (line0 l)).2.1 else [] := ⟨_, rfl⟩
    rw [← hst, ← hBB]
    have HST := Lib.hid hst; have HBB := Lib.hid hBB
    have hsz := hB.size
    simp only [World.size_alloc] at hsz hO
    obtain ⟨VA, VC, rfl⟩ := hO.form
    have hkr := HK1.out.below hB (by simp)
    have HB3 := Lib.hid (HB1.out.trans (hB.mono (by simp)))
    have HO := Lib.hid hO; have HP := Lib.hid hp
    have q0 := hkr.at (o := 0) rfl
    have q1 := hkr.at (o := 1) rfl
    have q2 := hkr.at (o := 2) rfl
    have q3 := hkr.at (o := 3) rfl
    have r0 := hkr.free 0
    have r1 := hkr.free 1
    have r2 := hkr.free 2
    have r3 := hkr.free 3
    have hlt : w.heap.size < w3.heap.size := hkr.lt
    clear hkr hB HR HA hsz hst hBB hO hp
    go_wp2_with fail
    exact bodyPost_ret (v := .tuple #[.agg #[str A, str B, .int .i64 0, .slice VA fs.length VC], .int .i64 n, .int .i64 x]) (by simp [results, Tryz.results8, go_sem, q0, q1, q2, q3, hlt]) rfl
      ⟨_, fs, n, x, by rw [HST.out, HBB.out]; by_cases hx : x = 0 <;> simp [hx, hdA], HP.out, law_own HO.out, law_low HB3.out (by omega)⟩
set_option maxHeartbeats 1000000 in
theorem refParse_nil (asks : Bool) (w : World) : Calls Tryz.prog 9 #[.slice none 0 0, .bool asks] w (PrsR asks w []) := by
  have HPL : Hid (parseL (fun l => (hdA asks l).2.2.2) [] = ([], 0, 2)) := Lib.hid (by
    unfold parseL
    rw [if_pos (show endL [] = -1 from by unfold endL; rfl)]; rfl)
  have hk0 := Blk.new w [str [], str [], .int .i64 0, .slice none 0 0] 29
  go_enter Tryz.func9, Tryz.ntmps9
  go_wp2_with fail
  go_loop [7, 8] (fun e i => e = .int .i64 (-1) ∧ i = .int .i64 0) (fun _ _ => 0)
  case atStart => exact ⟨rfl, rfl⟩
  case round =>
    obtain ⟨rfl, rfl⟩ := hrel
    go_wp2_with fail
    exact bodyPost_ret (v := .tuple #[hd4 [] [] 0 (.slice none 0 0), .int .i64 0, .int .i64 2]) (by simp [results, Tryz.results9, go_sem]) rfl (hd_zero asks w [] 2 _ (by decide) HPL.out ((Below.refl _ w).alloc (Nat.le_refl _) _))
end Go.Proofs.YtajclihnoedecaaGreatDoor
