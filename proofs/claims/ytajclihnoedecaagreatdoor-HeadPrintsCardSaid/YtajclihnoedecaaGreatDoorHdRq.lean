/- head.ParseRequest, head.Split, the law's awake. -/
import Derived.Test.YtajclihnoedecaaGreatDoorHdPar
import Derived.Test.YtajclihnoedecaaGreatDoorDecW
namespace Go.Proofs.YtajclihnoedecaaGreatDoor
open Go.RowKit Go.Shelf
abbrev reqP (p : List UInt8) := parseL (fun l => (reqT l).2.2) p
abbrev line0 (p : List UInt8) : List UInt8 := (headLines p).headD []
theorem parseL_bad (st : List UInt8 → Bool) (p : List UInt8) (fs : List (List UInt8 × List UInt8)) (n x : Int) (h : parseL st p = (fs, n, x)) (hx : x ≠ 0) : fs = [] ∧ n = 0 := by
  unfold parseL at h
  split at h
  · cases h; exact ⟨rfl, rfl⟩
  · split at h
    · cases h; exact ⟨rfl, rfl⟩
    · split at h
      · cases h; exact ⟨rfl, rfl⟩
      · split at h
        · cases h; exact ⟨rfl, rfl⟩
        · cases h; exact absurd rfl hx
theorem OwnP.set {w : World} {base : Nat} {v : Value} {fs : List (List UInt8 × List UInt8)} (h : OwnP w base v fs) {b i : Nat} (hb : b < base) (u : Value) : OwnP (w.setCell ⟨b, i, none⟩ u) base v fs :=
  World.ownsRow.kept h (grown_set w ⟨b, i, none⟩ u) (.inr (fun e => by have : base ≤ b := (World.ownsRow.lt h b e).1; omega))
theorem start_ok : StOk 30 (fun l => (reqT l).2.2) (fun l => str (reqT l).1) (fun l => str (reqT l).2.1) := fun l0 r x y z A hE hl hk => start_any l0 r x y z A hE hl hk
/-- What ParseRequest gives. -/
def ReqR (w : World) (p : List UInt8) (e : Ending) (w' : World) : Prop :=
  ∃ v fs n x, e = .returned (.tuple #[.agg #[str (if x = 0 then (reqT (line0 p)).1 else []), str (if x = 0 then (reqT (line0 p)).2.1 else []), v], .int .i64 n, .int .i64 x]) ∧ reqP p = (fs, n, x) ∧ OwnP w' w.heap.size v fs ∧ Below w.heap.size w w'
set_option maxRecDepth 100000 in
set_option maxHeartbeats 1000000 in
theorem request_any (b o c : Nat) (l : List UInt8) (w : World) (hE : Env w) (hl : Bs w b o l) (hb : b < w.heap.size) (hc : l.length ≤ c) (hc2 : c ≤ 9223372036854775807) (hs : l.length ≤ 5000) :
    Calls Tryz.prog 15 #[.slice (some ⟨b, o, none⟩) l.length c] w (ReqR w l) := by
  have hb1 : Below w.heap.size w ((w.alloc (.cells #[str [], str [], .slice none 0 0] 45)).alloc (.cells #[str [], str [], .slice none 0 0] 45)) :=
    ((Below.refl _ w).alloc (Nat.le_refl _) _).alloc (by simp) _
  have hk0 := (Blk.new w [str [], str [], .slice none 0 0] 45).alloc (.cells #[str [], str [], .slice none 0 0] 45)
  have hk1 := Blk.new (w.alloc (.cells #[str [], str [], .slice none 0 0] 45)) [str [], str [], .slice none 0 0] 45
  rw [World.size_alloc] at hk1
  have HPA := Lib.hid (parse_st 30 (enters_of Tryz.func30 (by kernel_rfl) rfl) _ _ _ start_ok b o c (w.heap.size + 1) l (str []) (str []) (.slice none 0 0) w _ hE hb1 (by omega) (hl.below hb1 hb) (by simp; omega) hc hc2 hs hk1)
  have HK0 := Lib.hid hk0
  have HB1 := Lib.hid hb1
  clear hb1 hk0 hk1 hE hl
  go_enter Tryz.func15, Tryz.ntmps15
  go_wp2_with fail
  refine HPA.out.mono ?_
  rintro e w3 ⟨v, fs, n, x, rfl, hp, hO, hg, ⟨x0, x1, hk⟩, hq⟩
  have hsz := hg.size
  simp only [World.size_alloc] at hsz
  have hkr := HK0.out.grown hg (by simp)
  have hB3 : Below w.heap.size w w3 := HB1.out.trans (belowR hg (by simp; omega) (by omega))
  obtain ⟨VA, VC, rfl⟩ := hO.form
  have HO := Lib.hid (hO.le (base' := w.heap.size + 2) (by simp))
  have HB3 := Lib.hid hB3
  have a0 := hkr.at (o := 0) rfl
  have a1 := hkr.at (o := 1) rfl
  have a2 := hkr.at (o := 2) rfl
  have f0 := hkr.free 0
  have f1 := hkr.free 1
  have f2 := hkr.free 2
  have hlt := hkr.lt
  have HKR := Lib.hid hkr
  by_cases hx : x = 0
  · subst hx
    have hk2 := hq rfl
    replace hk2 : Blk w3 (w.heap.size + 1) [str (reqT ((headLines l).headD [])).1, str (reqT ((headLines l).headD [])).2.1, .slice none 0 0] := hk2
    have b0 := hk2.at (o := 0) rfl
    have b1 := hk2.at (o := 1) rfl
    have b2 := hk2.at (o := 2) rfl
    have g2 := hk2.free 2
    have hlt2 := hk2.lt
    have HP := Lib.hid hp
    obtain ⟨A, B, hAB⟩ : ∃ A B, A = (reqT ((headLines l).headD [])).1 ∧ B = (reqT ((headLines l).headD [])).2.1 := ⟨_, _, rfl, rfl⟩
    rw [← hAB.1] at b0
    rw [← hAB.2] at b1
    have HAB := Lib.hid hAB
    clear hk2 hk hq hp hAB hO hg hkr hB3 HPA HK0 hsz
    go_wp2_with fail
    have hBf : Below w.heap.size w ((((w3.setCell ⟨w.heap.size + 1, 2, none⟩ (.slice VA fs.length VC)).setCell ⟨w.heap.size, 0, none⟩ (str A)).setCell ⟨w.heap.size, 1, none⟩ (str B)).setCell ⟨w.heap.size, 2, none⟩ (.slice VA fs.length VC)) :=
      (((HB3.out.setCell (p := ⟨w.heap.size + 1, 2, none⟩) (by show w.heap.size ≤ w.heap.size + 1; omega) _).setCell (p := ⟨w.heap.size, 0, none⟩) (Nat.le_refl _) _).setCell (p := ⟨w.heap.size, 1, none⟩) (Nat.le_refl _) _).setCell (p := ⟨w.heap.size, 2, none⟩) (Nat.le_refl _) _
    have hOf := ((((HO.out.set (b := w.heap.size + 1) (i := 2) (by omega) (.slice VA fs.length VC)).set (b := w.heap.size) (i := 0) (by omega) (str A)).set (b := w.heap.size) (i := 1) (by omega) (str B)).set (b := w.heap.size) (i := 2) (by omega) (.slice VA fs.length VC)).le (base' := w.heap.size) (by omega)
    exact bodyPost_ret (v := .tuple #[.agg #[str A, str B, .slice VA fs.length VC], .int .i64 n, .int .i64 0]) (by simp [results, Tryz.results15, go_sem, a0, a1, a2]) rfl
      ⟨_, _, _, _, by rw [if_pos rfl, if_pos rfl, HAB.out.1, HAB.out.2], HP.out, hOf, hBf⟩
  · obtain ⟨rfl, rfl⟩ := parseL_bad _ _ _ _ _ hp hx
    have hne : (x == 0) = false := by rw [beq_eq_false_iff_ne]; exact hx
    have HX := Lib.hid hx
    have HP := Lib.hid hp
    clear hk hq hp hx hO hg hkr hB3 HPA HK0 hsz
    go_wp2_with fail
    have hBf : Below w.heap.size w (((w3.setCell ⟨w.heap.size, 0, none⟩ (str [])).setCell ⟨w.heap.size, 1, none⟩ (str [])).setCell ⟨w.heap.size, 2, none⟩ (.slice none 0 0)) :=
      ((HB3.out.setCell (p := ⟨w.heap.size, 0, none⟩) (Nat.le_refl _) _).setCell (p := ⟨w.heap.size, 1, none⟩) (Nat.le_refl _) _).setCell (p := ⟨w.heap.size, 2, none⟩) (Nat.le_refl _) _
    exact bodyPost_ret (v := .tuple #[.agg #[str [], str [], .slice none 0 0], .int .i64 0, .int .i64 x]) (by simp [results, Tryz.results15, go_sem, a0, a1, a2]) rfl
      ⟨_, _, _, _, by rw [if_neg HX.out, if_neg HX.out], HP.out, World.ownsRow_nil _ _ _ 2, hBf⟩
end Go.Proofs.YtajclihnoedecaaGreatDoor
