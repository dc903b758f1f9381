/- The law's parse of what isn't all there; Same of two empty heads. -/
import Derived.Test.YtgipbkopndghdaaDoorHsShort
set_option maxRecDepth 100000
namespace Go.Proofs.YtgipbkopndghdaaDoor
open Go.RowKit Go.Shelf
set_option maxHeartbeats 1000000 in
theorem lawParse_short (asks : Bool) (b o c : Nat) (l : List UInt8) (w : World) (hE : Env w) (hl : Bs w b o l) (hb : b < w.heap.size) (hc : l.length ≤ c) (hc2 : c ≤ 9223372036854775807) (hs : l.length < 4096) (hn : endL l = -1) :
    Calls Tryd.prog 11 #[.slice (some ⟨b, o, none⟩) l.length c, .bool asks] w fun e w' => e = .returned (.tuple #[.agg #[str [], str [], .int .i64 0, .slice none 0 0], .int .i64 0, .int .i64 2]) ∧ Below w.heap.size w w' := by
  have hb1 : Below w.heap.size w (w.alloc (.cells #[str [], str [], .int .i64 0, .slice none 0 0] 24)) := (Below.refl _ w).alloc (Nat.le_refl _) _
  have hk1 := Blk.new w [str [], str [], .int .i64 0, .slice none 0 0] 24
  rw [show [str [], str [], Value.int .i64 0, .slice none 0 0].toArray = #[str [], str [], .int .i64 0, .slice none 0 0] from rfl] at hk1
  have HR := Lib.hid (request_short b o c l _ (hE.below hb1) (hl.below hb1 hb) (by simp; omega) hc hc2 hs hn)
  have HA := Lib.hid (answer_short b o c l _ (hE.below hb1) (hl.below hb1 hb) (by simp; omega) hc hc2 hs hn)
  have HK1 := Lib.hid hk1
  have HB1 := Lib.hid hb1
  clear hb1 hk1 hE hl hn
  cases asks
  · go_enter Tryd.func11, Tryd.ntmps11
    go_wp2_with fail
    refine HA.out.mono ?_
    rintro e w3 ⟨rfl, hB⟩
    have hsz := hB.size
    simp only [World.size_alloc] at hsz
    have hkr := HK1.out.below hB (by simp)
    have hB3 := HB1.out.trans (hB.mono (by simp))
    have HB3 := Lib.hid hB3
    have q0 := hkr.at (o := 0) rfl
    have q1 := hkr.at (o := 1) rfl
    have q2 := hkr.at (o := 2) rfl
    have q3 := hkr.at (o := 3) rfl
    have r0 := hkr.free 0
    have r1 := hkr.free 1
    have r2 := hkr.free 2
    have r3 := hkr.free 3
    have hlt : w.heap.size < w3.heap.size := hkr.lt
    clear hkr hB3 hB HR HA hsz
    go_wp2_with fail
    have hBf : Below w.heap.size w (((((w3.setCell ⟨w.heap.size, 0, none⟩ (str [])).setCell ⟨w.heap.size, 1, none⟩ (str [])).setCell ⟨w.heap.size, 2, none⟩ (.int .i64 0)).setCell ⟨w.heap.size, 3, none⟩ (.slice none 0 0)).alloc (.cells #[.int .i64 0, str [], .slice none 0 0] 69)) := ((((HB3.out.setCell (p := ⟨w.heap.size, 0, none⟩) (Nat.le_refl _) (str [])).setCell (p := ⟨w.heap.size, 1, none⟩) (Nat.le_refl _) (str [])).setCell (p := ⟨w.heap.size, 2, none⟩) (Nat.le_refl _) (.int .i64 0)).setCell (p := ⟨w.heap.size, 3, none⟩) (Nat.le_refl _) (.slice none 0 0)).alloc (by simp; omega) _
    have hne : w.heap.size ≠ w3.heap.size := Nat.ne_of_lt hlt
    have hne2 : w3.heap.size ≠ w.heap.size := hne.symm
    exact bodyPost_ret (v := .tuple #[.agg #[str [], str [], .int .i64 0, .slice none 0 0], .int .i64 0, .int .i64 2]) (by simp [results, Tryd.results11, go_sem, q0, q1, q2, q3, hlt]) rfl ⟨rfl, hBf⟩
  · go_enter Tryd.func11, Tryd.ntmps11
    go_wp2_with fail
    refine HR.out.mono ?_
    rintro e w3 ⟨rfl, hB⟩
    have hsz := hB.size
    simp only [World.size_alloc] at hsz
    have hkr := HK1.out.below hB (by simp)
    have hB3 := HB1.out.trans (hB.mono (by simp))
    have HB3 := Lib.hid hB3
    have q0 := hkr.at (o := 0) rfl
    have q1 := hkr.at (o := 1) rfl
    have q2 := hkr.at (o := 2) rfl
    have q3 := hkr.at (o := 3) rfl
    have r0 := hkr.free 0
    have r1 := hkr.free 1
    have r2 := hkr.free 2
    have r3 := hkr.free 3
    have hlt : w.heap.size < w3.heap.size := hkr.lt
    clear hkr hB3 hB HR HA hsz
    go_wp2_with fail
    have hBf : Below w.heap.size w (((((w3.setCell ⟨w.heap.size, 0, none⟩ (str [])).setCell ⟨w.heap.size, 1, none⟩ (str [])).setCell ⟨w.heap.size, 2, none⟩ (.int .i64 0)).setCell ⟨w.heap.size, 3, none⟩ (.slice none 0 0)).alloc (.cells #[str [], str [], .slice none 0 0] 63)) := ((((HB3.out.setCell (p := ⟨w.heap.size, 0, none⟩) (Nat.le_refl _) (str [])).setCell (p := ⟨w.heap.size, 1, none⟩) (Nat.le_refl _) (str [])).setCell (p := ⟨w.heap.size, 2, none⟩) (Nat.le_refl _) (.int .i64 0)).setCell (p := ⟨w.heap.size, 3, none⟩) (Nat.le_refl _) (.slice none 0 0)).alloc (by simp; omega) _
    have hne : w.heap.size ≠ w3.heap.size := Nat.ne_of_lt hlt
    have hne2 : w3.heap.size ≠ w.heap.size := hne.symm
    exact bodyPost_ret (v := .tuple #[.agg #[str [], str [], .int .i64 0, .slice none 0 0], .int .i64 0, .int .i64 2]) (by simp [results, Tryd.results11, go_sem, q0, q1, q2, q3, hlt]) rfl ⟨rfl, hBf⟩
end Go.Proofs.YtgipbkopndghdaaDoor
