/- What isn't all there is told as short. -/
import Derived.Test.YtgipbkopndghdaaDoorHdRq
set_option maxRecDepth 100000
namespace Go.Proofs.YtgipbkopndghdaaDoor
open Go.RowKit Go.Shelf
theorem parse_short (b o c : Nat) (l : List UInt8) (f : Value) (w : World) (hE : Env w) (hl : Bs w b o l) (hb : b < w.heap.size) (hc : l.length ≤ c) (hc2 : c ≤ 9223372036854775807) (hs : l.length < 4096) (hn : endL l = -1) :
    Calls Tryd.prog 44 #[.slice (some ⟨b, o, none⟩) l.length c, f] w fun e w' => e = .returned (.tuple #[.slice none 0 0, .int .i64 0, .int .i64 2]) ∧ Below w.heap.size w w' := by
  have hS := size_any b o c l w hE hl hb hc hc2 (by omega)
  have hd : sizeT l = (0, 2) := by unfold sizeT; rw [if_pos hn, if_pos hs]
  rw [hd] at hS
  have HS := Lib.hid hS
  clear hS hd hn hE hl
  go_enter Tryd.func44, Tryd.ntmps44
  go_wp2_with fail
  refine HS.out.mono ?_
  rintro e w1 ⟨rfl, hB⟩
  have HB := Lib.hid hB; clear hB HS
  go_wp2_with fail
  go_ret3
  exact ⟨rfl, HB.out⟩
set_option maxHeartbeats 1000000 in
theorem request_short (b o c : Nat) (l : List UInt8) (w : World) (hE : Env w) (hl : Bs w b o l) (hb : b < w.heap.size) (hc : l.length ≤ c) (hc2 : c ≤ 9223372036854775807) (hs : l.length < 4096) (hn : endL l = -1) :
    Calls Tryd.prog 28 #[.slice (some ⟨b, o, none⟩) l.length c] w fun e w' => e = .returned (.tuple #[.agg #[str [], str [], .slice none 0 0], .int .i64 0, .int .i64 2]) ∧ Below w.heap.size w w' := by
  have hb1 : Below w.heap.size w ((w.alloc (.cells #[str [], str [], .slice none 0 0] 63)).alloc (.cells #[str [], str [], .slice none 0 0] 63)) :=
    ((Below.refl _ w).alloc (Nat.le_refl _) _).alloc (by simp) _
  have hk0 := (Blk.new w [str [], str [], .slice none 0 0] 63).alloc (.cells #[str [], str [], .slice none 0 0] 63)
  have HPA := Lib.hid (fun f => parse_short b o c l f _ (hE.below hb1) (hl.below hb1 hb) (by simp; omega) hc hc2 hs hn)
  have HK0 := Lib.hid hk0
  have HB1 := Lib.hid hb1
  clear hb1 hk0 hE hl hn
  go_enter Tryd.func28, Tryd.ntmps28
  go_wp2_with fail
  refine (HPA.out _).mono ?_
  rintro e w3 ⟨rfl, hB⟩
  have hsz := hB.size
  simp only [World.size_alloc] at hsz
  have hkr := HK0.out.below hB (by simp; omega)
  have hB3 : Below w.heap.size w w3 := HB1.out.trans (hB.mono (by simp; omega))
  have HB3 := Lib.hid hB3
  have a0 := hkr.at (o := 0) rfl
  have a1 := hkr.at (o := 1) rfl
  have a2 := hkr.at (o := 2) rfl
  have f0 := hkr.free 0
  have f1 := hkr.free 1
  have f2 := hkr.free 2
  have hlt := hkr.lt
  clear hkr hB3 hB HPA HK0 hsz
  go_wp2_with fail
  have hBf : Below w.heap.size w (((w3.setCell ⟨w.heap.size, 0, none⟩ (str [])).setCell ⟨w.heap.size, 1, none⟩ (str [])).setCell ⟨w.heap.size, 2, none⟩ (.slice none 0 0)) :=
    ((HB3.out.setCell (p := ⟨w.heap.size, 0, none⟩) (Nat.le_refl _) _).setCell (p := ⟨w.heap.size, 1, none⟩) (Nat.le_refl _) _).setCell (p := ⟨w.heap.size, 2, none⟩) (Nat.le_refl _) _
  exact bodyPost_ret (v := .tuple #[.agg #[str [], str [], .slice none 0 0], .int .i64 0, .int .i64 2]) (by simp [results, Tryd.results28, go_sem, a0, a1, a2]) rfl
    ⟨rfl, hBf⟩
set_option maxHeartbeats 1000000 in
theorem answer_short (b o c : Nat) (l : List UInt8) (w : World) (hE : Env w) (hl : Bs w b o l) (hb : b < w.heap.size) (hc : l.length ≤ c) (hc2 : c ≤ 9223372036854775807) (hs : l.length < 4096) (hn : endL l = -1) :
    Calls Tryd.prog 33 #[.slice (some ⟨b, o, none⟩) l.length c] w fun e w' => e = .returned (.tuple #[.agg #[.int .i64 0, str [], .slice none 0 0], .int .i64 0, .int .i64 2]) ∧ Below w.heap.size w w' := by
  have hb1 : Below w.heap.size w ((w.alloc (.cells #[.int .i64 0, str [], .slice none 0 0] 69)).alloc (.cells #[.int .i64 0, str [], .slice none 0 0] 69)) :=
    ((Below.refl _ w).alloc (Nat.le_refl _) _).alloc (by simp) _
  have hk0 := (Blk.new w [.int .i64 0, str [], .slice none 0 0] 69).alloc (.cells #[.int .i64 0, str [], .slice none 0 0] 69)
  have HPA := Lib.hid (fun f => parse_short b o c l f _ (hE.below hb1) (hl.below hb1 hb) (by simp; omega) hc hc2 hs hn)
  have HK0 := Lib.hid hk0
  have HB1 := Lib.hid hb1
  clear hb1 hk0 hE hl hn
  go_enter Tryd.func33, Tryd.ntmps33
  go_wp2_with fail
  refine (HPA.out _).mono ?_
  rintro e w3 ⟨rfl, hB⟩
  have hsz := hB.size
  simp only [World.size_alloc] at hsz
  have hkr := HK0.out.below hB (by simp; omega)
  have hB3 : Below w.heap.size w w3 := HB1.out.trans (hB.mono (by simp; omega))
  have HB3 := Lib.hid hB3
  have a0 := hkr.at (o := 0) rfl
  have a1 := hkr.at (o := 1) rfl
  have a2 := hkr.at (o := 2) rfl
  have f0 := hkr.free 0
  have f1 := hkr.free 1
  have f2 := hkr.free 2
  have hlt := hkr.lt
  clear hkr hB3 hB HPA HK0 hsz
  go_wp2_with fail
  have hBf : Below w.heap.size w (((w3.setCell ⟨w.heap.size, 0, none⟩ (.int .i64 0)).setCell ⟨w.heap.size, 1, none⟩ (str [])).setCell ⟨w.heap.size, 2, none⟩ (.slice none 0 0)) :=
    ((HB3.out.setCell (p := ⟨w.heap.size, 0, none⟩) (Nat.le_refl _) _).setCell (p := ⟨w.heap.size, 1, none⟩) (Nat.le_refl _) _).setCell (p := ⟨w.heap.size, 2, none⟩) (Nat.le_refl _) _
  exact bodyPost_ret (v := .tuple #[.agg #[.int .i64 0, str [], .slice none 0 0], .int .i64 0, .int .i64 2]) (by simp [results, Tryd.results33, go_sem, a0, a1, a2]) rfl
    ⟨rfl, hBf⟩
end Go.Proofs.YtgipbkopndghdaaDoor
