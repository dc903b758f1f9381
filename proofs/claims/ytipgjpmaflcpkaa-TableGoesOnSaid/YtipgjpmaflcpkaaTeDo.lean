/- The law's do: a call on both. -/
import Derived.Test.YtipgjpmaflcpkaaTeBoth
import Derived.Test.YtipgjpmaflcpkaaStrC
import Derived.Deep.RegionHeld3
set_option maxRecDepth 100000
namespace Go.Proofs.Ytipgjpmaflcpkaa
open Go.RowKit Go.Shelf
abbrev tO : TypeId := 33
section
variable {w w1 w2 w' : World} {b0 T m cap X : Nat} {xs xs1 : List Nd}
set_option maxHeartbeats 4000000 in
theorem do_any (h : DX w b0 T m cap X xs) (d : Int) (s : List UInt8) (v : Int) (hd0 : 0 ≤ d) (hd1 : d ≤ 255) (hs : s.length ≤ 9223372036854775807) :
    Calls Try.prog 7 #[tP T, tP X, .agg #[.int .u8 d, strT s, .int .i64 v]] w fun e w' => e = .returned (.bool true) ∧ ∃ xs', St2 w w' b0 T m cap X xs xs' := by
  obtain ⟨k, hk⟩ : ∃ k, k = s.take 12 := ⟨_, rfl⟩
  have hkl : k.length ≤ 100000 := by rw [hk, List.length_take]; omega
  have hr3 := r3_lo v
  obtain ⟨W, hW⟩ : ∃ W, W = (w.alloc (.cells #[.int .u8 d, strT s, .int .i64 v] tO)).alloc (.cells #[.int .i64 (v.tmod 3 % 3)] 3) := ⟨_, rfl⟩
  have hB : Below w.heap.size w W := by rw [hW]; exact ((Below.refl _ w).alloc (Nat.le_refl _) _).alloc (by simp) _
  have hP : BlkT W w.heap.size tO [.int .u8 d, strT s, .int .i64 v] := by rw [hW]; exact BlkT.alloc (heap_alloc_new w _) _
  have hR : BlkT W (w.heap.size + 1) 3 [.int .i64 (v.tmod 3 % 3)] := by
    rw [hW]
    have := heap_alloc_new (w.alloc (.cells #[.int .u8 d, strT s, .int .i64 v] tO)) (.cells #[.int .i64 (v.tmod 3 % 3)] 3)
    rwa [World.size_alloc] at this
  have H := Lib.hid (h.keep hB)
  have HB := Lib.hid hB
  have HP := Lib.hid hP
  have HR := Lib.hid hR
  clear hB hP hR h
  have c0 : (w.alloc (.cells #[.int .u8 d, strT s, .int .i64 v] tO)).cell? ⟨w.heap.size, 0, none⟩ = some (.int .u8 d) := BlkT.at (heap_alloc_new w (.cells #[.int .u8 d, strT s, .int .i64 v] tO)) rfl
  go_enter Try.func7, Try.ntmps7
  go_wp2_with fail
  refine (cutText_any s 12 _ hs (by omega) (by omega)).mono ?_
  rintro e w1 ⟨rfl, rfl⟩
  rw [show ((12 : Int).toNat) = 12 from rfl, ← hk]
  clear hk
  go_wp2_with fail
  · -- Set
    rw [← hW]
    obtain ⟨r, hc⟩ := set_both (H.out.keep (Below.refl _ W).drew) k v hkl
    have HC := Lib.hid hc
    have e2 : W.cell? ⟨w.heap.size, 2, none⟩ = some (.int .i64 v) := HP.out.at rfl
    clear hc hW c0
    go_region_held3 (fun w' => w'.cell? ⟨w.heap.size, 2, none⟩ = some (.int .i64 v)) (first | exact e4 | exact e3 | go_keep)
      (first
        | (go_at_call 14; refine HC.out.mono ?_; rintro e w3 ⟨rfl, xs1, hm, hc2⟩; have e3 : w3.cell? ⟨w.heap.size, 2, none⟩ = some (.int .i64 v) := (hm.box (H.out.keep (Below.refl _ W).drew) HP.out.drew (by decide) (by decide)).at rfl; have HC2 := Lib.hid hc2; clear hc2 hm)
        | (go_at_call 15; refine HC2.out.mono ?_; rintro e w4 ⟨rfl, hst⟩; have e4 : w4.cell? ⟨w.heap.size, 2, none⟩ = some (.int .i64 v) := (hst.box (H.out.keep (Below.refl _ W).drew) HP.out.drew (by decide) (by decide) (by decide)).at rfl; have HST := Lib.hid hst; clear hst))
    all_goals
      go_wp2_with fail
      go_ret
      exact ⟨by simp, xs1, (HST.out.pre (Below.refl _ W).drew).pre HB.out⟩
  · -- Drop
    rw [← hW]
    obtain ⟨r, hc⟩ := drop_both H.out k hkl
    clear hW c0
    refine hc.mono ?_
    rintro e w3 ⟨rfl, xs1, hm, hc2⟩
    have HC2 := Lib.hid hc2
    clear hc hc2 hm
    go_wp2_with fail
    refine HC2.out.mono ?_
    rintro e w4 ⟨rfl, hst⟩
    have HST := Lib.hid hst
    clear hst HC2
    go_wp2_with fail
    go_ret
    exact ⟨by simp, xs1, HST.out.pre HB.out⟩
  · -- Renew
    rw [← hW]
    obtain ⟨r, hc⟩ := renew_both H.out k hkl
    clear hW c0
    refine hc.mono ?_
    rintro e w3 ⟨rfl, xs1, hm, hc2⟩
    have HC2 := Lib.hid hc2
    clear hc hc2 hm
    go_wp2_with fail
    refine HC2.out.mono ?_
    rintro e w4 ⟨rfl, hst⟩
    have HST := Lib.hid hst
    clear hst HC2
    go_wp2_with fail
    go_ret
    exact ⟨by simp, xs1, HST.out.pre HB.out⟩
  · -- Prune
    rw [← hW]
    obtain ⟨r, hc⟩ := prune_both (H.out.keep (Below.refl _ W).drew) HR.out.drew
    have hmf : ∀ (fn : Fn) (first cap : Array Value) (w : World), (Instr.makeFunc fn first cap).run Try.prog w = .ok (.func fn first cap) w := fun _ _ _ _ => rfl
    have HC := Lib.hid hc
    have e2 : W.cell? ⟨w.heap.size + 1, 0, none⟩ = some (.int .i64 (v.tmod 3 % 3)) := HR.out.at rfl
    clear hc hW c0
    go_region_held3 (fun w' => w'.cell? ⟨w.heap.size + 1, 0, none⟩ = some (.int .i64 (v.tmod 3 % 3))) (first | exact e4 | exact e3 | go_keep)
      (first
        | (go_at_call 19; refine HC.out.mono ?_; rintro e w3 ⟨rfl, xs1, hm, hc2⟩; have e3 : w3.cell? ⟨w.heap.size + 1, 0, none⟩ = some (.int .i64 (v.tmod 3 % 3)) := (hm.box (H.out.keep (Below.refl _ W).drew) HR.out.drew (by decide) (by decide)).at rfl; have HC2 := Lib.hid hc2; clear hc2 hm)
        | (go_at_call 21; refine HC2.out.mono ?_; rintro e w4 ⟨rfl, hst⟩; have e4 : w4.cell? ⟨w.heap.size + 1, 0, none⟩ = some (.int .i64 (v.tmod 3 % 3)) := (hst.box (H.out.keep (Below.refl _ W).drew) HR.out.drew (by decide) (by decide) (by decide)).at rfl; have HST := Lib.hid hst; clear hst))
    all_goals
      go_wp2_with fail
      go_ret
      exact ⟨by simp, xs1, (HST.out.pre (Below.refl _ W).drew).pre HB.out⟩
  · -- Put
    rw [← hW]
    obtain ⟨r, hc⟩ := put_both (H.out.keep (Below.refl _ W).drew) k v hkl
    have HC := Lib.hid hc
    have e2 : W.cell? ⟨w.heap.size, 2, none⟩ = some (.int .i64 v) := HP.out.at rfl
    clear hc hW c0
    go_region_held3 (fun w' => w'.cell? ⟨w.heap.size, 2, none⟩ = some (.int .i64 v)) (first | exact e4 | exact e3 | go_keep)
      (first
        | (go_at_call 11; refine HC.out.mono ?_; rintro e w3 ⟨rfl, xs1, hm, hc2⟩; have e3 : w3.cell? ⟨w.heap.size, 2, none⟩ = some (.int .i64 v) := (hm.box (H.out.keep (Below.refl _ W).drew) HP.out.drew (by decide) (by decide)).at rfl; have HC2 := Lib.hid hc2; clear hc2 hm)
        | (go_at_call 22; refine HC2.out.mono ?_; rintro e w4 ⟨rfl, hst⟩; have e4 : w4.cell? ⟨w.heap.size, 2, none⟩ = some (.int .i64 v) := (hst.box (H.out.keep (Below.refl _ W).drew) HP.out.drew (by decide) (by decide) (by decide)).at rfl; have HST := Lib.hid hst; clear hst))
    all_goals
      go_wp2_with fail
      go_ret
      exact ⟨by simp, xs1, (HST.out.pre (Below.refl _ W).drew).pre HB.out⟩
end
end Go.Proofs.Ytipgjpmaflcpkaa
