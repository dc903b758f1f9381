/- The statement FrameUnpacks's own text, walked. -/
import Derived.Test.YtgldfobfchnkeaaFrAwake
namespace Go.Proofs.Ytgldfobfchnkeaa
open Go.RowKit

theorem slice_hI (A : Option Addr) (n c k : Nat) (K : Int) (hK : K = (k : Int)) (hk : k ≤ c) (w : World) : (Instr.slice 22 (.slice A n c) none (some (.int .i64 K)) none).run Try.prog w = .ok (.slice A k c) w := by
  rw [hK]; exact slice_h A n c k hk w
theorem sl_nil {w : World} {B : Nat} : Sl w B (.slice none 0 0) [] := ⟨none, 0, rfl, fun _ => rfl, by simp, by omega, fun h => by simp at h⟩
theorem sameFr0 (w : World) : Calls Try.prog 15 #[.agg #[.int .u8 0, .slice none 0 0], .agg #[.int .u8 0, .slice none 0 0]] w fun e w' => e = .returned (.bool true) ∧ Below w.heap.size w w' :=
  sameFr 0 0 0 _ _ [] w sl_nil sl_nil (Nat.zero_le _) (Nat.zero_le _)
set_option maxRecDepth 100000 in
set_option maxHeartbeats 2000000 in
theorem unpacks_any (B : Nat) (v1 : Value) (l1 : List UInt8) (w : World) (h1 : Sl w B v1 l1) (hB : B ≤ w.heap.size) :
    Calls Try.prog 4 #[v1] w fun e w' => e = .returned (.bool true) ∧ Below w.heap.size w w' := by
  have H1 := Lib.hid h1; clear h1
  go_enter Try.func4, Try.ntmps4
  go_wp2_with fail
  refine (awake6 w).mono ?_
  rintro e w1 ⟨rfl, hb⟩
  have HB1 := Lib.hid hb; clear hb
  go_wp2_with fail
  refine (cut_any B v1 l1 2200 w1 (H1.out.below HB1.out hB) (by have := HB1.out.size; omega) (by decide) (by decide)).mono ?_
  rintro e w2 ⟨a1, rfl, hO, hb⟩
  have HB2 := Lib.hid (HB1.out.trans (hb.mono HB1.out.size)); clear hb HB1
  obtain ⟨la, hla⟩ : ∃ la, la = l1.take (2200 : Int).toNat := ⟨_, rfl⟩
  have hla90 : la.length ≤ 2200 := by rw [hla, List.length_take]; exact Nat.min_le_left _ _
  rw [← hla] at hO
  clear hla H1
  obtain ⟨Aa, ca, rfl, _, _, _, _⟩ := hO.sl
  have HA2 := Lib.hid hO.sl; clear hO
  go_wp2_with fail
  refine (copy_any w2.heap.size _ la w2 HA2.out (Nat.le_refl _) (by omega)).mono ?_
  rintro e w3 ⟨c1, rfl, hO, hb⟩
  have HC3 := Lib.hid hO; clear hO
  have HA3 := Lib.hid (HA2.out.below hb (Nat.le_refl _))
  have HB3 := Lib.hid (HB2.out.trans (hb.mono HB2.out.size))
  have hs23 : w2.heap.size ≤ w3.heap.size := hb.size
  have HW2 := Lib.hid HB2.out.size
  clear hb HA2 HB2
  have HX := Lib.hid ((Below.refl w3.heap.size w3).alloc (Nat.le_refl _) (.cells #[.int .u8 7] 5))
  have HL : Hid ((la ++ [7]).length = la.length + 1) := Lib.hid (by simp)
  go_wp2_with (at_builtin; ((with_reducible refine wpList_app_sl ?g1 (.tmp 15) (.tmp 16) ?g2 w2.heap.size c1 la [7] ?g3 ?g4 (w3.heap.size + 1) (.slice (some ⟨w3.heap.size, 0, none⟩) 1 1) ?g5 ?g6 ?g7 ?g8 ?_); (case g1 => rfl); (case g2 => rfl); (case g3 => rfl); (case g4 => exact HC3.out.below HX.out); (case g5 => rfl); (case g6 => exact Sl.newA w3 #[.int .u8 7] _ [7] rfl rfl rfl (by omega) (by simp)); (case g7 => simp; omega); (case g8 => simp; omega); intro d2 w4 hv hg; obtain ⟨g, cap, rfl, hg1, hg2, hg3, hg4, _, _⟩ := hv.form (by simp); rw [HL.out] at hg3; have hrun := slice_h (some ⟨g, 0, none⟩) (la.length + 1) cap la.length (by omega); have hrun2 := slice_hI (some ⟨g, 0, none⟩) la.length cap (la.length + 1) ((la.length : Int) + 1) (by omega) hg3; have Hv := Lib.hid hv.sl; rw [HL.out] at Hv; have Hg := Lib.hid ((HX.out.mono hs23).trans ((HC3.out.below HX.out).belowBase hg (by simp; omega))); have hs34 : w3.heap.size + 1 ≤ w4.heap.size := (by simpa using hg.size); clear hg; clear hv))
  have HS4 : Hid (Sl w4 w4.heap.size (.slice (some ⟨g, 0, none⟩) la.length cap) la) := Lib.hid (by
    obtain ⟨A2, c2, e2, _, _, _, hsl⟩ := Hv.out.take la.length (by rw [HL.out]; omega)
    injection e2 with e3 _ e4
    subst e3; subst e4
    simpa using hsl)
  have HK4 : Hid (w4.cell? ⟨g, la.length, none⟩ = some (vb 7)) := Lib.hid (by
    obtain ⟨A2, c2, e2, _, _, _, h3⟩ := Hv.out
    injection e2 with e3 _ e4
    obtain ⟨b, o, e5, _, hbs⟩ := h3 (by simp)
    rw [← e3] at e5
    have e6 := Option.some.inj e5
    injection e6 with e7 e8 _
    subst e7; subst e8
    have := hbs la.length (by simp)
    simpa using this)
  have HA4 := Lib.hid (HA3.out.below Hg.out (Nat.le_refl _))
  have HB4 := Lib.hid (HB3.out.trans (Hg.out.mono HW2.out))
  clear HA3 HB3 Hg Hv HC3 HX hg1 hg4
  have hmod : ((bn 7 : Int) != 7) = false := rfl
  have hmod2 : ((bn 7 : Int) == 7) = true := rfl
  have HUU := Lib.hid (unpack_any w4.heap.size _ la w4 HS4.out (Nat.le_refl _) (by omega))
  have HRR := Lib.hid fun (W : World) (h : Sl W w2.heap.size (.slice Aa la.length ca) la) (hW : w2.heap.size ≤ W.heap.size) => unpackRef_any w2.heap.size _ la W h hW (by omega)
  rcases hu : un la with c | ⟨k, body, rest⟩
  · rw [hu] at HUU HRR
    have hcc := un_no hu
    clear hu
    have hc0 : ((c : Int) != 0) = true := by simp; omega
    have hc1 : ((c : Int) == 0) = false := by simp; omega
    refine HUU.out.mono ?_
    rintro e w5 ⟨rfl, hb⟩
    have BB5 := Lib.hid hb
    have hs45 : w4.heap.size ≤ w5.heap.size := hb.size
    clear hb
    have BB5a := Lib.hid (BB5.out.alloc hs45 (.cells #[.int .u8 0, .slice none 0 0] 27))
    have HK5 := Lib.hid (Blk.new w5 [.int .u8 0, .slice none 0 0] 27)
    go_wp2_with fail
    refine (HRR.out _ (HA4.out.below BB5a.out (by omega)) (by simp; omega)).mono ?_
    rintro e w6 ⟨rfl, hb⟩
    have hk := HK5.out.below hb (by simp)
    have i0 := hk.at (o := 0) rfl
    have i1 := hk.at (o := 1) rfl
    have hs56 : w5.heap.size < w6.heap.size := hk.lt
    have hne56 : w5.heap.size ≠ w6.heap.size := by omega
    have BB6 := Lib.hid (BB5a.out.trans (hb.mono (by simp; omega)))
    have BB6a := Lib.hid (BB6.out.alloc (by omega) (.cells #[.int .u8 0, .slice none 0 0] 33))
    clear hb hk HRR HUU BB5 BB5a HK5
    go_wp2_with fail
    refine (sameFr0 _).mono ?_
    rintro e w7 ⟨rfl, hb⟩
    have BB7 := Lib.hid (BB6a.out.trans (hb.mono (by simp; omega)))
    have k7 : w7.cell? ⟨g, la.length, none⟩ = some (vb 7) := (BB7.out.cell (p := ⟨g, la.length, none⟩) hg2).trans HK4.out
    clear hb i0 i1
    have hi0 : (0 : Int) ≤ (la.length : Int) := by omega
    have hi1 : (la.length : Int) < (la.length : Int) + 1 := by omega
    go_wp2_with (first | (refine (same_true _ _ _ _ la _ (HS4.out.below BB7.out (Nat.le_refl _)) (HA4.out.below BB7.out (by omega))).mono ?_; rintro e w8 ⟨rfl, rfl⟩))
    go_ret
    exact ⟨rfl, HB4.out.trans (BB7.out.mono HB4.out.size)⟩
  · obtain ⟨_, hbl, hlen', hdr, _, _⟩ := un_len hu
    have hlen := Lib.hid hlen'; clear hlen' hdr
    rw [hu] at HUU HRR
    clear hu
    refine HUU.out.mono ?_
    rintro e w5 ⟨⟨x, rfl, hO⟩, hb⟩
    obtain ⟨Ax, cx, rfl, _, _, _, _⟩ := hO.sl
    have HX5 := Lib.hid hO.sl; clear hO
    have BB5 := Lib.hid hb
    have hs45 : w4.heap.size ≤ w5.heap.size := hb.size
    clear hb
    have AA5 := Lib.hid ((Below.refl w5.heap.size w5).alloc (Nat.le_refl _) (.cells #[.int .u8 (bn k), .slice Ax body.length cx] 27))
    have BB5a := Lib.hid (BB5.out.trans (AA5.out.mono hs45))
    have HK5 := Lib.hid (Blk.new w5 [.int .u8 (bn k), .slice Ax body.length cx] 27)
    go_wp2_with fail
    refine (HRR.out _ (HA4.out.below BB5a.out (by omega)) (by simp; omega)).mono ?_
    rintro e w6 ⟨hu, hb⟩
    unfold UnR at hu
    obtain ⟨y, r, rfl, hy, hr⟩ := hu
    have HY6 := Lib.hid hy
    obtain ⟨Ay, cy, rfl, _, _, _, _⟩ := hy
    obtain ⟨Ar, cr, rfl, _, _, _, _⟩ := hr
    have HX6 := Lib.hid ((HX5.out.below AA5.out (Nat.le_refl _)).below hb (by simp))
    have hk := HK5.out.below hb (by simp)
    have i0 := hk.at (o := 0) rfl
    have i1 := hk.at (o := 1) rfl
    have hs56 : w5.heap.size < w6.heap.size := hk.lt
    have hne56 : w5.heap.size ≠ w6.heap.size := by omega
    have AA6 := Lib.hid ((Below.refl w6.heap.size w6).alloc (Nat.le_refl _) (.cells #[.int .u8 (bn k), .slice Ay body.length cy] 33))
    have BB6 := Lib.hid (BB5a.out.trans (hb.mono (by simp; omega)))
    have BB6a := Lib.hid (BB6.out.trans (AA6.out.mono (by omega)))
    clear hb hk HRR HUU BB5 BB5a HK5 HX5 AA5
    go_wp2_with fail
    refine (sameFr w5.heap.size w6.heap.size k (.slice Ax body.length cx) (.slice Ay body.length cy) body _ (HX6.out.below AA6.out (by omega)) (HY6.out.below AA6.out (Nat.le_refl _)) (by simp; omega) (by simp)).mono ?_
    rintro e w7 ⟨rfl, hb⟩
    have BB7 := Lib.hid (BB6a.out.trans (hb.mono (by simp; omega)))
    have k7 : w7.cell? ⟨g, la.length, none⟩ = some (vb 7) := (BB7.out.cell (p := ⟨g, la.length, none⟩) hg2).trans HK4.out
    clear hb i0 i1 HX6 HY6 AA6 BB6 BB6a
    have hi0 : (0 : Int) ≤ (la.length : Int) := by omega
    have hi1 : (la.length : Int) < (la.length : Int) + 1 := by omega
    have hfin : (((3 : Int) + (body.length : Int)) == ((la.length : Int) - (rest.length : Int))) = true := by have := hlen.out; simp; omega
    have hrl : (rest.length : Int) ≤ 3000 := by have := hlen.out; omega
    clear hlen
    go_wp2_with (first | (refine (same_true _ _ _ _ la _ (HS4.out.below BB7.out (Nat.le_refl _)) (HA4.out.below BB7.out (by omega))).mono ?_; rintro e w8 ⟨rfl, rfl⟩))
    go_ret
    exact ⟨rfl, HB4.out.trans (BB7.out.mono HB4.out.size)⟩
end Go.Proofs.Ytgldfobfchnkeaa
