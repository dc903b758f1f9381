/- guard: Enter of who isn't tracked, where there is no room. -/
import Derived.Test.YtnfkkopegbeacaaDoorGdSweep
set_option maxRecDepth 100000
namespace Go.Proofs.YtnfkkopegbeacaaDoor
open Go.RowKit Go.Shelf
section
variable {w w1 w' : World} {base G T m cap : Nat} {b mo ho : Int} {l : List (List UInt8 × VT)}
theorem enter_full (h : GD w base G T m cap b mo ho l) (s : List UInt8) (now : Int) (hs : s.length ≤ 600) (hT : tabsOK w) (hb : srcB s = true) (hg : getL l s = none) (hcap : l.length = cap) (hbw : ∀ q ∈ l, 0 ≤ q.2.u ∧ q.2.u < 18446744073709551616) (k0 : 0 ≤ ho) (k1 : ho ≤ 1099511627776)
    {r : Int} {l2 : List (List UInt8 × VT)} (hput : putL cap (swL ho now l) s ⟨s, 0, now, now⟩ = (r, l2)) :
    Calls Tryd.prog 9 #[tP G, strT s, u64v now] w fun e w' => e = .returned (.int .i64 r) ∧ GD w' base G T m cap b mo ho l2 ∧ Below base w w' := by
  have HI := Lib.hid (isSource_any s w hs hT)
  rw [hb] at HI
  have H := Lib.hid h
  have HBL := Lib.hid h.tb.base_le
  clear h hT
  have hlk : lockedL l s now = false := by unfold lockedL; rw [hg]
  have hlen : (l.length == cap) = true := by rw [beq_iff_eq]; exact hcap
  have HG := Lib.hid hg; clear hg
  have HU := Lib.hid hbw; clear hbw hcap
  go_enter Tryd.func9, Tryd.ntmps9
  go_wp2_with fail
  refine HI.out.mono ?_
  rintro e w1 ⟨rfl, hB⟩
  have H1 := Lib.hid (H.out.keep hB)
  have HB := Lib.hid (hB.mono HBL.out)
  have HBL1 := Lib.hid H1.out.tb.base_le
  clear hB HI
  go_wp2_with fail
  refine (locked_gd H1.out s now hs).mono ?_
  rintro e w2 ⟨rfl, hB2⟩
  rw [hlk]
  have h2 := H1.out.keep hB2
  have H2 := Lib.hid h2
  have c3 : w2.cell? ⟨G, 3, none⟩ = some (tP T) := h2.blk.at rfl
  have HB2 := Lib.hid (HB.out.trans (hB2.mono HBL1.out))
  clear hB2 h2
  go_wp2_with fail
  refine (getn_tb H2.out.tb s (by omega) HG.out).mono ?_
  rintro e w3 ⟨rfl, hB3⟩
  obtain ⟨W4, hW4⟩ : ∃ W4, W4 = w3.alloc (.cells #[.string ⟨#[]⟩, .int .i64 0, .int .u64 0, .int .u64 0] 51) := ⟨_, rfl⟩
  have h3 := H2.out.keep hB3
  have h4 : GD W4 base G T m cap b mo ho l := by rw [hW4]; exact h3.keep ((Below.refl _ _).alloc (Nat.le_refl _) _)
  have hB4 : Below base w W4 := by rw [hW4]; exact (HB2.out.trans (hB3.mono H2.out.tb.base_le)).alloc h3.tb.base_le _
  have c4 : (w3.alloc (.cells #[.string ⟨#[]⟩, .int .i64 0, .int .u64 0, .int .u64 0] 51)).cell? ⟨G, 3, none⟩ = some (tP T) := by rw [← hW4]; exact h4.blk.at rfl
  have H4 := Lib.hid h4
  have HB4 := Lib.hid hB4
  clear hB3 h3 h4 hB4 c3
  go_wp2_with fail
  rw [← hW4]
  refine (full_tb H4.out.tb).mono ?_
  rintro e w5 ⟨rfl, h5, b5⟩
  rw [hlen]
  have H5 := Lib.hid (H4.out.keep b5)
  have HB5 := Lib.hid (HB4.out.trans (b5.mono H4.out.tb.base_le))
  clear h5 b5 c4 hW4
  go_wp2_with fail
  refine (sweep_gd H5.out now k0 k1 HU.out).mono ?_
  rintro e w6 ⟨⟨n, rfl⟩, h6, b6⟩
  have H6 := Lib.hid h6
  have c6 : w6.cell? ⟨G, 3, none⟩ = some (tP T) := h6.blk.at rfl
  have HB6 := Lib.hid (HB5.out.trans b6)
  clear h6 b6
  go_wp2_with fail
  refine (put_tb H6.out.tb s ⟨s, 0, now, now⟩ (by omega)).mono ?_
  rintro e w7 ⟨rfl, h7, f7⟩
  have H7 := Lib.hid (H6.out.to f7 h7)
  have HB7 := Lib.hid (HB6.out.trans f7.low)
  clear h7 f7
  rw [hput] at H7
  rw [hput]
  clear hput
  go_wp2_with fail
  go_ret
  exact ⟨rfl, H7.out, HB7.out⟩
end
end Go.Proofs.YtnfkkopegbeacaaDoor
