/- ring: what the row's listed tables give; RingNil at its arguments. -/
import Derived.Test.YtibkbbkmmomdiaaDoorRkL
import Derived.Test.YtibkbbkmmomdiaaDoorShaTab
import Derived.Test.YtibkbbkmmomdiaaDoorArgs
set_option maxRecDepth 100000
namespace Go.Proofs.YtibkbbkmmomdiaaDoor
open Go Go.RowKit
theorem powV_rows {H : Type} : (Rows.laid_internal_strconv_uint64pow10 : DataW H) = Lib.tabData .u64 Lib.pow10Tab := rfl
theorem powE_of_laid {laid : List (String × DataW Unit)} {W : World} (h : laidMetH Tryd.prog laid W) (hp : (laid.all fun x => x.2.handleName?.isNone) = true) (hm : ("internal/strconv.uint64pow10", Rows.laid_internal_strconv_uint64pow10) ∈ laid) : PowE W := by
  rw [MakeChecks.laidMetH_plain _ _ _ hp] at h
  have hr := Lib.laidMet.reads h hm
  rw [powV_rows] at hr
  have hpw := tab_of_reads (g := 0) (t := 86) (e := 22) (n := 20) (by kernel_rfl) (by kernel_rfl) Tryd.underlying86 Tryd.underlying22 (by kernel_rfl) (by kernel_rfl) hr
  exact ⟨hpw, World.block_lt_of_cell? W ⟨0, 0, none⟩ (hpw.cell (by kernel_rfl) 0 (by decide))⟩
theorem ringNil_w (B : Nat) (n0 : Int) (v1 : Value) (l1 : List UInt8) (n2 : Int) (w : World) (_h0 : (Lit.int .u64 n0).wf = true) (h1 : Sl w B v1 l1) (h2 : (Lit.int .u8 n2).wf = true) (_hB : B ≤ w.heap.size) (hT : TabA w) (hP : PowE w) :
    Calls Tryd.prog 3 #[.int .u64 n0, v1, .int .u8 n2] w fun e w' => e = .returned (.bool true) ∧ Below w.heap.size w w' := by
  obtain ⟨A, c, rfl, -⟩ := h1
  simp [Lit.wf, IntKind.min, IntKind.max, IntKind.bits, IntKind.signed] at h2
  obtain ⟨X, rfl⟩ : ∃ X : Nat, n2 = X := ⟨n2.toNat, by omega⟩
  exact ringNil_law n0 A l1.length c X (by omega) w hT hP
end Go.Proofs.YtibkbbkmmomdiaaDoor
