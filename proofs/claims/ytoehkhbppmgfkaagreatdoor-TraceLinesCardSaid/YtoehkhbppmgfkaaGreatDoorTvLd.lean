/- trace: the table of powers of ten off the row's listed variables. -/
import Derived.Test.YtoehkhbppmgfkaaGreatDoorTcLn
import Derived.Test.YtoehkhbppmgfkaaGreatDoorTvSh
set_option maxRecDepth 100000
namespace Go.Proofs.YtoehkhbppmgfkaaGreatDoor
open Go Go.RowKit Go.Shelf
theorem powV_rows {H : Type} : (Rows.laid_internal_strconv_uint64pow10 : DataW H) = Lib.tabData .u64 Lib.pow10Tab := rfl
theorem powE_of_laid {laid : List (String × DataW Unit)} {W : World} (h : laidMetH Tryz.prog laid W) (hp : (laid.all fun x => x.2.handleName?.isNone) = true) (hm : ("internal/strconv.uint64pow10", Rows.laid_internal_strconv_uint64pow10) ∈ laid) : PowE W := by
  rw [MakeChecks.laidMetH_plain _ _ _ hp] at h
  have hr := Lib.laidMet.reads h hm
  rw [powV_rows] at hr
  have hpw := tab_of_reads (g := 0) (t := 124) (e := 22) (n := 20) (by kernel_rfl) (by kernel_rfl) Tryz.underlying124 Tryz.underlying22 (by kernel_rfl) (by kernel_rfl) hr
  exact ⟨hpw, World.block_lt_of_cell? W ⟨0, 0, none⟩ (hpw.cell (by kernel_rfl) 0 (by decide))⟩
end Go.Proofs.YtoehkhbppmgfkaaGreatDoor
