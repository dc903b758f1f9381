/- The library's two tables of signs, as a row lists them. -/
import Derived.Test.YtnfkkopegbeacaaDoorShelf
import Derived.Test.YtnfkkopegbeacaaDoorShelf2
import Derived.Test.YtnfkkopegbeacaaDoorRows
import Derived.Lib.LaidU8
import Derived.MakeChecks
import Derived.Shelf.Vars
namespace Go.Proofs.YtnfkkopegbeacaaDoor
open Go.RowKit Go.Shelf Go.Lib
theorem first_eq : (Rows.laid_unicode_utf8_first : DataW Unit) = Lib.firstData := by kernel_rfl
theorem acc_eq : (Rows.laid_unicode_utf8_acceptRanges : DataW Unit) = Lib.acceptData := by kernel_rfl
theorem u8x : U8Extra Tryd.prog Tryd.lays260_ren := ⟨by kernel_rfl, by kernel_rfl, by kernel_rfl, by kernel_rfl, by kernel_rfl, by kernel_rfl, by kernel_rfl⟩
theorem tabs_of_laid {laid : List (String × DataW Unit)} {W : World} (h : laidMetH Tryd.prog laid W) (hp : (laid.all fun x => x.2.handleName?.isNone) = true) (h1 : ("unicode/utf8.first", Rows.laid_unicode_utf8_first) ∈ laid) (h2 : ("unicode/utf8.acceptRanges", Rows.laid_unicode_utf8_acceptRanges) ∈ laid) :
    Lib.Utf8Tabs 0 1 W := by
  rw [MakeChecks.laidMetH_plain _ _ _ hp] at h
  have r1 := Lib.laidMet.reads h h1
  have r2 := Lib.laidMet.reads h h2
  rw [first_eq] at r1
  rw [acc_eq] at r2
  exact utf8Tabs_of_reads Tryd.lays260 u8x r1 r2
end Go.Proofs.YtnfkkopegbeacaaDoor
