/- Texts by the byte: a sign at a place, a text of one byte, texts in a row. -/
import Derived.Test.YteadncmhcbdicaaDoorStrT
namespace Go.Proofs.YteadncmhcbdicaaDoor
open Go.RowKit
theorem str_app (a b : List UInt8) : (ByteArray.mk a.toArray) ++ (ByteArray.mk b.toArray) = ByteArray.mk (a ++ b).toArray := ByteArray.mk_append_mk ..
theorem cut_one (s : List UInt8) (k : Nat) (h : k < s.length) (W : World) : (Instr.slice 9 (str s) (some (.int .i64 (k : Int))) (some (.int .i64 ((k : Int) + 1))) none).run Tryd.prog W = .ok (str [s.getD k 0]) W := by
  have e : (ByteArray.mk s.toArray).extract k (k + 1) = ByteArray.mk [s.getD k 0].toArray := by
    apply ByteArray.ext
    simp [ByteArray.data_extract, List.getD_eq_getElem?_getD]
    rw [List.take_one, List.head?_drop, List.getElem?_eq_getElem h]
    simp
  go_simp
  rw [if_pos ⟨by omega, by omega⟩, if_pos (by omega)]
theorem str_index (s : List UInt8) (k : Nat) (h : k < s.length) (W : World) : (Instr.index 9 (str s) (.int .i64 (k : Int))).run Tryd.prog W = .ok (vb (s.getD k 0)) W := by
  have hs : k < (ByteArray.mk s.toArray).size := by simpa [ByteArray.size] using h
  rw [run_index_string W 9 _ .i64 _ Tryd.underlying9]
  rw [dif_pos ⟨by omega, by omega⟩]
  simp only [Int.toNat_natCast]
  have e : (ByteArray.mk s.toArray)[k]'hs = s.getD k 0 := by
    rw [List.getD_eq_getElem?_getD, List.getElem?_eq_getElem h]; rfl
  rw [e]; rfl
end Go.Proofs.YteadncmhcbdicaaDoor
