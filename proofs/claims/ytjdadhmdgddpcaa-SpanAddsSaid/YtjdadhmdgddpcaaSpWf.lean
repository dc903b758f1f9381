/- The numbers that come in, by their kinds; the three walks over them. -/
import Derived.Test.YtjdadhmdgddpcaaSpLaws
namespace Go.Proofs.Ytjdadhmdgddpcaa
open Go.RowKit
theorem wfq {n : Int} (h : (Lit.int .u64 n).wf = true) : 0 ≤ n ∧ n < 18446744073709551616 := by
  unfold Lit.wf at h
  simp only [Bool.and_eq_true, decide_eq_true_eq] at h
  have a : IntKind.u64.min = 0 := by decide
  have b : IntKind.u64.max = 18446744073709551615 := by decide
  omega
theorem wfd {n : Int} (h : (Lit.int .u32 n).wf = true) : 0 ≤ n ∧ n < 4294967296 := by
  unfold Lit.wf at h
  simp only [Bool.and_eq_true, decide_eq_true_eq] at h
  have a : IntKind.u32.min = 0 := by decide
  have b : IntKind.u32.max = 4294967295 := by decide
  omega
theorem wfw {n : Int} (h : (Lit.int .u16 n).wf = true) : 0 ≤ n ∧ n < 65536 := by
  unfold Lit.wf at h
  simp only [Bool.and_eq_true, decide_eq_true_eq] at h
  have a : IntKind.u16.min = 0 := by decide
  have b : IntKind.u16.max = 65535 := by decide
  omega
theorem wfu {n : Int} (h : (Lit.int .u8 n).wf = true) : 0 ≤ n ∧ n < 256 := by
  unfold Lit.wf at h
  simp only [Bool.and_eq_true, decide_eq_true_eq] at h
  have a : IntKind.u8.min = 0 := by decide
  have b : IntKind.u8.max = 255 := by decide
  omega
theorem wfi {n : Int} (h : (Lit.int .i64 n).wf = true) : -9223372036854775808 ≤ n ∧ n ≤ 9223372036854775807 := by
  unfold Lit.wf at h
  simp only [Bool.and_eq_true, decide_eq_true_eq] at h
  have a : IntKind.i64.min = -9223372036854775808 := by decide
  have b : IntKind.i64.max = 9223372036854775807 := by decide
  omega
theorem spanAdds_wf (a b : Int) (w : World) (h1 : (Lit.int .u64 a).wf = true) (h2 : (Lit.int .u64 b).wf = true) :
    Calls Try.prog 3 #[u64v a, u64v b] w fun e w' => e = .returned (.bool true) ∧ Below w.heap.size w w' :=
  spanAdds_law a b w (wfq h1).1 (wfq h1).2 (wfq h2).1 (wfq h2).2
theorem spanBounds_wf (t b m : Int) (w : World) (h1 : (Lit.int .u32 t).wf = true) (h2 : (Lit.int .u16 b).wf = true) (h3 : (Lit.int .u16 m).wf = true) :
    Calls Try.prog 5 #[.int .u32 t, .int .u16 b, .int .u16 m] w fun e w' => e = .returned (.bool true) ∧ Below w.heap.size w w' :=
  spanBounds_law t b m w (wfd h1).1 (wfd h1).2 (wfw h2).1 (wfw h2).2 (wfw h3).1 (wfw h3).2
theorem spanGreat_wf (t b m o : Int) (w : World) (h1 : (Lit.int .u64 t).wf = true) (h2 : (Lit.int .u64 b).wf = true) (h3 : (Lit.int .u64 m).wf = true) (h4 : (Lit.int .u64 o).wf = true) :
    Calls Try.prog 6 #[u64v t, u64v b, u64v m, u64v o] w fun e w' => e = .returned (.bool true) ∧ Below w.heap.size w w' :=
  spanGreat_law t b m o w (wfq h1).1 (wfq h1).2 (wfq h2).1 (wfq h2).2 (wfq h3).1 (wfq h3).2 (wfq h4).1 (wfq h4).2
end Go.Proofs.Ytjdadhmdgddpcaa
