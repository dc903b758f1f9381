/- The document's two examples, reckoned. -/
import Derived.Test.YtjaclccjccjljaaDoorHmC
namespace Go.Proofs.YtjaclccjccjljaaDoor
open Go.RowKit
def jefe : List UInt8 := [74, 101, 102, 101]
def want1 : List UInt8 := [119, 104, 97, 116, 32, 100, 111, 32, 121, 97, 32, 119, 97, 110, 116, 32]
def want2 : List UInt8 := [102, 111, 114, 32, 110, 111, 116, 104, 105, 110, 103, 63]
def passw : List UInt8 := [112, 97, 115, 115, 119, 111, 114, 100]
def salt4 : List UInt8 := [115, 97, 108, 116]
theorem eg1 : (hm jefe (want1 ++ want2)).take 4 = [91, 220, 193, 70] := by decide +kernel
theorem eg2a : (hm passw (salt4 ++ [0, 0, 0, UInt8.ofNat 1])).take 4 = [18, 15, 182, 207] := by decide +kernel
theorem eg2 : (keyS passw salt4 1 32).take 4 = [18, 15, 182, 207] := by
  have h := catN_take (pieceS passw salt4 1) (fun n => pieceS_len _ _ _ _) 1 3 32 (by omega)
  have h1 : (catN (pieceS passw salt4 1) 1).take 32 = pieceS passw salt4 1 1 := by
    rw [catN_succ, catN_zero, List.nil_append, List.take_of_length_le (by rw [pieceS_len]; omega)]
  have h2 : pieceS passw salt4 1 1 = hm passw (salt4 ++ [0, 0, 0, UInt8.ofNat 1]) := by unfold pieceS; rw [pbr_zero]
  unfold keyS
  rw [h, h1, h2, eg2a]
end Go.Proofs.YtjaclccjccjljaaDoor
