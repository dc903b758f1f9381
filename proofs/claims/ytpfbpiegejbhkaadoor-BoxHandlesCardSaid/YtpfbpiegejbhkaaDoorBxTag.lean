/- box and its reference: what number a text of 32 bytes has. -/
import Derived.Test.YtpfbpiegejbhkaaDoorBxLooks
set_option maxRecDepth 100000
namespace Go.Proofs.YtpfbpiegejbhkaaDoor
open Go.RowKit

/-- The number of a text that looks like a handle; else 0. -/
def tagN (l : List UInt8) : Nat := if looks l then (match l.drop 28 with | [a, b, c, d] => num4 a b c d | _ => 0) else 0
theorem tagN_no {l : List UInt8} (h : looks l = false) : tagN l = 0 := by unfold tagN; rw [h]; rfl
theorem tagN_yes {l : List UInt8} {a b c d : UInt8} (h : looks l = true) (hd : l.drop 28 = [a, b, c, d]) : tagN l = num4 a b c d := by unfold tagN; rw [h, hd]; rfl
theorem tagN_lt (l : List UInt8) : tagN l < 4294967296 := by
  cases h : looks l with
  | false => rw [tagN_no h]; decide
  | true =>
    obtain ⟨_, a, b, c, d, _, hd⟩ := looks_parts h
    rw [tagN_yes h hd]; exact num4_lt a b c d
theorem number_all (B : Nat) (v : Value) (l : List UInt8) (w : World) (hv : Sl w B v l) :
    Calls Tryd.prog 6 #[v] w fun e w' => e = .returned (.tuple #[.int .i64 (tagN l : Int), .bool (decide (0 < tagN l))]) ∧ ∃ q, w' = w.drewN q := by
  cases h : looks l with
  | false => rw [tagN_no h]; exact number_no B v l w hv h
  | true =>
    obtain ⟨_, a, b, c, d, _, hd⟩ := looks_parts h
    rw [tagN_yes h hd]; exact number_yes B v l a b c d w hv h hd
theorem refLooks_all (B : Nat) (v : Value) (l : List UInt8) (w : World) (hv : Sl w B v l) (hB : B ≤ w.heap.size) (hl : l.length = 32) :
    Calls Tryd.prog 23 #[v] w fun e w' => e = .returned (.tuple #[.int .i64 (tagN l : Int), .bool (looks l)]) ∧ Below w.heap.size w w' := by
  obtain ⟨a, b, c, d, hd⟩ : ∃ a b c d, l.drop 28 = [a, b, c, d] := by
    have h3 : (l.drop 28).length = 4 := by rw [List.length_drop]; omega
    match hd : l.drop 28, h3 with
    | [a, b, c, d], _ => exact ⟨a, b, c, d, rfl⟩
  refine (refLooks_full B v l w hv hB hl a b c d hd).mono ?_
  rintro e w' ⟨rfl, hb⟩
  refine ⟨?_, hb⟩
  cases h : looks l with
  | false => rw [tagN_no h]; rfl
  | true => rw [tagN_yes h hd]; rfl
/-- A handle's number is its own. -/
theorem tagN_handle (n : Nat) (h : n < 4294967296) : looks (fro ++ len4 n) = true ∧ tagN (fro ++ len4 n) = n := by
  have h1 : looks (fro ++ len4 n) = true := by
    unfold looks
    rw [List.take_left' fro_length, List.length_append, fro_length]
    simp [len4]
  exact ⟨h1, by rw [tagN_yes h1 (List.drop_left' fro_length), num4_len4 n h]⟩
end Go.Proofs.YtpfbpiegejbhkaaDoor
