/- A Hash that has been handed bytes: its state and its rest; Write, for whatever bytes. -/
import Derived.Test.YteadncmhcbdicaaDoorWriteF
namespace Go.Proofs.YteadncmhcbdicaaDoor
open Go.RowKit

/-- The Hash at block b: the state s, the bytes rest behind the last whole block, n bytes in all. -/
def HashAt (w : World) (b : Nat) (s : St) (rest : List UInt8) (n : Nat) : Prop := ∃ t, HashIs w b s t n ∧ t.take (n % 64) = rest
theorem HashAt.len {w : World} {b : Nat} {s : St} {rest : List UInt8} {n : Nat} (h : HashAt w b s rest n) : rest.length = n % 64 := by
  obtain ⟨t, h1, rfl⟩ := h
  rw [List.length_take, h1.len]; omega
theorem HashAt.lt {w : World} {b : Nat} {s : St} {rest : List UInt8} {n : Nat} (h : HashAt w b s rest n) : b < w.heap.size := by
  obtain ⟨t, h1, _⟩ := h
  exact h1.blk.lt
theorem HashAt.grown {w w' : World} {b : Nat} {s : St} {rest : List UInt8} {n : Nat} {row : Option Nat} (h : HashAt w b s rest n) (hg : w.grownBy w' row) (hne : some b ≠ row) : HashAt w' b s rest n := by
  obtain ⟨t, h1, h2⟩ := h
  exact ⟨t, ⟨h1.blk.grown hg hne, h1.len⟩, h2⟩
theorem HashAt.below {w w' : World} {b B : Nat} {s : St} {rest : List UInt8} {n : Nat} (h : HashAt w b s rest n) (hb : Below B w w') (hB : b < B) : HashAt w' b s rest n := by
  obtain ⟨t, h1, h2⟩ := h
  exact ⟨t, ⟨h1.blk.below hb hB, h1.len⟩, h2⟩
theorem over_take (t p : List UInt8) (r : Nat) (h : r ≤ t.length) : (over t r p).take (r + p.length) = t.take r ++ p := by
  unfold over
  rw [List.take_append_of_le_length (by rw [List.length_append, List.length_take]; omega), List.take_of_length_le (by rw [List.length_append, List.length_take]; omega)]
theorem Src.of_ptr {w : World} {hb : Nat} {A : Option Addr} {l : List UInt8} {c : Nat} (h : Src w hb A l c) (h0 : 0 < l.length) {s : St} {t : List UInt8} {n : Nat} (hh : HashIs w hb s t n) : ∃ b o, A = some ⟨b, o, none⟩ ∧ WIn w hb s t n b o c l := by
  obtain ⟨b, o, e, h1, h2, h3⟩ := h.bytes h0
  exact ⟨b, o, e, hh, h3, h1, h2, h.cap, h.cap2, h.len2⟩
theorem write_any (hb : Nat) (s : St) (rest : List UInt8) (n : Nat) (A : Option Addr) (c : Nat) (p : List UInt8) (w : World) (h : HashAt w hb s rest n) (hs : Src w hb A p c) (hT : TabA w) (hG : 0 ≠ hb) :
    Calls Tryd.prog 25 #[.pointer (some ⟨hb, 0, none⟩), .slice A p.length c] w fun e w' => e = .returned (.int .i64 p.length) ∧ HashAt w' hb (stOf s (rest ++ p)) (restOf (rest ++ p)) (n + p.length) ∧ w.grownBy w' (some hb) := by
  have hl := h.len
  obtain ⟨t, h1, h2⟩ := h
  by_cases hlt : n % 64 + p.length < 64
  · refine (write_early hb s t n A c p w h1 hs hlt).mono ?_
    rintro e w' ⟨he, hh, hg⟩
    have hl2 : (rest ++ p).length < 64 := by rw [List.length_append, hl]; omega
    refine ⟨he, ⟨over t (n % 64) p, ?_, ?_⟩, hg⟩
    · rw [stOf_small _ _ hl2]; exact hh
    · rw [restOf_small _ hl2, show (n + p.length) % 64 = n % 64 + p.length by omega, over_take _ _ _ (by rw [h1.len]; omega), h2]
  · obtain ⟨b, o, rfl, hin⟩ := hs.of_ptr (by omega) h1
    refine (write_full hb s t n b o c p w hin hT hG (by omega)).mono ?_
    rintro e w' ⟨he, hg, t', ht, hh⟩
    rw [h2] at ht hh
    refine ⟨he, ⟨t', hh, ?_⟩, hg⟩
    rw [← ht]; congr 1; omega
/-- The Hash at block b holds the message m. -/
def HashM (w : World) (b : Nat) (m : List UInt8) : Prop := HashAt w b (stOf St.first m) (restOf m) m.length
theorem HashM.grown {w w' : World} {b : Nat} {m : List UInt8} {row : Option Nat} (h : HashM w b m) (hg : w.grownBy w' row) (hne : some b ≠ row) : HashM w' b m := HashAt.grown h hg hne
theorem HashM.below {w w' : World} {b B : Nat} {m : List UInt8} (h : HashM w b m) (hb : Below B w w') (hB : b < B) : HashM w' b m := HashAt.below h hb hB
theorem HashM.lt {w : World} {b : Nat} {m : List UInt8} (h : HashM w b m) : b < w.heap.size := HashAt.lt h
theorem write_m (hb : Nat) (m : List UInt8) (A : Option Addr) (c : Nat) (p : List UInt8) (w : World) (h : HashM w hb m) (hs : Src w hb A p c) (hT : TabA w) (hG : 0 ≠ hb) :
    Calls Tryd.prog 25 #[.pointer (some ⟨hb, 0, none⟩), .slice A p.length c] w fun e w' => e = .returned (.int .i64 p.length) ∧ HashM w' hb (m ++ p) ∧ w.grownBy w' (some hb) := by
  refine (write_any hb _ _ _ A c p w h hs hT hG).mono ?_
  rintro e w' ⟨he, hh, hg⟩
  refine ⟨he, ?_, hg⟩
  unfold HashM
  rw [List.length_append, ← stOf_feed, ← restOf_feed]
  exact hh
end Go.Proofs.YteadncmhcbdicaaDoor
