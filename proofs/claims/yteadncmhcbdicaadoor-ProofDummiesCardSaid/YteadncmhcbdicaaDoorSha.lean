/- SHA-256 as functions on lists of words and bytes. Nothing of the program is imported. -/
import Derived.Test.YteadncmhcbdicaaDoorBits
namespace Go.Proofs.YteadncmhcbdicaaDoor

def choose (x y z : BitVec 32) : BitVec 32 := (x &&& y) ^^^ (~~~ x &&& z)
def majority (x y z : BitVec 32) : BitVec 32 := (x &&& y) ^^^ (x &&& z) ^^^ (y &&& z)
def bigSigma0 (x : BitVec 32) : BitVec 32 := x.rotateRight 2 ^^^ x.rotateRight 13 ^^^ x.rotateRight 22
def bigSigma1 (x : BitVec 32) : BitVec 32 := x.rotateRight 6 ^^^ x.rotateRight 11 ^^^ x.rotateRight 25
def smallSigma0 (x : BitVec 32) : BitVec 32 := x.rotateRight 7 ^^^ x.rotateRight 18 ^^^ x >>> 3
def smallSigma1 (x : BitVec 32) : BitVec 32 := x.rotateRight 17 ^^^ x.rotateRight 19 ^^^ x >>> 10
/-- The number that bytes are, the highest first. -/
def num (l : List UInt8) : Nat := l.foldl (fun n b => n * 256 + b.toNat) 0
def word4 (a b c d : UInt8) : BitVec 32 := bw a <<< 24 ||| bw b <<< 16 ||| bw c <<< 8 ||| bw d
/-- The i-th word of a block. -/
def bword (p : List UInt8) (i : Nat) : BitVec 32 := word4 (p.getD (4 * i) 0) (p.getD (4 * i + 1) 0) (p.getD (4 * i + 2) 0) (p.getD (4 * i + 3) 0)
/-- The next word of the schedule, the ones ahead of it being l. -/
def swNext (p : List UInt8) (l : List (BitVec 32)) : BitVec 32 :=
  if l.length < 16 then bword p l.length
  else l.getD (l.length - 16) 0 + smallSigma0 (l.getD (l.length - 15) 0) + l.getD (l.length - 7) 0 + smallSigma1 (l.getD (l.length - 2) 0)
/-- The first k words of the schedule. -/
def sw (p : List UInt8) : Nat → List (BitVec 32)
  | 0 => []
  | k + 1 => let l := sw p k; l ++ [swNext p l]
theorem sw_length (p : List UInt8) (k : Nat) : (sw p k).length = k := by
  induction k with
  | zero => rfl
  | succ k ih => simp [sw, ih]
theorem sw_succ (p : List UInt8) (k : Nat) : sw p (k + 1) = sw p k ++ [swNext p (sw p k)] := rfl
theorem sw_next_lo (p : List UInt8) (k : Nat) (h : k < 16) : swNext p (sw p k) = bword p k := by
  unfold swNext; rw [sw_length, if_pos h]
theorem sw_next_hi (p : List UInt8) (k : Nat) (h : 16 ≤ k) : swNext p (sw p k) = (sw p k).getD (k - 16) 0 + smallSigma0 ((sw p k).getD (k - 15) 0) + (sw p k).getD (k - 7) 0 + smallSigma1 ((sw p k).getD (k - 2) 0) := by
  unfold swNext; rw [sw_length, if_neg (by omega)]
/-- The array of the schedule while it is filled: k words, and noughts. -/
def swArr (p : List UInt8) (k : Nat) : List Value := (sw p k).map vw ++ List.replicate (64 - k) (.int .u32 0)
theorem swArr_length (p : List UInt8) (k : Nat) (h : k ≤ 64) : (swArr p k).length = 64 := by
  unfold swArr; rw [List.length_append, List.length_map, sw_length, List.length_replicate]; omega
theorem swArr_lt (p : List UInt8) (k j : Nat) (h : j < k) : (swArr p k)[j]? = some (vw ((sw p k).getD j 0)) := by
  unfold swArr
  rw [List.getElem?_append_left (by rw [List.length_map, sw_length]; exact h), List.getElem?_map, List.getD_eq_getElem?_getD, List.getElem?_eq_getElem (by rw [sw_length]; exact h)]
  rfl
theorem swArr_at (p : List UInt8) (k : Nat) (h : k < 64) : (swArr p k)[k]? = some (.int .u32 0) := by
  unfold swArr
  rw [List.getElem?_append_right (by rw [List.length_map, sw_length]; exact Nat.le_refl _), List.length_map, sw_length, Nat.sub_self, List.getElem?_replicate, if_pos (by omega)]
theorem swArr_set (p : List UInt8) (k : Nat) (h : k < 64) : (swArr p k).set k (vw (swNext p (sw p k))) = swArr p (k + 1) := by
  unfold swArr
  rw [List.set_append_right _ _ (by rw [List.length_map, sw_length]; exact Nat.le_refl _), List.length_map, sw_length, Nat.sub_self, show 64 - k = (64 - (k + 1)) + 1 from by omega, List.replicate_succ, List.set_cons_zero, sw_succ, List.map_append, List.append_assoc]
  rfl
theorem swArr_zero (p : List UInt8) : swArr p 0 = List.replicate 64 (.int .u32 0) := rfl
theorem swArr_full (p : List UInt8) : swArr p 64 = (sw p 64).map vw := by unfold swArr; exact List.append_nil _
/-- A word for each round. -/
def KL : List (BitVec 32) := [0x428a2f98#32, 0x71374491#32, 0xb5c0fbcf#32, 0xe9b5dba5#32, 0x3956c25b#32, 0x59f111f1#32, 0x923f82a4#32, 0xab1c5ed5#32, 0xd807aa98#32, 0x12835b01#32, 0x243185be#32, 0x550c7dc3#32, 0x72be5d74#32, 0x80deb1fe#32, 0x9bdc06a7#32, 0xc19bf174#32, 0xe49b69c1#32, 0xefbe4786#32, 0x0fc19dc6#32, 0x240ca1cc#32, 0x2de92c6f#32, 0x4a7484aa#32, 0x5cb0a9dc#32, 0x76f988da#32, 0x983e5152#32, 0xa831c66d#32, 0xb00327c8#32, 0xbf597fc7#32, 0xc6e00bf3#32, 0xd5a79147#32, 0x06ca6351#32, 0x14292967#32, 0x27b70a85#32, 0x2e1b2138#32, 0x4d2c6dfc#32, 0x53380d13#32, 0x650a7354#32, 0x766a0abb#32, 0x81c2c92e#32, 0x92722c85#32, 0xa2bfe8a1#32, 0xa81a664b#32, 0xc24b8b70#32, 0xc76c51a3#32, 0xd192e819#32, 0xd6990624#32, 0xf40e3585#32, 0x106aa070#32, 0x19a4c116#32, 0x1e376c08#32, 0x2748774c#32, 0x34b0bcb5#32, 0x391c0cb3#32, 0x4ed8aa4a#32, 0x5b9cca4f#32, 0x682e6ff3#32, 0x748f82ee#32, 0x78a5636f#32, 0x84c87814#32, 0x8cc70208#32, 0x90befffa#32, 0xa4506ceb#32, 0xbef9a3f7#32, 0xc67178f2#32]
/-- The eight words of a state. -/
structure St where
  a : BitVec 32
  b : BitVec 32
  c : BitVec 32
  d : BitVec 32
  e : BitVec 32
  f : BitVec 32
  g : BitVec 32
  h : BitVec 32
def St.list (s : St) : List (BitVec 32) := [s.a, s.b, s.c, s.d, s.e, s.f, s.g, s.h]
abbrev St.cells (s : St) : List Value := [vw s.a, vw s.b, vw s.c, vw s.d, vw s.e, vw s.f, vw s.g, vw s.h]
/-- One round. -/
def rnd (kc wc : BitVec 32) (s : St) : St :=
  ⟨s.h + bigSigma1 s.e + choose s.e s.f s.g + kc + wc + (bigSigma0 s.a + majority s.a s.b s.c), s.a, s.b, s.c, s.d + (s.h + bigSigma1 s.e + choose s.e s.f s.g + kc + wc), s.e, s.f, s.g⟩
/-- The first k rounds. -/
def rnds (l : List (BitVec 32)) (s : St) : Nat → St
  | 0 => s
  | k + 1 => rnd (KL.getD k 0) (l.getD k 0) (rnds l s k)
theorem rnds_zero (l : List (BitVec 32)) (s : St) : rnds l s 0 = s := rfl
theorem rnds_succ (l : List (BitVec 32)) (s : St) (k : Nat) : rnds l s (k + 1) = rnd (KL.getD k 0) (l.getD k 0) (rnds l s k) := rfl
def St.add (s t : St) : St := ⟨s.a + t.a, s.b + t.b, s.c + t.c, s.d + t.d, s.e + t.e, s.f + t.f, s.g + t.g, s.h + t.h⟩
/-- The state behind a block. -/
def compress (s : St) (p : List UInt8) : St := s.add (rnds (sw p 64) s 64)
def St.first : St := ⟨0x6a09e667#32, 0xbb67ae85#32, 0x3c6ef372#32, 0xa54ff53a#32, 0x510e527f#32, 0x9b05688c#32, 0x1f83d9ab#32, 0x5be0cd19#32⟩
attribute [irreducible] rnds compress KL sw swArr swNext num word4
end Go.Proofs.YteadncmhcbdicaaDoor
