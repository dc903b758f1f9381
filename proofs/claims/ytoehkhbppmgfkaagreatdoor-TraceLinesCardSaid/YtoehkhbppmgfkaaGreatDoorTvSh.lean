/- SHA-256 as functions on lists of words and bytes. Nothing of the program is imported. A message that comes part by part: its state and its rest. Nothing of the program is imported. Words, numbers and hashes as bytes. Nothing of the program is imported. The small functions on words: what they compute, as bit vectors. sha.schedule: the words of a block. sha.mix: the state behind a block. A word of 64 bits as a number; bytes as a number. Slices of bytes of the call's own, behind the words of 64 bits. Words and counts as bytes: appendWord, appendWords, appendCount. sha.padding: what follows a message of so many bytes. sha.whole: the iterator over the complete blocks of a slice. A Hash in memory, and what its methods do to it, as lists. (*sha.Hash).Write. (*sha.Hash).Write, where a block is filled. A Hash that has been handed bytes: its state and its rest; Write, for whatever bytes. New, Len, Copy, Sum of a Hash. Sum of a Hash. sha.Sum of parts; the nil Hash. The tables of the sixty-four words, as a row lists them. -/
import Derived.Test.YtoehkhbppmgfkaaGreatDoorBits
import Derived.Test.YtoehkhbppmgfkaaGreatDoorRows
import Derived.Deep.QuietTactic
import Derived.BigQuiet
import Derived.Test.YtoehkhbppmgfkaaGreatDoorMem
import Derived.Lib.Hide
import Derived.StillTailTactics
import Derived.IntWalk
import Derived.Deep.RegionHeld3
import Derived.Test.YtoehkhbppmgfkaaGreatDoorAppB
import Derived.RangeFuncNested
import Derived.RangeFuncBound
import Derived.RangeFuncCalls
import Derived.RangeFuncLeaves
import Derived.Shelf.Abstract
import Derived.Shelf.RegionOpen
import Derived.OwnWalkIn
import Derived.TacticsInMore
import Derived.LoopNIn
import Derived.LoopIn
import Derived.Test.YtoehkhbppmgfkaaGreatDoorReg
import Derived.Test.YtoehkhbppmgfkaaGreatDoorRegR
import Derived.Test.YtoehkhbppmgfkaaGreatDoorSls
import Derived.Test.YtoehkhbppmgfkaaGreatDoorSl
import Derived.Lib.LaidTab
import Derived.Lib.LaidU8
import Derived.MakeChecks
namespace Go.Proofs.YtoehkhbppmgfkaaGreatDoor

def choose (x y z : BitVec 32) : BitVec 32 := (x &&& y) ^^^ (~~~ x &&& z)
def majority (x y z : BitVec 32) : BitVec 32 := (x &&& y) ^^^ (x &&& z) ^^^ (y &&& z)
def bigSigma0 (x : BitVec 32) : BitVec 32 := x.rotateRight 2 ^^^ x.rotateRight 13 ^^^ x.rotateRight 22
def bigSigma1 (x : BitVec 32) : BitVec 32 := x.rotateRight 6 ^^^ x.rotateRight 11 ^^^ x.rotateRight 25
def smallSigma0 (x : BitVec 32) : BitVec 32 := x.rotateRight 7 ^^^ x.rotateRight 18 ^^^ x >>> 3
def smallSigma1 (x : BitVec 32) : BitVec 32 := x.rotateRight 17 ^^^ x.rotateRight 19 ^^^ x >>> 10
/-- The number that bytes are, the highest first. -/
def num (l : List UInt8) : Nat := l.foldl (fun n b => n * 256 + b.toNat) 0
def word4 (a b c d : UInt8) : BitVec 32 := bw a <<< 24 ||| bw b <<< 16 ||| bw c <<< 8 ||| bw d
/-- The i-th word of a block. -/
def bword (p : List UInt8) (i : Nat) : BitVec 32 := word4 (p.getD (4 * i) 0) (p.getD (4 * i + 1) 0) (p.getD (4 * i + 2) 0) (p.getD (4 * i + 3) 0)
/-- The next word of the schedule, the ones ahead of it being l. -/
def swNext (p : List UInt8) (l : List (BitVec 32)) : BitVec 32 :=
  if l.length < 16 then bword p l.length
  else l.getD (l.length - 16) 0 + smallSigma0 (l.getD (l.length - 15) 0) + l.getD (l.length - 7) 0 + smallSigma1 (l.getD (l.length - 2) 0)
/-- The first k words of the schedule. -/
def sw (p : List UInt8) : Nat → List (BitVec 32)
  | 0 => []
  | k + 1 => let l := sw p k; l ++ [swNext p l]
theorem sw_length (p : List UInt8) (k : Nat) : (sw p k).length = k := by
  induction k with
  | zero => rfl
  | succ k ih => simp [sw, ih]
theorem sw_succ (p : List UInt8) (k : Nat) : sw p (k + 1) = sw p k ++ [swNext p (sw p k)] := rfl
theorem sw_next_lo (p : List UInt8) (k : Nat) (h : k < 16) : swNext p (sw p k) = bword p k := by
  unfold swNext; rw [sw_length, if_pos h]
theorem sw_next_hi (p : List UInt8) (k : Nat) (h : 16 ≤ k) : swNext p (sw p k) = (sw p k).getD (k - 16) 0 + smallSigma0 ((sw p k).getD (k - 15) 0) + (sw p k).getD (k - 7) 0 + smallSigma1 ((sw p k).getD (k - 2) 0) := by
  unfold swNext; rw [sw_length, if_neg (by omega)]
/-- The array of the schedule while it is filled: k words, and noughts. -/
def swArr (p : List UInt8) (k : Nat) : List Value := (sw p k).map vw ++ List.replicate (64 - k) (.int .u32 0)
theorem swArr_length (p : List UInt8) (k : Nat) (h : k ≤ 64) : (swArr p k).length = 64 := by
  unfold swArr; rw [List.length_append, List.length_map, sw_length, List.length_replicate]; omega
theorem swArr_lt (p : List UInt8) (k j : Nat) (h : j < k) : (swArr p k)[j]? = some (vw ((sw p k).getD j 0)) := by
  unfold swArr
  rw [List.getElem?_append_left (by rw [List.length_map, sw_length]; exact h), List.getElem?_map, List.getD_eq_getElem?_getD, List.getElem?_eq_getElem (by rw [sw_length]; exact h)]
  rfl
theorem swArr_at (p : List UInt8) (k : Nat) (h : k < 64) : (swArr p k)[k]? = some (.int .u32 0) := by
  unfold swArr
  rw [List.getElem?_append_right (by rw [List.length_map, sw_length]; exact Nat.le_refl _), List.length_map, sw_length, Nat.sub_self, List.getElem?_replicate, if_pos (by omega)]
theorem swArr_set (p : List UInt8) (k : Nat) (h : k < 64) : (swArr p k).set k (vw (swNext p (sw p k))) = swArr p (k + 1) := by
  unfold swArr
  rw [List.set_append_right _ _ (by rw [List.length_map, sw_length]; exact Nat.le_refl _), List.length_map, sw_length, Nat.sub_self, show 64 - k = (64 - (k + 1)) + 1 from by omega, List.replicate_succ, List.set_cons_zero, sw_succ, List.map_append, List.append_assoc]
  rfl
theorem swArr_zero (p : List UInt8) : swArr p 0 = List.replicate 64 (.int .u32 0) := rfl
theorem swArr_full (p : List UInt8) : swArr p 64 = (sw p 64).map vw := by unfold swArr; exact List.append_nil _
/-- A word for each round. -/
def KL : List (BitVec 32) := [0x428a2f98#32, 0x71374491#32, 0xb5c0fbcf#32, 0xe9b5dba5#32, 0x3956c25b#32, 0x59f111f1#32, 0x923f82a4#32, 0xab1c5ed5#32, 0xd807aa98#32, 0x12835b01#32, 0x243185be#32, 0x550c7dc3#32, 0x72be5d74#32, 0x80deb1fe#32, 0x9bdc06a7#32, 0xc19bf174#32, 0xe49b69c1#32, 0xefbe4786#32, 0x0fc19dc6#32, 0x240ca1cc#32, 0x2de92c6f#32, 0x4a7484aa#32, 0x5cb0a9dc#32, 0x76f988da#32, 0x983e5152#32, 0xa831c66d#32, 0xb00327c8#32, 0xbf597fc7#32, 0xc6e00bf3#32, 0xd5a79147#32, 0x06ca6351#32, 0x14292967#32, 0x27b70a85#32, 0x2e1b2138#32, 0x4d2c6dfc#32, 0x53380d13#32, 0x650a7354#32, 0x766a0abb#32, 0x81c2c92e#32, 0x92722c85#32, 0xa2bfe8a1#32, 0xa81a664b#32, 0xc24b8b70#32, 0xc76c51a3#32, 0xd192e819#32, 0xd6990624#32, 0xf40e3585#32, 0x106aa070#32, 0x19a4c116#32, 0x1e376c08#32, 0x2748774c#32, 0x34b0bcb5#32, 0x391c0cb3#32, 0x4ed8aa4a#32, 0x5b9cca4f#32, 0x682e6ff3#32, 0x748f82ee#32, 0x78a5636f#32, 0x84c87814#32, 0x8cc70208#32, 0x90befffa#32, 0xa4506ceb#32, 0xbef9a3f7#32, 0xc67178f2#32]
/-- The eight words of a state. -/
structure St where
  a : BitVec 32
  b : BitVec 32
  c : BitVec 32
  d : BitVec 32
  e : BitVec 32
  f : BitVec 32
  g : BitVec 32
  h : BitVec 32
def St.list (s : St) : List (BitVec 32) := [s.a, s.b, s.c, s.d, s.e, s.f, s.g, s.h]
abbrev St.cells (s : St) : List Value := [vw s.a, vw s.b, vw s.c, vw s.d, vw s.e, vw s.f, vw s.g, vw s.h]
/-- One round. -/
def rnd (kc wc : BitVec 32) (s : St) : St :=
  ⟨s.h + bigSigma1 s.e + choose s.e s.f s.g + kc + wc + (bigSigma0 s.a + majority s.a s.b s.c), s.a, s.b, s.c, s.d + (s.h + bigSigma1 s.e + choose s.e s.f s.g + kc + wc), s.e, s.f, s.g⟩
/-- The first k rounds. -/
def rnds (l : List (BitVec 32)) (s : St) : Nat → St
  | 0 => s
  | k + 1 => rnd (KL.getD k 0) (l.getD k 0) (rnds l s k)
theorem rnds_zero (l : List (BitVec 32)) (s : St) : rnds l s 0 = s := rfl
theorem rnds_succ (l : List (BitVec 32)) (s : St) (k : Nat) : rnds l s (k + 1) = rnd (KL.getD k 0) (l.getD k 0) (rnds l s k) := rfl
def St.add (s t : St) : St := ⟨s.a + t.a, s.b + t.b, s.c + t.c, s.d + t.d, s.e + t.e, s.f + t.f, s.g + t.g, s.h + t.h⟩
/-- The state behind a block. -/
def compress (s : St) (p : List UInt8) : St := s.add (rnds (sw p 64) s 64)
def St.first : St := ⟨0x6a09e667#32, 0xbb67ae85#32, 0x3c6ef372#32, 0xa54ff53a#32, 0x510e527f#32, 0x9b05688c#32, 0x1f83d9ab#32, 0x5be0cd19#32⟩
attribute [irreducible] rnds compress KL sw swArr swNext num word4
end Go.Proofs.YtoehkhbppmgfkaaGreatDoor
namespace Go.Proofs.YtoehkhbppmgfkaaGreatDoor

/-- The state behind k blocks of q. -/
def runN (s : St) (q : List UInt8) : Nat → St
  | 0 => s
  | k + 1 => compress (runN s q k) ((q.drop (64 * k)).take 64)
theorem runN_zero (s : St) (q : List UInt8) : runN s q 0 = s := rfl
theorem runN_succ (s : St) (q : List UInt8) (k : Nat) : runN s q (k + 1) = compress (runN s q k) ((q.drop (64 * k)).take 64) := rfl
/-- The state behind all whole blocks, and what stands behind them. -/
def stOf (s : St) (q : List UInt8) : St := runN s q (q.length / 64)
def restOf (q : List UInt8) : List UInt8 := q.drop (64 * (q.length / 64))
theorem restOf_length (q : List UInt8) : (restOf q).length = q.length % 64 := by unfold restOf; rw [List.length_drop]; omega
theorem restOf_small (q : List UInt8) (h : q.length < 64) : restOf q = q := by unfold restOf; rw [Nat.div_eq_of_lt h]; rfl
theorem stOf_small (s : St) (q : List UInt8) (h : q.length < 64) : stOf s q = s := by unfold stOf; rw [Nat.div_eq_of_lt h]; rfl
theorem runN_app (s : St) (a b : List UInt8) : ∀ k, 64 * k ≤ a.length → runN s (a ++ b) k = runN s a k := by
  intro k
  induction k with
  | zero => intro _; rfl
  | succ k ih =>
    intro h
    rw [runN_succ, runN_succ, ih (by omega), List.drop_append_of_le_length (by omega), List.take_append_of_le_length (by rw [List.length_drop]; omega)]
theorem runN_add (s : St) (a b : List UInt8) (i : Nat) (h : a.length = 64 * i) : ∀ j, runN s (a ++ b) (i + j) = runN (runN s a i) b j := by
  intro j
  induction j with
  | zero => rw [runN_zero, Nat.add_zero, runN_app _ _ _ _ (by omega)]
  | succ j ih =>
    rw [← Nat.add_assoc, runN_succ, runN_succ, ih, List.drop_append, List.drop_of_length_le (by omega), List.nil_append, show 64 * (i + j) - a.length = 64 * j from by omega]
/-- A text cut at a whole number of blocks. -/
theorem stOf_app (s : St) (a b : List UInt8) (i : Nat) (h : a.length = 64 * i) : stOf s (a ++ b) = stOf (stOf s a) b := by
  unfold stOf
  rw [List.length_append, show (a.length + b.length) / 64 = i + b.length / 64 from by omega, runN_add s a b i h, show a.length / 64 = i from by omega]
theorem restOf_app (a b : List UInt8) (i : Nat) (h : a.length = 64 * i) : restOf (a ++ b) = restOf b := by
  unfold restOf
  rw [List.length_append, List.drop_append, List.drop_of_length_le (by omega), List.nil_append]
  congr 1; omega
theorem split_rest (q : List UInt8) : q.take (64 * (q.length / 64)) ++ restOf q = q := by unfold restOf; exact List.take_append_drop _ _
theorem take_whole (q : List UInt8) : (q.take (64 * (q.length / 64))).length = 64 * (q.length / 64) := by rw [List.length_take]; omega
theorem stOf_take (s : St) (q : List UInt8) : stOf s (q.take (64 * (q.length / 64))) = stOf s q := by
  have h := stOf_app s (q.take (64 * (q.length / 64))) (restOf q) _ (take_whole q)
  rw [split_rest] at h
  rw [h, stOf_small _ (restOf q) (by rw [restOf_length]; omega)]
/-- Feeding goes on as if all had come at once. -/
theorem stOf_feed (s : St) (q p : List UInt8) : stOf (stOf s q) (restOf q ++ p) = stOf s (q ++ p) := by
  have h := stOf_app s (q.take (64 * (q.length / 64))) (restOf q ++ p) _ (take_whole q)
  rw [← List.append_assoc, split_rest] at h
  rw [h, stOf_take]
theorem restOf_feed (q p : List UInt8) : restOf (restOf q ++ p) = restOf (q ++ p) := by
  have h := restOf_app (q.take (64 * (q.length / 64))) (restOf q ++ p) _ (take_whole q)
  rw [← List.append_assoc, split_rest] at h
  exact h.symm
/-- One block, and the rest. -/
theorem stOf_block (s : St) (a b : List UInt8) (h : a.length = 64) : stOf s (a ++ b) = stOf (compress s a) b := by
  rw [stOf_app s a b 1 (by omega)]
  congr 1
  unfold stOf
  rw [h, show 64 / 64 = 1 from rfl, runN_succ, runN_zero, Nat.mul_zero, List.drop_zero, List.take_of_length_le (by omega)]
/-- The fold over the numbers of the whole blocks, from place k on, is the run. -/
theorem fold_runN (s : St) (p : List UInt8) (k : Nat) : ∀ (l : List Nat) (n : Nat), l = List.range n → l.foldl (fun s x => compress s ((p.drop (k + 64 * x)).take 64)) s = runN s (p.drop k) n := by
  intro l n h; subst h
  induction n with
  | zero => rfl
  | succ n ih => rw [List.range_succ, List.foldl_append, ih, List.foldl_cons, List.foldl_nil, runN_succ, List.drop_drop]
attribute [irreducible] runN
end Go.Proofs.YtoehkhbppmgfkaaGreatDoor
namespace Go.Proofs.YtoehkhbppmgfkaaGreatDoor

/-- The last size bytes of a number, the highest first. -/
def be (n : Nat) : Nat → List UInt8
  | 0 => []
  | k + 1 => be (n / 256) k ++ [UInt8.ofNat n]
theorem be_length (n k : Nat) : (be n k).length = k := by
  induction k generalizing n with
  | zero => rfl
  | succ k ih => simp [be, ih]
/-- A word's bytes. -/
def wb (x : BitVec 32) : List UInt8 := [UInt8.ofNat (x >>> 24).toNat, UInt8.ofNat (x >>> 16).toNat, UInt8.ofNat (x >>> 8).toNat, UInt8.ofNat x.toNat]
theorem wb_be (x : BitVec 32) : wb x = be x.toNat 4 := by
  simp only [wb, be, List.nil_append, List.cons_append, BitVec.toNat_ushiftRight, Nat.shiftRight_eq_div_pow, Nat.div_div_eq_div_mul]
theorem be_add (n j k : Nat) : be n (j + k) = be (n / 256 ^ k) j ++ be n k := by
  induction k generalizing n with
  | zero => simp [be]
  | succ k ih => rw [← Nat.add_assoc]; simp only [be]; rw [ih, Nat.div_div_eq_div_mul, List.append_assoc, Nat.pow_succ, Nat.mul_comm 256]
theorem be_mod (n k : Nat) : be (n % 256 ^ k) k = be n k := by
  induction k generalizing n with
  | zero => rfl
  | succ k ih =>
    simp only [be]
    have h1 : n % 256 ^ (k + 1) / 256 = n / 256 % 256 ^ k := by rw [Nat.pow_succ, Nat.mul_comm, Nat.mod_mul_right_div_self]
    have h2 : UInt8.ofNat (n % 256 ^ (k + 1)) = UInt8.ofNat n := by
      apply UInt8.toNat_inj.1
      rw [UInt8.toNat_ofNat', UInt8.toNat_ofNat', Nat.pow_succ, Nat.mul_comm, Nat.mod_mul_right_mod]
    rw [h1, h2, ih]
theorem count_be (n : Nat) : wb (BitVec.ofNat 32 (n % 18446744073709551616 / 4294967296)) ++ wb (BitVec.ofNat 32 n) = be n 8 := by
  have e1 : be (n % 18446744073709551616 / 4294967296 % 2 ^ 32) 4 = be (n / 256 ^ 4) 4 := by
    rw [show (2 : Nat) ^ 32 = 256 ^ 4 from rfl, be_mod, ← be_mod (n / 256 ^ 4), show (256 : Nat) ^ 4 = 4294967296 from rfl]
    have : n % 18446744073709551616 / 4294967296 = n / 4294967296 % 4294967296 := by omega
    rw [this]
  rw [wb_be, wb_be, BitVec.toNat_ofNat, BitVec.toNat_ofNat, e1, show (2 : Nat) ^ 32 = 256 ^ 4 from rfl, be_mod, ← be_add n 4 4]
theorem wb_length (x : BitVec 32) : (wb x).length = 4 := rfl
/-- Words as bytes. -/
def wbs (l : List (BitVec 32)) : List UInt8 := l.flatMap wb
theorem wbs_length (l : List (BitVec 32)) : (wbs l).length = 4 * l.length := by
  induction l with
  | nil => rfl
  | cons x l ih => unfold wbs at ih ⊢; rw [List.flatMap_cons, List.length_append, ih, wb_length, List.length_cons]; omega
theorem wbs_take (l : List (BitVec 32)) (k : Nat) (h : k < l.length) : wbs (l.take (k + 1)) = wbs (l.take k) ++ wb (l.getD k 0) := by
  unfold wbs
  rw [List.take_succ_eq_append_getElem h, List.flatMap_append, List.getD_eq_getElem?_getD, List.getElem?_eq_getElem h]
  simp
/-- What follows a message of n bytes. -/
def padl (n : Nat) : List UInt8 := 128 :: List.replicate ((119 - n % 64) % 64) 0 ++ be (n * 8) 8
theorem padl_length (n : Nat) : (padl n).length = (119 - n % 64) % 64 + 9 := by unfold padl; rw [List.length_append, be_length, List.length_cons, List.length_replicate]
theorem wbs_snoc (l : List (BitVec 32)) (x : BitVec 32) : wbs (l ++ [x]) = wbs l ++ wb x := by unfold wbs; rw [List.flatMap_append]; simp
theorem padl_whole (n : Nat) : (n + (padl n).length) % 64 = 0 := by rw [padl_length]; omega
/-- The hash of a message. -/
def sumL (m : List UInt8) : List UInt8 := wbs (stOf St.first (m ++ padl m.length)).list
theorem sumL_length (m : List UInt8) : (sumL m).length = 32 := by unfold sumL; rw [wbs_length]; rfl
/-- Two digits a byte. -/
def digit (n : Nat) : UInt8 := UInt8.ofNat (if n < 10 then 48 + n else 87 + n)
def hexL (l : List UInt8) : List UInt8 := l.flatMap fun b => [digit (b.toNat / 16), digit (b.toNat % 16)]
theorem hexL_snoc (l : List UInt8) (b : UInt8) : hexL (l ++ [b]) = hexL l ++ [digit (b.toNat / 16), digit (b.toNat % 16)] := by unfold hexL; rw [List.flatMap_append]; simp
theorem hexL_length (l : List UInt8) : (hexL l).length = 2 * l.length := by
  induction l with
  | nil => rfl
  | cons b l ih => unfold hexL at ih ⊢; rw [List.flatMap_cons, List.length_append, ih]; simp; omega
theorem sum_abc : hexL (sumL [97, 98, 99]) = [98, 97, 55, 56, 49, 54, 98, 102, 56, 102, 48, 49, 99, 102, 101, 97, 52, 49, 52, 49, 52, 48, 100, 101, 53, 100, 97, 101, 50, 50, 50, 51, 98, 48, 48, 51, 54, 49, 97, 51, 57, 54, 49, 55, 55, 97, 57, 99, 98, 52, 49, 48, 102, 102, 54, 49, 102, 50, 48, 48, 49, 53, 97, 100] := by decide +kernel
attribute [irreducible] sumL padl hexL digit
end Go.Proofs.YtoehkhbppmgfkaaGreatDoor
namespace Go.Proofs.YtoehkhbppmgfkaaGreatDoor
open Go.RowKit
attribute [local go_sem] bv_and bv_or bv_xor bv_not bv_add bv_shr3 bv_shr10

theorem choose_any (x y z : BitVec 32) (w : World) : Calls Tryz.prog 107 #[vw x, vw y, vw z] w fun e w' => e = .returned (vw (choose x y z)) ∧ w = w' := by
  go_enter Tryz.func107, Tryz.ntmps107
  go_wp2
  go_ret
  exact ⟨rfl, rfl⟩
theorem majority_any (x y z : BitVec 32) (w : World) : Calls Tryz.prog 109 #[vw x, vw y, vw z] w fun e w' => e = .returned (vw (majority x y z)) ∧ w = w' := by
  go_enter Tryz.func109, Tryz.ntmps109
  go_wp2
  go_ret
  exact ⟨rfl, rfl⟩
theorem rot_any (x : BitVec 32) (k : Int) (n : Nat) (hn : n < 32) (hn0 : 0 < n) (hk : bits .and .u64 (IntKind.u64.wrap k) 31 = ((32 - n : Nat) : Int)) (w : World) : Calls Tryz.prog 118 #[vw x, .int .i64 k] w fun e w' => e = .returned (vw (x.rotateRight n)) ∧ w = w' := by
  have e2 : IntKind.u64.wrap (32 - ((32 - n : Nat) : Int)) = (n : Int) := by rw [IntKind.wrap_u64]; omega
  have h1 := shift_shl_wn x (32 - n) (by omega) .u64
  have h2 := shift_shr_wn x n (by omega) .u64
  have h3 := bv_rotl x n hn
  go_enter Tryz.func118, Tryz.ntmps118
  go_wp2
  go_ret
  exact ⟨by show Ending.returned (.int .u32 (bits .or .u32 (wn x * 2 ^ (32 - n) % 4294967296) (wn x / 2 ^ n))) = _; rw [bv_shl', bv_shr, bv_or, h3], rfl⟩
theorem bigSigma0_any (x : BitVec 32) (w : World) : Calls Tryz.prog 108 #[vw x] w fun e w' => e = .returned (vw (bigSigma0 x)) ∧ w = w' := by
  go_enter Tryz.func108, Tryz.ntmps108
  go_wp2_with fail
  refine (rot_any x (-2) 2 (by decide) (by decide) (by decide) _).mono ?_; rintro e w' ⟨rfl, rfl⟩
  go_wp2_with fail
  refine (rot_any x (-13) 13 (by decide) (by decide) (by decide) _).mono ?_; rintro e w' ⟨rfl, rfl⟩
  go_wp2_with fail
  refine (rot_any x (-22) 22 (by decide) (by decide) (by decide) _).mono ?_; rintro e w' ⟨rfl, rfl⟩
  go_wp2_with fail
  go_ret
  exact ⟨rfl, rfl⟩
theorem bigSigma1_any (x : BitVec 32) (w : World) : Calls Tryz.prog 106 #[vw x] w fun e w' => e = .returned (vw (bigSigma1 x)) ∧ w = w' := by
  go_enter Tryz.func106, Tryz.ntmps106
  go_wp2_with fail
  refine (rot_any x (-6) 6 (by decide) (by decide) (by decide) _).mono ?_; rintro e w' ⟨rfl, rfl⟩
  go_wp2_with fail
  refine (rot_any x (-11) 11 (by decide) (by decide) (by decide) _).mono ?_; rintro e w' ⟨rfl, rfl⟩
  go_wp2_with fail
  refine (rot_any x (-25) 25 (by decide) (by decide) (by decide) _).mono ?_; rintro e w' ⟨rfl, rfl⟩
  go_wp2_with fail
  go_ret
  exact ⟨rfl, rfl⟩
theorem smallSigma0_any (x : BitVec 32) (w : World) : Calls Tryz.prog 116 #[vw x] w fun e w' => e = .returned (vw (smallSigma0 x)) ∧ w = w' := by
  go_enter Tryz.func116, Tryz.ntmps116
  go_wp2_with fail
  refine (rot_any x (-7) 7 (by decide) (by decide) (by decide) _).mono ?_; rintro e w' ⟨rfl, rfl⟩
  go_wp2_with fail
  refine (rot_any x (-18) 18 (by decide) (by decide) (by decide) _).mono ?_; rintro e w' ⟨rfl, rfl⟩
  go_wp2_with fail
  go_ret
  exact ⟨rfl, rfl⟩
theorem smallSigma1_any (x : BitVec 32) (w : World) : Calls Tryz.prog 117 #[vw x] w fun e w' => e = .returned (vw (smallSigma1 x)) ∧ w = w' := by
  go_enter Tryz.func117, Tryz.ntmps117
  go_wp2_with fail
  refine (rot_any x (-17) 17 (by decide) (by decide) (by decide) _).mono ?_; rintro e w' ⟨rfl, rfl⟩
  go_wp2_with fail
  refine (rot_any x (-19) 19 (by decide) (by decide) (by decide) _).mono ?_; rintro e w' ⟨rfl, rfl⟩
  go_wp2_with fail
  go_ret
  exact ⟨rfl, rfl⟩
theorem word_any (b o n cap : Nat) (c0 c1 c2 c3 : UInt8) (w : World) (h0 : w.cell? ⟨b, o, none⟩ = some (vb c0)) (h1 : w.cell? ⟨b, o + 1, none⟩ = some (vb c1)) (h2 : w.cell? ⟨b, o + 2, none⟩ = some (vb c2)) (h3 : w.cell? ⟨b, o + 3, none⟩ = some (vb c3)) (hn : 4 ≤ n) (hn1 : n ≤ 9223372036854775807) :
    Calls Tryz.prog 115 #[.slice (some ⟨b, o, none⟩) n cap] w fun e w' => e = .returned (vw (word4 c0 c1 c2 c3)) ∧ ∃ k, w' = w.drewN k := by
  have e0 : (0 : Int) < (n : Int) := by omega
  have e1 : (1 : Int) < (n : Int) := by omega
  have e2 : (2 : Int) < (n : Int) := by omega
  have e3 : (3 : Int) < (n : Int) := by omega
  go_enter Tryz.func115, Tryz.ntmps115
  go_wp2_with fail
  go_quiet (fail)
  go_wp2
  go_ret
  exact ⟨(ret_int (by simp only [bn_mod, bv_shl8, bv_shl16, bv_shl24, bv_or]; unfold word4; rfl) : _ = Ending.returned (vw (word4 c0 c1 c2 c3))), _, rfl⟩
end Go.Proofs.YtoehkhbppmgfkaaGreatDoor
namespace Go.Proofs.YtoehkhbppmgfkaaGreatDoor
open Go.RowKit
attribute [local go_sem] bv_add

def nought64 : List Value := List.replicate 64 (.int .u32 0)
theorem info_w64 : (Tryz.prog.info? 152).map (·.size) = some 64 := by kernel_rfl
theorem oneCell_words (l : List (BitVec 32)) : (l.map vw).toArray.all (·.oneCell') = true := all_oneCell_toArray (by
  intro v hv; rw [List.mem_map] at hv; obtain ⟨x, _, rfl⟩ := hv; rfl)
set_option maxRecDepth 100000 in
set_option maxHeartbeats 1000000 in
theorem schedule_any (b o cap : Nat) (p : List UInt8) (w : World) (hp : p.length = 64) (hb : b < w.heap.size) (hbs : Bs w b o p) (hcap : 64 ≤ cap) (hcap2 : cap ≤ 9223372036854775807) :
    Calls Tryz.prog 105 #[.slice (some ⟨b, o, none⟩) 64 cap] w fun e w' => e = .returned (.agg ((sw p 64).map vw).toArray) ∧ Below w.heap.size w w' := by
  have Hbs := Lib.hid hbs; clear hbs
  have Hp := Lib.hid hp; clear hp
  go_enter Tryz.func105, Tryz.ntmps105
  go_wp2_with fail
  go_loopw [6] (fun i wr => ∃ k : Nat, k ≤ 16 ∧ i = .int .i64 k ∧ Blk wr (w.heap.size + 1) (swArr p k) ∧ Blk wr w.heap.size nought64 ∧ Below w.heap.size w wr) (fun i _ => 16 - (intOf i).toNat)
  case atStart =>
    exact ⟨0, by omega, rfl, Blk.newAt _ _ _ (by simp) (swArr_zero p).symm, (Blk.newAt _ _ _ rfl rfl).alloc _, ((Below.refl _ _).alloc (Nat.le_refl _) _).alloc (by simp) _⟩
  case round =>
    obtain ⟨k, hk, rfl, hB, hZ, hw⟩ := hrel
    have HB := Lib.hid hB; clear hB
    have HZ := Lib.hid hZ; clear hZ
    have HW := Lib.hid hw; clear hw
    by_cases hlt : k < 16
    · have c0 : wr.cell? ⟨w.heap.size + 1, k, none⟩ = some (.int .u32 0) := HB.out.at (swArr_at p k (by omega))
      have f0 : wr.frozen? ⟨w.heap.size + 1, k, none⟩ = false := HB.out.free k
      have HR : Hid (Bs wr b o p) := Lib.hid (Hbs.out.below HW.out (by omega))
      go_wp2_with fail
      refine (word_any b (o + 4 * k) _ _ _ _ _ _ wr (HR.out.getD (by rw [Hp.out]; omega)) (HR.out.getD2 (by rw [Hp.out]; omega)) (HR.out.getD2 (by rw [Hp.out]; omega)) (HR.out.getD2 (by rw [Hp.out]; omega)) (by omega) (by omega)).mono ?_
      rintro e w' ⟨rfl, n, rfl⟩
      go_wp2_with fail
      go_roundw
      case rel =>
        refine ⟨k + 1, by omega, by go_num, ?_, (HZ.out.drewN n).setOther (by simp) _, (below_drewN HW.out n).setCell (Nat.le_succ _) _⟩
        have := (HB.out.drewN n).set k (vw (swNext p (sw p k)))
        rw [swArr_set p k (by omega), sw_next_lo p k hlt] at this
        exact this
      case measure => simp [intOf]; omega
    · obtain rfl : k = 16 := by omega
      rw [show (((16 : Nat) : Int)) = (16 : Int) from rfl]
      go_wp2_with fail
      go_loopw [5] (fun i wr => ∃ k : Nat, 16 ≤ k ∧ k ≤ 64 ∧ i = .int .i64 k ∧ Blk wr (w.heap.size + 1) (swArr p k) ∧ Blk wr w.heap.size nought64 ∧ Below w.heap.size w wr) (fun i _ => 64 - (intOf i).toNat)
      case atStart => exact ⟨16, by omega, by omega, rfl, HB.out, HZ.out, HW.out⟩
      case round =>
        clear HB HZ HW
        obtain ⟨k, hk1, hk2, rfl, hB, hZ, hw⟩ := hrel
        have HB := Lib.hid hB; clear hB
        have HZ := Lib.hid hZ; clear hZ
        have HW := Lib.hid hw; clear hw
        by_cases hlt : k < 64
        · have c1 : wr.cell? ⟨w.heap.size + 1, k - 16, none⟩ = some (vw ((sw p k).getD (k - 16) 0)) := HB.out.at (swArr_lt p k _ (by omega))
          have c2 : wr.cell? ⟨w.heap.size + 1, k - 15, none⟩ = some (vw ((sw p k).getD (k - 15) 0)) := HB.out.at (swArr_lt p k _ (by omega))
          have c3 : wr.cell? ⟨w.heap.size + 1, k - 7, none⟩ = some (vw ((sw p k).getD (k - 7) 0)) := HB.out.at (swArr_lt p k _ (by omega))
          have c4 : wr.cell? ⟨w.heap.size + 1, k - 2, none⟩ = some (vw ((sw p k).getD (k - 2) 0)) := HB.out.at (swArr_lt p k _ (by omega))
          have c0 : wr.cell? ⟨w.heap.size + 1, k, none⟩ = some (.int .u32 0) := HB.out.at (swArr_at p k (by omega))
          have f0 : wr.frozen? ⟨w.heap.size + 1, k, none⟩ = false := HB.out.free k
          go_wp2_with fail
          have w16 : IntKind.i64.wrap ((k : Int) - 16) = (k : Int) - 16 := IntWalk.i64_in _ (by omega)
          have l16 : (16 : Int) ≤ (k : Int) := by omega
          have g16 : (k : Int) - 16 < 64 := by omega
          have t16 : ((k : Int) - 16).toNat = k - 16 := by omega
          have w15 : IntKind.i64.wrap ((k : Int) - 15) = (k : Int) - 15 := IntWalk.i64_in _ (by omega)
          have l15 : (15 : Int) ≤ (k : Int) := by omega
          have g15 : (k : Int) - 15 < 64 := by omega
          have t15 : ((k : Int) - 15).toNat = k - 15 := by omega
          have w7 : IntKind.i64.wrap ((k : Int) - 7) = (k : Int) - 7 := IntWalk.i64_in _ (by omega)
          have l7 : (7 : Int) ≤ (k : Int) := by omega
          have g7 : (k : Int) - 7 < 64 := by omega
          have t7 : ((k : Int) - 7).toNat = k - 7 := by omega
          have w2 : IntKind.i64.wrap ((k : Int) - 2) = (k : Int) - 2 := IntWalk.i64_in _ (by omega)
          have l2 : (2 : Int) ≤ (k : Int) := by omega
          have g2 : (k : Int) - 2 < 64 := by omega
          have t2 : ((k : Int) - 2).toNat = k - 2 := by omega
          refine wp_region_still_tail 23 (by kernel_rfl) (by kernel_rfl) ?_
          simp only [List.take_succ_cons, List.take_zero, List.drop_succ_cons, List.drop_zero]
          repeat still_step
          still_call ((smallSigma0_any _ _).mono fun _ _ h => ⟨h.1, h.2.symm⟩)
          repeat still_step
          still_call ((smallSigma1_any _ _).mono fun _ _ h => ⟨h.1, h.2.symm⟩)
          repeat still_step
          refine wpStill_nil ?_
          clear w16 l16 g16 t16 w15 l15 g15 t15 w7 l7 g7 t7 w2 l2 g2 t2 c1 c2 c3 c4
          have c5 : wr.drew.cell? ⟨w.heap.size + 1, k, none⟩ = some (.int .u32 0) := c0
          go_wp2_with fail
          go_roundw
          case rel =>
            refine ⟨k + 1, by omega, by omega, by go_num, ?_, HZ.out.drew.setOther (by simp) _, HW.out.drew.setCell (Nat.le_succ _) _⟩
            have := HB.out.drew.set k (vw (swNext p (sw p k)))
            rw [swArr_set p k (by omega), sw_next_hi p k hk1] at this
            exact this
          case measure => simp [intOf]; omega
        · obtain rfl : k = 64 := by omega
          have hA : wr.rangeAt (w.heap.size + 1) 0 ((sw p 64).map vw) := by
            have := HB.out.range 0 64
            rw [List.drop_zero, List.take_of_length_le (by rw [swArr_length p 64 (by omega)]; exact Nat.le_refl _)] at this
            rw [swArr_full] at this; exact this
          have HA := Lib.hid hA; clear hA
          have HT := Lib.hid (HZ.out.there 0 64 (Nat.le_refl _))
          have HE : Hid (((sw p 64).map vw).length = 64) := Lib.hid (by rw [List.length_map, sw_length])
          have HS : Hid (((sw p 64).map vw).toArray.size = 64) := Lib.hid (by simp [sw_length])
          rw [show (((64 : Nat) : Int)) = (64 : Int) from rfl]
          go_wp2_with (first
            | ((with_reducible refine wpList_load_mid ?g1 152 (.tmp 3) ?g2 (w.heap.size + 1) 0 ?g3 ((sw p 64).map vw) _ HA.out Tryz.underlying152 ?g4 ?g5 ?_); (case g1 => rfl); (case g2 => rfl); (case g3 => rfl); (case g4 => rfl); (case g5 => rw [HE.out]; exact info_w64))
            | ((with_reducible refine wpList_store_mid ?s1 152 (.tmp 2) (.tmp 44) ?s2 w.heap.size 0 ((sw p 64).map vw).toArray ?s3 ?s4 ?s5 ?s6 (oneCell_words _) ?_); (case s1 => rfl); (case s2 => rfl); (case s3 => rfl); (case s4 => rfl); (case s5 => rw [HS.out]; exact HT.out); (case s6 => rw [HS.out]; exact info_w64)))
          obtain ⟨t, ht⟩ := HZ.out.setAll (vs := (sw p 64).map vw) (by rw [HE.out]; rfl)
          refine bodyPost_ret (v := .agg ((sw p 64).map vw).toArray) ?_ rfl ?_
          · exact results_cell_row rfl _ _ w.heap.size t _ _ _ rfl ht Tryz.underlying152 rfl (by rw [HS.out]; exact info_w64)
          · exact ⟨rfl, below_setCells (Nat.le_refl _) _ HW.out 0⟩
end Go.Proofs.YtoehkhbppmgfkaaGreatDoor
namespace Go.Proofs.YtoehkhbppmgfkaaGreatDoor
open Go.RowKit
attribute [local go_sem] bv_add

/-- The round constants' variable holds what the text lays. -/
def TabA (w : World) : Prop := ∀ j, j < 64 → w.cell? ⟨4, j, none⟩ = some (vw (KL.getD j 0))
theorem TabA.below {B : Nat} {w w' : World} (h : TabA w) (hb : Below B w w') (hB : 4 < B) : TabA w' := fun j hj => (hb.cell (p := ⟨_, j, none⟩) hB).trans (h j hj)
def nought8 : List Value := List.replicate 8 (.int .u32 0)
theorem info_w8 : (Tryz.prog.info? 136).map (·.size) = some 8 := by kernel_rfl
set_option maxRecDepth 100000 in
theorem index8 (r : St) (k : Nat) (hk : k < 8) (w : World) : (Instr.index 136 (.agg #[vw r.a, vw r.b, vw r.c, vw r.d, vw r.e, vw r.f, vw r.g, vw r.h]) (.int .i64 (k : Int))).run Tryz.prog w = .ok (vw (r.list.getD k 0)) w := by
  match k, hk with
  | 0, _ => rfl
  | 1, _ => rfl
  | 2, _ => rfl
  | 3, _ => rfl
  | 4, _ => rfl
  | 5, _ => rfl
  | 6, _ => rfl
  | 7, _ => rfl
/-- The state's array while the rounds' words are added: k of them. -/
def addArr (s r : St) (k : Nat) : List Value := ((s.add r).list.take k ++ s.list.drop k).map vw
theorem addArr_zero (s r : St) : addArr s r 0 = s.cells := rfl
theorem addArr_full (s r : St) : addArr s r 8 = (s.add r).cells := rfl
theorem addArr_at (s r : St) (k : Nat) (hk : k < 8) : (addArr s r k)[k]? = some (vw (s.list.getD k 0)) := by
  match k, hk with
  | 0, _ => rfl
  | 1, _ => rfl
  | 2, _ => rfl
  | 3, _ => rfl
  | 4, _ => rfl
  | 5, _ => rfl
  | 6, _ => rfl
  | 7, _ => rfl
theorem addArr_set (s r : St) (k : Nat) (hk : k < 8) : (addArr s r k).set k (vw (s.list.getD k 0 + r.list.getD k 0)) = addArr s r (k + 1) := by
  match k, hk with
  | 0, _ => rfl
  | 1, _ => rfl
  | 2, _ => rfl
  | 3, _ => rfl
  | 4, _ => rfl
  | 5, _ => rfl
  | 6, _ => rfl
  | 7, _ => rfl
theorem cells_length (s : St) : s.cells.length = 8 := rfl
theorem cells_oneCell (s : St) : s.cells.toArray.all (·.oneCell') = true := oneCell_words s.list
attribute [irreducible] addArr

/-- What holds of the world while mix runs. -/
structure MInv (w : World) (B : Nat) (cs : List Value) (L : List (BitVec 32)) (W : World) : Prop where
  b0 : Blk W w.heap.size cs
  b1 : Blk W (w.heap.size + 1) nought8
  b2 : Blk W B (L.map vw)
  bw : Below w.heap.size w W
  tab : TabA W
  lt : w.heap.size + 2 ≤ B
theorem MInv.drewN {w W : World} {B : Nat} {cs : List Value} {L : List (BitVec 32)} (h : MInv w B cs L W) (n : Nat) : MInv w B cs L (W.drewN n) := ⟨h.b0.drewN n, h.b1.drewN n, h.b2.drewN n, below_drewN h.bw n, h.tab, h.lt⟩
theorem words_at (L : List (BitVec 32)) (k : Nat) (h : k < L.length) : (L.map vw)[k]? = some (vw (L.getD k 0)) := by
  rw [List.getElem?_map, List.getElem?_eq_getElem h, List.getD_eq_getElem?_getD, List.getElem?_eq_getElem h]; rfl

set_option maxRecDepth 100000 in
set_option maxHeartbeats 1000000 in
theorem mix_any (s : St) (b o cap : Nat) (p : List UInt8) (w : World) (hT : TabA w) (hG : 4 < w.heap.size) (hp : p.length = 64) (hb : b < w.heap.size) (hbs : Bs w b o p) (hcap : 64 ≤ cap) (hcap2 : cap ≤ 9223372036854775807) :
    Calls Tryz.prog 91 #[.agg s.cells.toArray, .slice (some ⟨b, o, none⟩) 64 cap] w fun e w' => e = .returned (.agg (compress s p).cells.toArray) ∧ Below w.heap.size w w' := by
  have HT := Lib.hid hT; clear hT
  have Hbs := Lib.hid hbs; clear hbs
  have Hp := Lib.hid hp; clear hp
  obtain ⟨a, b', c, d, e, f, g, h⟩ := s
  go_enter Tryz.func91, Tryz.ntmps91
  go_wp2_with fail
  refine (schedule_any b o cap p _ Hp.out (by simp; omega) (Hbs.out.below (((Below.refl _ _).alloc (Nat.le_refl _) _).alloc (by simp) _) hb) hcap hcap2).mono ?_
  rintro e w1 ⟨rfl, hw1⟩
  have hz : w.heap.size + 2 ≤ w1.heap.size := by have := hw1.size; simp at this; omega
  have HW1 := Lib.hid hw1; clear hw1
  generalize hL : sw p 64 = L
  have HL := Lib.hid hL; clear hL
  have HS : Hid ((L.map vw).toArray.size = 64) := Lib.hid (by rw [← HL.out]; simp [sw_length])
  go_wp2_with ((with_reducible refine wpList_store_mid ?s1 152 (.tmp 5) (.tmp 20) ?s2 w1.heap.size 0 (L.map vw).toArray ?s3 ?s4 ?s5 ?s6 (oneCell_words _) ?_); (case s1 => rfl); (case s2 => rfl); (case s3 => rfl); (case s4 => rfl); (case s5 => rw [HS.out]; exact (Blk.newAt (cs := nought64) _ _ _ rfl rfl).there 0 64 (Nat.le_refl _)); (case s6 => rw [HS.out]; exact info_w64))
  simp only [Act.put]
  generalize hW : World.setCells _ _ _ _ = W
  have B0 : Blk W w.heap.size [vw a, vw b', vw c, vw d, vw e, vw f, vw g, vw h] := by
    rw [← hW]
    exact ((((Blk.newAt w _ 136 rfl rfl).alloc _).below HW1.out (by simp; omega)).alloc _).below (below_setCells (B := w1.heap.size) (Nat.le_refl _) _ (Below.refl _ _) 0) (by omega)
  have B1 : Blk W (w.heap.size + 1) nought8 := by
    rw [← hW]
    exact (((Blk.newAt (w.alloc _) _ 136 (by simp) rfl).below HW1.out (by simp)).alloc _).below (below_setCells (B := w1.heap.size) (Nat.le_refl _) _ (Below.refl _ _) 0) (by omega)
  have B2 : Blk W w1.heap.size (L.map vw) := by
    rw [← hW]
    exact (Blk.newAt (cs := nought64) _ _ _ rfl rfl).setAll (by have := HS.out; simp at this; simpa [nought64] using this)
  have BW : Below w.heap.size w W := by
    rw [← hW]
    exact below_setCells (by omega) _ ((((Below.refl _ w).alloc (Nat.le_refl _) _).alloc (by simp) _).trans (HW1.out.mono (by simp; omega)) |>.alloc (by omega) _) 0
  have hM : MInv w w1.heap.size [vw a, vw b', vw c, vw d, vw e, vw f, vw g, vw h] L W := ⟨B0, B1, B2, BW, HT.out.below BW hG, hz⟩
  clear hW HW1 B0 B1 B2 BW
  obtain ⟨W, rfl⟩ : ∃ W' : World, W' = W := ⟨_, rfl⟩
  obtain ⟨c0, c1, c2, c3, c4, c5, c6, c7⟩ : W.cell? ⟨w.heap.size, 0, none⟩ = some (vw a) ∧ W.cell? ⟨w.heap.size, 1, none⟩ = some (vw b') ∧ W.cell? ⟨w.heap.size, 2, none⟩ = some (vw c) ∧ W.cell? ⟨w.heap.size, 3, none⟩ = some (vw d) ∧ W.cell? ⟨w.heap.size, 4, none⟩ = some (vw e) ∧ W.cell? ⟨w.heap.size, 5, none⟩ = some (vw f) ∧ W.cell? ⟨w.heap.size, 6, none⟩ = some (vw g) ∧ W.cell? ⟨w.heap.size, 7, none⟩ = some (vw h) := ⟨hM.b0.at rfl, hM.b0.at rfl, hM.b0.at rfl, hM.b0.at rfl, hM.b0.at rfl, hM.b0.at rfl, hM.b0.at rfl, hM.b0.at rfl⟩
  have HM := Lib.hid hM; clear hM
  go_quiet (fail)
  go_wp2_with fail
  clear c0 c1 c2 c3 c4 c5 c6 c7
  have HM' := Lib.hid (HM.out.drewN nq); clear HM
  go_loopw [6, 7, 8, 9, 10, 11, 12, 13, 37] (fun va vb' vc vd ve vf vg vh i wr => ∃ (k : Nat) (r : St), k ≤ 64 ∧ i = .int .i64 k ∧ va = vw r.a ∧ vb' = vw r.b ∧ vc = vw r.c ∧ vd = vw r.d ∧ ve = vw r.e ∧ vf = vw r.f ∧ vg = vw r.g ∧ vh = vw r.h ∧ r = rnds L ⟨a, b', c, d, e, f, g, h⟩ k ∧ MInv w w1.heap.size [vw a, vw b', vw c, vw d, vw e, vw f, vw g, vw h] L wr) (fun _ _ _ _ _ _ _ _ i _ => 64 - (intOf i).toNat)
  case atStart => exact ⟨0, ⟨a, b', c, d, e, f, g, h⟩, by omega, rfl, rfl, rfl, rfl, rfl, rfl, rfl, rfl, rfl, (rnds_zero _ _).symm, HM'.out⟩
  case round =>
    clear HM'
    obtain ⟨k, r, hk, rfl, rfl, rfl, rfl, rfl, rfl, rfl, rfl, rfl, hr, hM⟩ := hrel
    have HR := Lib.hid hr; clear hr
    by_cases hlt : k < 64
    · obtain ⟨d0, d1, k0, k1⟩ : wr.cell? ⟨4, k, none⟩ = some (vw (KL.getD k 0)) ∧ wr.cell? ⟨w1.heap.size, k, none⟩ = some (vw (L.getD k 0)) ∧ (0 : Int) ≤ (k : Int) ∧ (k : Int) < 64 := ⟨hM.tab k hlt, hM.b2.at (words_at L k (by have := HS.out; simp at this; omega)), by omega, by omega⟩
      have HM := Lib.hid hM; clear hM
      go_wp2_with fail
      go_quiet ((first | (go_at_call 106; exact Calls.quiet_of_same ((bigSigma1_any _ _).mono fun _ _ h => ⟨h.1, h.2.symm⟩)) | (go_at_call 107; exact Calls.quiet_of_same ((choose_any _ _ _ _).mono fun _ _ h => ⟨h.1, h.2.symm⟩))))
      go_wp2_with fail
      refine (bigSigma0_any _ _).mono ?_; rintro e w' ⟨rfl, rfl⟩
      go_wp2_with fail
      refine (majority_any _ _ _ _).mono ?_; rintro e w' ⟨rfl, rfl⟩
      go_wp2_with fail
      go_roundw
      case rel =>
        exact ⟨k + 1, rnd (KL.getD k 0) (L.getD k 0) r, by omega, by go_num, rfl, rfl, rfl, rfl, rfl, rfl, rfl, rfl, by rw [HR.out, rnds_succ], HM.out.drewN nq⟩
      case measure => simp [intOf]; omega
    · obtain rfl : k = 64 := by omega
      have HM := Lib.hid hM; clear hM
      rw [show (((64 : Nat) : Int)) = (64 : Int) from rfl]
      go_wp2_with fail
      have HA : Hid (MInv w w1.heap.size (addArr ⟨a, b', c, d, e, f, g, h⟩ r 0) L wr) := by rw [addArr_zero]; exact HM
      clear HM
      go_loopw [86] (fun i wr => ∃ k : Nat, k ≤ 8 ∧ i = .int .i64 k ∧ MInv w w1.heap.size (addArr ⟨a, b', c, d, e, f, g, h⟩ r k) L wr) (fun i _ => 8 - (intOf i).toNat)
      case atStart => exact ⟨0, by omega, rfl, HA.out⟩
      case round =>
        clear HA
        obtain ⟨k, hk, rfl, hM⟩ := hrel
        by_cases hlt : k < 8
        · obtain ⟨d0, f0, k0, k1⟩ : wr.cell? ⟨w.heap.size, k, none⟩ = some (vw ((St.list ⟨a, b', c, d, e, f, g, h⟩).getD k 0)) ∧ wr.frozen? ⟨w.heap.size, k, none⟩ = false ∧ (0 : Int) ≤ (k : Int) ∧ (k : Int) < 8 := ⟨hM.b0.at (addArr_at _ r k hlt), hM.b0.free k, by omega, by omega⟩
          have HM := Lib.hid hM; clear hM
          have hx := index8 r k hlt
          go_wp2_with fail
          go_roundw
          case rel =>
            refine ⟨k + 1, by omega, by go_num, ?_, HM.out.b1.setOther (by simp) _, HM.out.b2.setOther (by have := HM.out.lt; simp; omega) _, HM.out.bw.setCell (Nat.le_refl _) _, fun j hj => ?_, HM.out.lt⟩
            · have := HM.out.b0.set k (vw ((St.list ⟨a, b', c, d, e, f, g, h⟩).getD k 0 + r.list.getD k 0))
              rw [addArr_set _ r k hlt] at this
              exact this
            · rw [World.cell?_setCell_far _ _ _ _ (by show w.heap.size ≠ 4; omega)]; exact HM.out.tab j hj
          case measure => simp [intOf]; omega
        · obtain rfl : k = 8 := by omega
          have HM := Lib.hid hM; clear hM
          rw [show (((8 : Nat) : Int)) = (8 : Int) from rfl]
          have hA8 : wr.rangeAt w.heap.size 0 (St.cells (St.add ⟨a, b', c, d, e, f, g, h⟩ r)) := by
            have := HM.out.b0.range 0 8
            rw [addArr_full] at this
            exact this
          have HA8 := Lib.hid hA8; clear hA8
          have HT8 := Lib.hid (HM.out.b1.there 0 8 (Nat.le_refl _))
          go_wp2_with (first
            | ((with_reducible refine wpList_load_mid ?g1 136 (.tmp 2) ?g2 w.heap.size 0 ?g3 (St.cells (St.add ⟨a, b', c, d, e, f, g, h⟩ r)) _ HA8.out Tryz.underlying136 ?g4 ?g5 ?_); (case g1 => rfl); (case g2 => rfl); (case g3 => rfl); (case g4 => rfl); (case g5 => exact info_w8))
            | ((with_reducible refine wpList_store_mid ?r1 136 (.tmp 4) (.tmp 97) ?r2 (w.heap.size + 1) 0 (St.cells (St.add ⟨a, b', c, d, e, f, g, h⟩ r)).toArray ?r3 ?r4 ?r5 ?r6 (cells_oneCell _) ?_); (case r1 => rfl); (case r2 => rfl); (case r3 => rfl); (case r4 => rfl); (case r5 => exact HT8.out); (case r6 => exact info_w8)))
          obtain ⟨t, ht⟩ := HM.out.b1.setAll (vs := St.cells (St.add ⟨a, b', c, d, e, f, g, h⟩ r)) rfl
          refine bodyPost_ret (v := .agg (St.cells (St.add ⟨a, b', c, d, e, f, g, h⟩ r)).toArray) ?_ rfl ?_
          · exact results_cell_row rfl _ _ (w.heap.size + 1) t _ _ _ rfl ht Tryz.underlying136 rfl info_w8
          · refine ⟨?_, below_setCells (Nat.le_succ _) _ HM.out.bw 0⟩
            rw [HR.out, ← HL.out]; unfold compress; rfl
end Go.Proofs.YtoehkhbppmgfkaaGreatDoor
namespace Go.Proofs.YtoehkhbppmgfkaaGreatDoor
open Go.RowKit
/-- A word of 64 bits as a number. -/
def un (n : Nat) : Int := ((n % 18446744073709551616 : Nat) : Int)
theorem un_mul (n m : Nat) : IntKind.u64.wrap (un n * (m : Int)) = un (n * m) := by
  unfold un; rw [IntKind.wrap_u64, ← Int.natCast_mul, show (18446744073709551616 : Int) = ((18446744073709551616 : Nat) : Int) from rfl, ← Int.natCast_emod, Nat.mod_mul_mod]
theorem un_add (n m : Nat) : IntKind.u64.wrap (un n + (m : Int)) = un (n + m) := by
  unfold un; rw [IntKind.wrap_u64, ← Int.natCast_add, show (18446744073709551616 : Int) = ((18446744073709551616 : Nat) : Int) from rfl, ← Int.natCast_emod, Nat.mod_add_mod]
theorem un_mul256 (n : Nat) : IntKind.u64.wrap (un n * (256 : Int)) = un (n * 256) := un_mul n 256
theorem un_bn (n : Nat) (b : UInt8) : IntKind.u64.wrap (un n + bn b) = un (n + b.toNat) := un_add n b.toNat
theorem bn_u64 (b : UInt8) : IntKind.u64.wrap (bn b) = bn b := by rw [IntKind.wrap_u64]; have := bn_range b; omega
theorem un_range (n : Nat) : 0 ≤ un n ∧ un n < 18446744073709551616 := by unfold un; omega
theorem un_zero : un 0 = 0 := rfl
theorem un_lt (n : Nat) (h : n < 18446744073709551616) : un n = (n : Int) := by unfold un; rw [Nat.mod_eq_of_lt h]
theorem num_nil : num [] = 0 := by unfold num; rfl
theorem num_snoc (l : List UInt8) (b : UInt8) : num (l ++ [b]) = num l * 256 + b.toNat := by unfold num; rw [List.foldl_append]; rfl
theorem num_lt (l : List UInt8) : num l < 256 ^ l.length := by
  unfold num
  have H : ∀ (l : List UInt8) (n : Nat), l.foldl (fun n b => n * 256 + b.toNat) n < (n + 1) * 256 ^ l.length := by
    intro l
    induction l with
    | nil => intro n; simp
    | cons b l ih =>
      intro n
      have h1 := ih (n * 256 + b.toNat)
      have hb := b.toNat_lt
      simp only [List.foldl_cons, List.length_cons]
      refine Nat.lt_of_lt_of_le h1 ?_
      rw [Nat.pow_succ, Nat.mul_comm (256 ^ l.length) 256, ← Nat.mul_assoc]
      exact Nat.mul_le_mul_right _ (by omega)
  simpa using H l 0
theorem take_snoc (l : List UInt8) (k : Nat) (h : k < l.length) : l.take (k + 1) = l.take k ++ [l.getD k 0] := by
  rw [List.take_succ_eq_append_getElem h, List.getD_eq_getElem?_getD, List.getElem?_eq_getElem h]; rfl
theorem word4_num (a b c d : UInt8) : word4 a b c d = BitVec.ofNat 32 (num [a, b, c, d]) := by
  have ha := a.toNat_lt
  have hb := b.toNat_lt
  have hc := c.toNat_lt
  have hd := d.toNat_lt
  apply BitVec.eq_of_toNat_eq
  have e : num [a, b, c, d] = ((a.toNat * 256 + b.toNat) * 256 + c.toNat) * 256 + d.toNat := by unfold num; simp
  have k (x : UInt8) (n : Nat) (hn : n ≤ 24) : (bw x <<< n).toNat = x.toNat <<< n := by
    have hx := x.toNat_lt
    unfold bw
    rw [BitVec.toNat_shiftLeft, BitVec.toNat_ofNat, Nat.mod_eq_of_lt (show x.toNat < 2 ^ 32 by omega), Nat.shiftLeft_eq]
    apply Nat.mod_eq_of_lt
    calc x.toNat * 2 ^ n < 2 ^ 8 * 2 ^ n := Nat.mul_lt_mul_of_pos_right (by omega) (Nat.pow_pos (by decide))
      _ ≤ 2 ^ 8 * 2 ^ 24 := Nat.mul_le_mul_left _ (Nat.pow_le_pow_right (by decide) hn)
  have kd : (bw d).toNat = d.toNat := by unfold bw; rw [BitVec.toNat_ofNat]; omega
  unfold word4
  rw [BitVec.toNat_or, BitVec.toNat_or, BitVec.toNat_or, k a 24 (by omega), k b 16 (by omega), k c 8 (by omega), kd, Nat.or_assoc, Nat.or_assoc,
    ← Nat.shiftLeft_add_eq_or_of_lt (show d.toNat < 2 ^ 8 by omega), ← Nat.shiftLeft_add_eq_or_of_lt (show c.toNat <<< 8 + d.toNat < 2 ^ 16 by rw [Nat.shiftLeft_eq]; omega),
    ← Nat.shiftLeft_add_eq_or_of_lt (show b.toNat <<< 16 + (c.toNat <<< 8 + d.toNat) < 2 ^ 24 by rw [Nat.shiftLeft_eq, Nat.shiftLeft_eq]; omega), e, BitVec.toNat_ofNat]
  simp only [Nat.shiftLeft_eq]
  omega
theorem un_word (n : Nat) : IntKind.u32.wrap (un n) = wn (BitVec.ofNat 32 n) := by
  unfold un wn; rw [IntKind.wrap_u32, BitVec.toNat_ofNat]; omega
theorem un_shr32 (n : Nat) : un n / (4294967296 : Int) = un (n % 18446744073709551616 / 4294967296) := by unfold un; omega
theorem un_mod32 (n : Nat) : un n % (4294967296 : Int) = wn (BitVec.ofNat 32 n) := by rw [← un_word, IntKind.wrap_u32]
theorem four (p : List UInt8) (k : Nat) (h : 4 * k + 4 ≤ p.length) : (p.drop (4 * k)).take 4 = [p.getD (4 * k) 0, p.getD (4 * k + 1) 0, p.getD (4 * k + 2) 0, p.getD (4 * k + 3) 0] := by
  apply List.ext_getElem?
  intro i
  rw [List.getElem?_take]
  match i with
  | 0 => simp [List.getElem?_drop, List.getD_eq_getElem?_getD, List.getElem?_eq_getElem (show 4 * k < p.length by omega)]
  | 1 => simp [List.getElem?_drop, List.getD_eq_getElem?_getD, List.getElem?_eq_getElem (show 4 * k + 1 < p.length by omega)]
  | 2 => simp [List.getElem?_drop, List.getD_eq_getElem?_getD, List.getElem?_eq_getElem (show 4 * k + 2 < p.length by omega)]
  | 3 => simp [List.getElem?_drop, List.getD_eq_getElem?_getD, List.getElem?_eq_getElem (show 4 * k + 3 < p.length by omega)]
  | i + 4 => rw [if_neg (by omega)]; simp
theorem bword_num (p : List UInt8) (k : Nat) (h : 4 * k + 4 ≤ p.length) : BitVec.ofNat 32 (num ((p.drop (4 * k)).take 4)) = bword p k := by
  rw [four p k h, ← word4_num]; rfl
end Go.Proofs.YtoehkhbppmgfkaaGreatDoor

namespace Go.Proofs.YtoehkhbppmgfkaaGreatDoor
open Go.RowKit
attribute [local go_sem] bv_shr8 bv_shr16 bv_shr24 wrap_u8_wn un_mod32

theorem appendWord_any (base : Nat) (v : Value) (l : List UInt8) (x : BitVec 32) (w : World) (hown : OwnB w base v l) (hl : l.length ≤ 1000000) (hb : base ≤ w.heap.size) :
    Calls Tryz.prog 112 #[v, vw x] w fun e w' => ∃ v', e = .returned v' ∧ OwnB w' base v' (l ++ wb x) ∧ w.grownBy w' v.ownBlock := by
  have Hown := Lib.hid hown; clear hown
  go_enter Tryz.func112, Tryz.ntmps112
  have hs : Hid (Bs (w.alloc (.cells #[vb (UInt8.ofNat (x >>> 24).toNat), vb (UInt8.ofNat (x >>> 16).toNat), vb (UInt8.ofNat (x >>> 8).toNat), vb (UInt8.ofNat x.toNat)] 5)) w.heap.size 0 (wb x)) := Lib.hid (Bs.of_blk (Blk.newA _ _ _) 0 (fun j hj => by
    match j, hj with
    | 0, _ => rfl
    | 1, _ => rfl
    | 2, _ => rfl
    | 3, _ => rfl))
  go_wp2_with ((with_reducible refine wpList_app ?g1 (.tmp 5) (.tmp 17) ?g2 base v l (wb x) ?g3 ?g4 w.heap.size 0 4 4 ?g5 ?g6 ?g7 ?g8 ?g9 ?_); (case g1 => rfl); (case g2 => rfl); (case g3 => rfl); (case g4 => exact Hown.out.below ((Below.refl _ _).alloc (Nat.le_refl _) _)); (case g5 => rfl); (case g6 => exact wb_length x); (case g7 => exact hs.out); (case g8 => omega); (case g9 => simp; omega); intro v' w1 hv hg; have Hv := Lib.hid hv; clear hv; have Hg := Lib.hid hg; clear hg)
  go_ret
  exact ⟨_, rfl, Hv.out, (World.grownBy_alloc w _ _).trans Hg.out⟩
theorem stlist_length (s : St) : s.list.length = 8 := rfl
set_option maxRecDepth 100000 in
set_option maxHeartbeats 400000 in
theorem appendWords_any (base : Nat) (v : Value) (l : List UInt8) (s : St) (w : World) (hown : OwnB w base v l) (hl : l.length ≤ 100000) (hb : base ≤ w.heap.size) :
    Calls Tryz.prog 94 #[v, .agg s.cells.toArray] w fun e w' => ∃ v', e = .returned v' ∧ OwnB w' base v' (l ++ wbs s.list) ∧ Below base w w' := by
  have Hown := Lib.hid hown; clear hown
  go_enter Tryz.func94, Tryz.ntmps94
  go_wp2
  go_loopw [0, 8] (fun u i wr => ∃ k : Nat, k ≤ 8 ∧ i = .int .i64 k ∧ OwnB wr base u (l ++ wbs (s.list.take k)) ∧ Below base w wr) (fun _ i _ => 8 - (intOf i).toNat)
  case atStart => exact ⟨0, by omega, rfl, by simpa [wbs] using Hown.out.below ((Below.refl _ _).alloc (Nat.le_refl _) _), (Below.refl _ _).alloc hb _⟩
  case round =>
    obtain ⟨k, hk, rfl, hO, hB⟩ := hrel
    have HO := Lib.hid hO; clear hO
    have HB := Lib.hid hB; clear hB
    by_cases hlt : k < 8
    · have hx := index8 s k hlt
      have hlen : (l ++ wbs (s.list.take k)).length ≤ 1000000 := by rw [List.length_append, wbs_length, List.length_take, stlist_length]; omega
      have HL := Lib.hid hlen; clear hlen
      obtain ⟨k0, k1⟩ : (0 : Int) ≤ (k : Int) ∧ (k : Int) < 8 := ⟨by omega, by omega⟩
      go_wp2_with fail
      refine (appendWord_any base _ _ (s.list.getD k 0) wr HO.out HL.out (by have := HB.out.size; omega)).mono ?_
      rintro e w1 ⟨v1, rfl, hO1, hg1⟩
      have HO1 := Lib.hid hO1; clear hO1
      have HG1 := Lib.hid hg1; clear hg1
      go_wp2_with fail
      go_roundw
      case rel =>
        refine ⟨k + 1, by omega, by go_num, ?_, HB.out.trans (HO.out.belowBase HG1.out (by have := HB.out.size; omega))⟩
        rw [wbs_take _ _ (by rw [stlist_length]; exact hlt), ← List.append_assoc]
        exact HO1.out
      case measure => simp [intOf]; omega
    · obtain rfl : k = 8 := by omega
      go_wp2
      go_ret
      exact ⟨_, rfl, HO.out, HB.out⟩
theorem appendCount_any (base : Nat) (v : Value) (l : List UInt8) (n : Nat) (w : World) (hown : OwnB w base v l) (hl : l.length ≤ 100000) (hb : base ≤ w.heap.size) :
    Calls Tryz.prog 111 #[v, .int .u64 (un n)] w fun e w' => ∃ v', e = .returned v' ∧ OwnB w' base v' (l ++ be n 8) ∧ Below base w w' := by
  have Hown := Lib.hid hown; clear hown
  have h1 := un_shr32 n
  have hlen : (l ++ wb (BitVec.ofNat 32 (n % 18446744073709551616 / 4294967296))).length ≤ 1000000 := by rw [List.length_append, wb_length]; omega
  have HL := Lib.hid hlen; clear hlen
  go_enter Tryz.func111, Tryz.ntmps111
  go_wp2_with fail
  refine (appendWord_any base _ _ _ w Hown.out (by omega) hb).mono ?_
  rintro e w1 ⟨v1, rfl, hO1, hg1⟩
  have HO1 := Lib.hid hO1; clear hO1
  have HB1 := Lib.hid (Hown.out.belowBase hg1 hb); clear hg1
  go_wp2_with fail
  refine (appendWord_any base _ _ _ w1 HO1.out HL.out (by have := HB1.out.size; omega)).mono ?_
  rintro e w2 ⟨v2, rfl, hO2, hg2⟩
  have HO2 := Lib.hid hO2; clear hO2
  have HB2 := Lib.hid (HO1.out.belowBase hg2 (by have := HB1.out.size; omega)); clear hg2
  go_wp2_with fail
  go_ret
  refine ⟨_, rfl, ?_, HB1.out.trans HB2.out⟩
  have := HO2.out
  rw [List.append_assoc, count_be] at this
  exact this
end Go.Proofs.YtoehkhbppmgfkaaGreatDoor
namespace Go.Proofs.YtoehkhbppmgfkaaGreatDoor
open Go.RowKit

theorem un_mod64 (n : Nat) : un n % (64 : Int) = ((n % 64 : Nat) : Int) := by unfold un; omega
theorem un_mul8 (n : Nat) : IntKind.u64.wrap (un n * (8 : Int)) = un (n * 8) := un_mul n 8
attribute [local go_sem] un_mod64 un_mul8
set_option maxHeartbeats 400000 in
theorem padding_lo (n : Nat) (w : World) (hr : n % 64 ≤ 55) :
    Calls Tryz.prog 93 #[.int .u64 (un n)] w fun e w' => ∃ v', e = .returned v' ∧ OwnB w' w.heap.size v' (padl n) ∧ Below w.heap.size w w' := by
  have h0 := (un_range n).1
  have hlt : n % 64 < 64 := Nat.mod_lt _ (by decide)
  have hz : (119 - n % 64) % 64 = 55 - n % 64 := by omega
  have hp : padl n = 128 :: List.replicate (55 - n % 64) 0 ++ be (n * 8) 8 := by unfold padl; rw [hz]
  obtain ⟨r, hrr⟩ : ∃ r, r = n % 64 := ⟨_, rfl⟩
  have hmod : un n % (64 : Int) = (r : Int) := by rw [hrr]; exact un_mod64 n
  rw [← hrr] at hr hp hlt
  have HP := Lib.hid hp; clear hp hz
  have hmk : ∀ W, (Instr.makeSlice 49 (.int .i64 ((64 - (r : Int)) - 8)) (.int .i64 ((64 - (r : Int))))).run Tryz.prog W = .ok (.slice (some ⟨W.heap.size, 0, none⟩) (56 - r) (64 - r)) (W.alloc (.cells (noughts (64 - r)) 5)) := fun W => by
    have := make_bytes (56 - r) (64 - r) (by omega) (by omega) W
    rwa [show ((56 - r : Nat) : Int) = (64 - (r : Int)) - 8 from by omega, show ((64 - r : Nat) : Int) = (64 - (r : Int)) from by omega] at this
  have hc : (noughts (64 - r))[0]? = some (vb 0) := noughts_at _ _ (by omega)
  clear hrr
  go_enter Tryz.func93, Tryz.ntmps93
  go_wp2_with fail
  have hO : OwnB (w.alloc (.cells ((noughts (64 - r)).setIfInBounds 0 (vb 128)) 5)) w.heap.size (.slice (some ⟨w.heap.size, 0, none⟩) (56 - r) (64 - r)) (128 :: List.replicate (55 - r) 0) :=
    OwnB.of_heap (Nat.le_refl _) (heap_alloc_new w _) (by rw [Array.size_setIfInBounds, noughts_size]) (by unfold maxLen; omega) (by rw [List.length_cons, List.length_replicate]; omega)
      (by rw [Array.toList_setIfInBounds, noughts_list, show 64 - r = (55 - r) + 8 + 1 from by omega, List.replicate_succ, List.set_cons_zero, show 56 - r = (55 - r) + 1 from by omega, List.take_succ_cons, List.take_replicate, List.map_cons, List.map_replicate, show min (55 - r) ((55 - r) + 8) = 55 - r from by omega]) (by omega)
  refine (appendCount_any w.heap.size _ _ (n * 8) _ hO (by rw [List.length_cons, List.length_replicate]; omega) (by simp)).mono ?_
  rintro e w1 ⟨v1, rfl, hO1, hB1⟩
  have HO1 := Lib.hid hO1; clear hO1
  have HB1 := Lib.hid hB1; clear hB1 hO
  go_wp2_with fail
  go_ret
  exact ⟨_, rfl, by rw [HP.out]; exact HO1.out, ((Below.refl _ _).alloc (Nat.le_refl _) _).trans HB1.out⟩
set_option maxHeartbeats 400000 in
theorem padding_hi (n : Nat) (w : World) (hr : 56 ≤ n % 64) :
    Calls Tryz.prog 93 #[.int .u64 (un n)] w fun e w' => ∃ v', e = .returned v' ∧ OwnB w' w.heap.size v' (padl n) ∧ Below w.heap.size w w' := by
  have h0 := (un_range n).1
  have hlt : n % 64 < 64 := Nat.mod_lt _ (by decide)
  have hz : (119 - n % 64) % 64 = 119 - n % 64 := by omega
  have hp : padl n = 128 :: List.replicate (119 - n % 64) 0 ++ be (n * 8) 8 := by unfold padl; rw [hz]
  obtain ⟨r, hrr⟩ : ∃ r, r = n % 64 := ⟨_, rfl⟩
  have hmod : un n % (64 : Int) = (r : Int) := by rw [hrr]; exact un_mod64 n
  rw [← hrr] at hr hp hlt
  have HP := Lib.hid hp; clear hp hz
  have hmk : ∀ W, (Instr.makeSlice 49 (.int .i64 ((64 - (r : Int) + 64) - 8)) (.int .i64 ((64 - (r : Int) + 64)))).run Tryz.prog W = .ok (.slice (some ⟨W.heap.size, 0, none⟩) (120 - r) (128 - r)) (W.alloc (.cells (noughts (128 - r)) 5)) := fun W => by
    have := make_bytes (120 - r) (128 - r) (by omega) (by omega) W
    rwa [show ((120 - r : Nat) : Int) = (64 - (r : Int) + 64) - 8 from by omega, show ((128 - r : Nat) : Int) = (64 - (r : Int) + 64) from by omega] at this
  have hc : (noughts (128 - r))[0]? = some (vb 0) := noughts_at _ _ (by omega)
  clear hrr
  go_enter Tryz.func93, Tryz.ntmps93
  go_wp2_with fail
  have hO : OwnB (w.alloc (.cells ((noughts (128 - r)).setIfInBounds 0 (vb 128)) 5)) w.heap.size (.slice (some ⟨w.heap.size, 0, none⟩) (120 - r) (128 - r)) (128 :: List.replicate (119 - r) 0) :=
    OwnB.of_heap (Nat.le_refl _) (heap_alloc_new w _) (by rw [Array.size_setIfInBounds, noughts_size]) (by unfold maxLen; omega) (by rw [List.length_cons, List.length_replicate]; omega)
      (by rw [Array.toList_setIfInBounds, noughts_list, show 128 - r = (119 - r) + 8 + 1 from by omega, List.replicate_succ, List.set_cons_zero, show 120 - r = (119 - r) + 1 from by omega, List.take_succ_cons, List.take_replicate, List.map_cons, List.map_replicate, show min (119 - r) ((119 - r) + 8) = 119 - r from by omega]) (by omega)
  refine (appendCount_any w.heap.size _ _ (n * 8) _ hO (by rw [List.length_cons, List.length_replicate]; omega) (by simp)).mono ?_
  rintro e w1 ⟨v1, rfl, hO1, hB1⟩
  have HO1 := Lib.hid hO1; clear hO1
  have HB1 := Lib.hid hB1; clear hB1 hO
  go_wp2_with fail
  go_ret
  exact ⟨_, rfl, by rw [HP.out]; exact HO1.out, ((Below.refl _ _).alloc (Nat.le_refl _) _).trans HB1.out⟩
theorem padding_any (n : Nat) (w : World) :
    Calls Tryz.prog 93 #[.int .u64 (un n)] w fun e w' => ∃ v', e = .returned v' ∧ OwnB w' w.heap.size v' (padl n) ∧ Below w.heap.size w w' := by
  by_cases h : n % 64 ≤ 55
  · exact padding_lo n w h
  · exact padding_hi n w (by omega)
end Go.Proofs.YtoehkhbppmgfkaaGreatDoor
namespace Go.Proofs.YtoehkhbppmgfkaaGreatDoor
open Go.RowKit Go.Shelf
attribute [local go_sem] Oper.semAt_some

theorem whole_in (F : Fence) (n : Nat) (hf : F.fn 92) (hro : F.round = none) (a : Option Addr) (len cap : Nat) (w : World) :
    CallsIn F n Tryz.prog 92 #[.slice a len cap] w fun e w' => e = .returned (.func (.func 110) #[] #[.pointer (some ⟨w.heap.size, 0, none⟩)]) ∧ w' = w.alloc (.cells #[.slice a len cap] 49) := by
  refine callsIn_of_wp Tryz.func92 rfl hf ?_ hro
  simp only [Tryz.ntmps92, List.size_toArray, List.length_cons, List.length_nil, Nat.reduceAdd, Nat.reduceSub, Array.replicate_succ, Array.replicate_zero, List.push_toArray, List.append_toArray, List.nil_append, List.cons_append]
  gi_wp2
  go_ret
  exact ⟨rfl, rfl⟩

/-- The j-th whole block of a slice. -/
def blk (b o : Nat) (j : Nat) : Value := .slice (some ⟨b, o + 64 * j, none⟩) 64 64
/-- What a round must keep for the iterator: its own box. -/
def KeepBox (Bx : Nat) (W W' : World) : Prop := W'.cell? ⟨Bx, 0, none⟩ = W.cell? ⟨Bx, 0, none⟩
/-- The numbers of the whole blocks of so many bytes. -/
abbrev Bn (len : Nat) : Type := { j : Nat // j < len / 64 }
set_option maxRecDepth 100000 in
set_option maxHeartbeats 1000000 in
theorem whole1_in (F : Fence) (n : Nat) (hf : F.fn 110) (hro : F.round = none) (hn : 1 ≤ n) (l Bx b o len cap : Nat) (hlc : len ≤ cap) (hcap : len ≤ 9223372036854775000 ∧ cap ≤ 9223372036854775807) (J Jx : List (Bn len) → World → Prop)
    (hY : ∀ pre x W, J pre W → pre.length < len / 64 → YieldAt F (n - 1) Tryz.prog l #[blk b o x.1] W fun e W' =>
      (e = .returned (.bool true) ∧ J (pre ++ [x]) W' ∧ KeepBox Bx W W') ∨ (e = .returned (.bool false) ∧ Jx (pre ++ [x]) W'))
    (W : World) (hBx : W.cell? ⟨Bx, 0, none⟩ = some (.slice (some ⟨b, o, none⟩) len cap)) (h0 : J [] W) :
    CallsIn F n Tryz.prog 110 #[.func (.yield l) #[] #[], .pointer (some ⟨Bx, 0, none⟩)] W fun e W' => (∃ v, e = .returned v) ∧
      ((∃ ys : List (Bn len), ys.map (·.1) = List.range (len / 64) ∧ J ys W') ∨ (∃ pre : List (Bn len), (∃ k, k ≤ len / 64 ∧ pre.map (·.1) = List.range k) ∧ Jx pre W')) := by
  obtain ⟨hcapl, hcap⟩ := hcap
  refine callsIn_of_wp Tryz.func110 rfl hf ?_ hro
  simp only [Tryz.ntmps110, List.size_toArray, List.length_cons, List.length_nil, Nat.reduceAdd, Nat.reduceSub, Array.replicate_succ, Array.replicate_zero, List.push_toArray, List.append_toArray, List.nil_append, List.cons_append]
  gi_wp2
  gi_loopw [3] (fun i wr => ∃ k : Nat, k ≤ len / 64 ∧ i = .int .i64 (64 * (k : Int)) ∧ (∃ pre : List (Bn len), pre.map (·.1) = List.range k ∧ J pre wr) ∧ wr.cell? ⟨Bx, 0, none⟩ = some (.slice (some ⟨b, o, none⟩) len cap))
    (fun i _ => len - (intOf i).toNat)
  case atStart => exact ⟨0, by omega, rfl, ⟨[], rfl, h0⟩, hBx⟩
  case round =>
    obtain ⟨k, hk, rfl, ⟨pre, hpre, hJ⟩, hc⟩ := hrel
    have hlen : pre.length = k := by have := congrArg List.length hpre; simpa using this
    have HJ := Lib.hid hJ; clear hJ
    have HP := Lib.hid hpre; clear hpre
    by_cases hlt : k < len / 64
    · obtain ⟨fn, tmps, assign, body, hy, hR⟩ := hY pre ⟨k, hlt⟩ wr HJ.out (by rw [hlen]; exact hlt)
      unfold blk at hy
      obtain ⟨k0, k1⟩ : 64 * k + 64 ≤ len ∧ 64 * k + 64 ≤ cap := ⟨by omega, by omega⟩
      gi_wp2
      refine hR.mono ?_
      rintro e W3 (⟨rfl, hJ3, hk3⟩ | ⟨rfl, hJx3⟩)
      · have hc3 : W3.cell? ⟨Bx, 0, none⟩ = some (.slice (some ⟨b, o, none⟩) len cap) := Eq.trans hk3 hc
        have HJ3 := Lib.hid hJ3; clear hJ3
        clear hk3
        gi_wp2
        go_roundw
        case rel => exact ⟨k + 1, by omega, by congr 1, ⟨pre ++ [⟨k, hlt⟩], by rw [List.map_append, HP.out, List.range_succ]; rfl, HJ3.out⟩, hc3⟩
        case measure => simp [intOf]; omega
      · gi_wp2
        refine bodyPost_ret (results_none rfl _ _ _) rfl ?_
        exact ⟨⟨_, rfl⟩, .inr ⟨pre ++ [⟨k, hlt⟩], ⟨k + 1, by omega, by rw [List.map_append, HP.out, List.range_succ]; rfl⟩, hJx3⟩⟩
    · obtain rfl : k = len / 64 := by omega
      obtain ⟨k0, k1, k2⟩ : (len : Int) - 64 * ((len / 64 : Nat) : Int) < 64 ∧ 64 * ((len / 64 : Nat) : Int) ≤ (len : Int) ∧ (0 : Int) ≤ ((len / 64 : Nat) : Int) := ⟨by omega, by omega, by omega⟩
      gi_wp2
      go_end0
      exact ⟨⟨_, rfl⟩, .inl ⟨pre, HP.out, HJ.out⟩⟩
theorem whole_stops (F : Fence) (n : Nat) (hf : F.fn 110) (hro : F.round = none) (hn : 1 ≤ n) (Bx b o len cap : Nat) (hlc : len ≤ cap) (hcap : len ≤ 9223372036854775000 ∧ cap ≤ 9223372036854775807) (w : World) (hBx : Bx < w.heap.size)
    (hc : w.cell? ⟨Bx, 0, none⟩ = some (.slice (some ⟨b, o, none⟩) len cap)) :
    SeqStopsK F n Tryz.prog 110 #[.pointer (some ⟨Bx, 0, none⟩)] (fun x : Bn len => #[blk b o x.1]) (KeepBox Bx) (fun ys => ys.map (·.1) = List.range (len / 64)) (fun pre => ∃ k, k ≤ len / 64 ∧ pre.map (·.1) = List.range k) (len / 64) w := fun l J Jx W hW _ _ hY h0 =>
  whole1_in F n hf hro hn l Bx b o len cap hlc hcap J Jx hY W ((hW.cell (p := ⟨Bx, 0, none⟩) hBx).trans hc) h0
theorem keepBox_t {Bx : Nat} {A B C : World} (h : KeepBox Bx A B) (k : KeepBox Bx B C) : KeepBox Bx A C := Eq.trans k h
theorem keepBox_b {Bx B0 : Nat} (hB : Bx < B0) (W : World) (l : Nat) (o o' : Obj) (hl : B0 ≤ l) (_ : W.heap[l]? = some o) (_ : o.isCells = false) (_ : o.isWalk = false) : KeepBox Bx W (W.putObj l o') :=
  World.cell?_of_block (World.putObj_heap_other (by show Bx ≠ l; omega))
end Go.Proofs.YtoehkhbppmgfkaaGreatDoor
namespace Go.Proofs.YtoehkhbppmgfkaaGreatDoor
open Go.RowKit

/-- The cells of a Hash. -/
def hcells (s : St) (t : List UInt8) (n : Nat) : List Value := s.cells ++ (t.map vb ++ [.int .u64 (un n)])
theorem hcells_length (s : St) (t : List UInt8) (n : Nat) (ht : t.length = 64) : (hcells s t n).length = 73 := by
  unfold hcells; rw [List.length_append, List.length_append, List.length_map, ht]; rfl
theorem hcells_total (s : St) (t : List UInt8) (n : Nat) (ht : t.length = 64) : (hcells s t n)[72]? = some (.int .u64 (un n)) := by
  unfold hcells; rw [List.getElem?_append_right (by rw [cells_length]; decide), cells_length, List.getElem?_append_right (by rw [List.length_map, ht]; decide), List.length_map, ht]; rfl
theorem hcells_setTotal (s : St) (t : List UInt8) (n m : Nat) (ht : t.length = 64) : (hcells s t n).set 72 (.int .u64 (un m)) = hcells s t m := by
  unfold hcells; rw [List.set_append_right _ _ (by rw [cells_length]; decide), cells_length, List.set_append_right _ _ (by rw [List.length_map, ht]; decide), List.length_map, ht]; rfl
theorem hcells_state (s : St) (t : List UInt8) (n : Nat) : (hcells s t n).take 8 = s.cells := by unfold hcells; rfl
theorem hcells_tail (s : St) (t : List UInt8) (n : Nat) (ht : t.length = 64) : ((hcells s t n).drop 8).take 64 = t.map vb := by
  unfold hcells; rw [List.drop_append_of_le_length (by rw [cells_length]; decide), show s.cells.drop 8 = [] from rfl, List.nil_append, List.take_append_of_le_length (by rw [List.length_map, ht]; decide), List.take_of_length_le (by rw [List.length_map, ht]; decide)]
theorem hcells_setState (s s' : St) (t : List UInt8) (n : Nat) : (hcells s t n).take 0 ++ s'.cells ++ (hcells s t n).drop (0 + s'.cells.length) = hcells s' t n := by unfold hcells; rfl
theorem hcells_lt (s : St) (t : List UInt8) (n j : Nat) (h : j < 8) : (hcells s t n)[j]? = s.cells[j]? := by unfold hcells; rw [List.getElem?_append_left (by rw [cells_length]; exact h)]
/-- q laid over t from place r on. -/
def over (t : List UInt8) (r : Nat) (q : List UInt8) : List UInt8 := t.take r ++ q ++ t.drop (r + q.length)
theorem over_length (t : List UInt8) (r : Nat) (q : List UInt8) (h : r + q.length ≤ t.length) : (over t r q).length = t.length := by unfold over; simp; omega
theorem hcells_setTail (s : St) (t : List UInt8) (n r : Nat) (q : List UInt8) (ht : t.length = 64) (h : r + q.length ≤ 64) :
    (hcells s t n).take (8 + r) ++ q.map vb ++ (hcells s t n).drop (8 + r + (q.map vb).length) = hcells s (over t r q) n := by
  unfold hcells over
  have e1 : (s.cells ++ (t.map vb ++ [Value.int .u64 (un n)])).take (8 + r) = s.cells ++ (t.take r).map vb := by
    rw [List.take_append, cells_length, List.take_of_length_le (by rw [cells_length]; omega), show 8 + r - 8 = r from by omega, List.take_append_of_le_length (by rw [List.length_map, ht]; omega), List.map_take]
  have e2 : (s.cells ++ (t.map vb ++ [Value.int .u64 (un n)])).drop (8 + r + (q.map vb).length) = (t.drop (r + q.length)).map vb ++ [Value.int .u64 (un n)] := by
    rw [List.drop_append, cells_length, List.drop_of_length_le (by rw [cells_length]; omega), List.nil_append, show 8 + r + (q.map vb).length - 8 = r + q.length from by rw [List.length_map]; omega, List.drop_append_of_le_length (by rw [List.length_map, ht]; omega), List.map_drop]
  rw [e1, e2]
  simp
/-- A Hash: its state, its tail, how many bytes there were. -/
structure HashIs (w : World) (b : Nat) (s : St) (t : List UInt8) (n : Nat) : Prop where
  blk : Blk w b (hcells s t n)
  len : t.length = 64
theorem Blk.tail {W : World} {hb : Nat} {s : St} {t : List UInt8} {n : Nat} (h : Blk W hb (hcells s t n)) (ht : t.length = 64) : Bs W hb 8 t := by
  have := h.range 8 64
  rw [hcells_tail _ _ _ ht] at this
  exact Bs.of_rangeAt this
theorem Blk.state {W : World} {hb : Nat} {s : St} {t : List UInt8} {n : Nat} (h : Blk W hb (hcells s t n)) : W.rangeAt hb 0 s.cells := by
  have := h.range 0 8
  rw [List.drop_zero, hcells_state] at this
  exact this
theorem Blk.cells8 {W : World} {hb : Nat} {s : St} {t : List UInt8} {n : Nat} (h : Blk W hb (hcells s t n)) :
    W.cell? ⟨hb, 0, none⟩ = some (vw s.a) ∧ W.cell? ⟨hb, 1, none⟩ = some (vw s.b) ∧ W.cell? ⟨hb, 2, none⟩ = some (vw s.c) ∧ W.cell? ⟨hb, 3, none⟩ = some (vw s.d) ∧ W.cell? ⟨hb, 4, none⟩ = some (vw s.e) ∧ W.cell? ⟨hb, 5, none⟩ = some (vw s.f) ∧ W.cell? ⟨hb, 6, none⟩ = some (vw s.g) ∧ W.cell? ⟨hb, 7, none⟩ = some (vw s.h) ∧ W.frozen? ⟨hb, 0, none⟩ = false ∧ W.frozen? ⟨hb, 1, none⟩ = false ∧ W.frozen? ⟨hb, 2, none⟩ = false ∧ W.frozen? ⟨hb, 3, none⟩ = false ∧ W.frozen? ⟨hb, 4, none⟩ = false ∧ W.frozen? ⟨hb, 5, none⟩ = false ∧ W.frozen? ⟨hb, 6, none⟩ = false ∧ W.frozen? ⟨hb, 7, none⟩ = false :=
  ⟨h.at ((hcells_lt _ _ _ _ (by decide)).trans rfl), h.at ((hcells_lt _ _ _ _ (by decide)).trans rfl), h.at ((hcells_lt _ _ _ _ (by decide)).trans rfl), h.at ((hcells_lt _ _ _ _ (by decide)).trans rfl), h.at ((hcells_lt _ _ _ _ (by decide)).trans rfl), h.at ((hcells_lt _ _ _ _ (by decide)).trans rfl), h.at ((hcells_lt _ _ _ _ (by decide)).trans rfl), h.at ((hcells_lt _ _ _ _ (by decide)).trans rfl), h.free _, h.free _, h.free _, h.free _, h.free _, h.free _, h.free _, h.free _⟩
theorem Blk.setState {W : World} {hb : Nat} {s : St} {t : List UInt8} {n : Nat} (h : Blk W hb (hcells s t n)) (ht : t.length = 64) (s' : St) : Blk (W.setCells hb 0 s'.cells) hb (hcells s' t n) := by
  have := h.setCells (vs := s'.cells) 0 (by rw [hcells_length _ _ _ ht, cells_length]; decide)
  rw [hcells_setState] at this
  exact this
attribute [irreducible] hcells over
end Go.Proofs.YtoehkhbppmgfkaaGreatDoor
namespace Go.Proofs.YtoehkhbppmgfkaaGreatDoor
open Go.RowKit Go.Shelf
attribute [local go_sem] un_mod64

/-- What a call of Write is handed: the Hash at block hb, the bytes p at another block. -/
structure WIn (w : World) (hb : Nat) (s : St) (t : List UInt8) (n : Nat) (pb po pcap : Nat) (p : List UInt8) : Prop where
  hash : HashIs w hb s t n
  bytes : Bs w pb po p
  lt : pb < w.heap.size
  ne : pb ≠ hb
  cap : p.length ≤ pcap
  cap2 : pcap ≤ 9223372036854775807
  len2 : p.length ≤ 4611686018427387904
/-- The slice at A holds the bytes l, in a block that is not hb. -/
structure Src (w : World) (hb : Nat) (A : Option Addr) (l : List UInt8) (c : Nat) : Prop where
  cap : l.length ≤ c
  cap2 : c ≤ 9223372036854775807
  len2 : l.length ≤ 4611686018427387904
  bytes : 0 < l.length → ∃ b o, A = some ⟨b, o, none⟩ ∧ b < w.heap.size ∧ b ≠ hb ∧ Bs w b o l
set_option maxRecDepth 100000 in
set_option maxHeartbeats 1000000 in
theorem write_early (hb : Nat) (s : St) (t : List UInt8) (n : Nat) (A : Option Addr) (pcap : Nat) (p : List UInt8) (w : World) (h : HashIs w hb s t n) (hs : Src w hb A p pcap) (hlt : n % 64 + p.length < 64) :
    Calls Tryz.prog 70 #[.pointer (some ⟨hb, 0, none⟩), .slice A p.length pcap] w fun e w' => e = .returned (.int .i64 p.length) ∧ HashIs w' hb s (over t (n % 64) p) (n + p.length) ∧ w.grownBy w' (some hb) := by
  have hbl := h.blk.lt
  have h0 := (un_range n).1
  have hadd := un_add n p.length
  obtain ⟨hc1, hc2⟩ : p.length ≤ 4611686018427387904 ∧ (0 : Int) ≤ (p.length : Int) := ⟨hs.len2, by omega⟩
  obtain ⟨r, hrr⟩ : ∃ r, r = n % 64 := ⟨_, rfl⟩
  have hmod : un n % (64 : Int) = (r : Int) := by rw [hrr]; exact un_mod64 n
  rw [← hrr] at hlt ⊢
  obtain ⟨c1, f1⟩ : w.cell? ⟨hb, 72, none⟩ = some (.int .u64 (un n)) ∧ w.frozen? ⟨hb, 72, none⟩ = false := ⟨h.blk.at (hcells_total s t n h.len), h.blk.free _⟩
  obtain ⟨r1, r2⟩ : (0 : Int) ≤ (r : Int) ∧ (r : Int) ≤ 64 := ⟨by omega, by omega⟩
  clear hrr
  have H := Lib.hid h; clear h
  have HS := Lib.hid hs; clear hs
  obtain ⟨HK, HB⟩ : Hid (Blk ((w.setCell ⟨hb, 72, none⟩ (.int .u64 (un (n + p.length)))).alloc (.cells #[.pointer (some ⟨hb, 0, none⟩)] 110)) hb (hcells s t (n + p.length))) ∧
      Hid (0 < p.length → ∃ b o, A = some ⟨b, o, none⟩ ∧ Bs ((w.setCell ⟨hb, 72, none⟩ (.int .u64 (un (n + p.length)))).alloc (.cells #[.pointer (some ⟨hb, 0, none⟩)] 110)) b o p) :=
    ⟨by have := (H.out.blk.set 72 (.int .u64 (un (n + p.length)))).alloc (.cells #[.pointer (some ⟨hb, 0, none⟩)] 110); rw [hcells_setTotal _ _ _ _ H.out.len] at this; exact this,
     Lib.hid fun hp => by
      obtain ⟨b, o, e, _, hne, hbs⟩ := HS.out.bytes hp
      exact ⟨b, o, e, (hbs.grown (grown_set w ⟨hb, 72, none⟩ _) (by show some b ≠ some hb; simp [hne])).grown (World.grownBy_alloc _ _ none) (by simp)⟩⟩
  have HL := Lib.hid (show (p.map vb).length = p.length from List.length_map ..)
  go_enter Tryz.func70, Tryz.ntmps70
  go_wp2_with ((with_reducible refine wpList_copy_to ?g1 (.tmp 31) (.tmp 32) 49 49 ?g2 5 Tryz.underlying49 info_b1 (some ⟨hb, 8 + r, none⟩) A (64 - r) (64 - r) p.length pcap ?g3 ?g4 hb (8 + r) (p.map vb) ?g5 ?g6 ?g7 (oneCell_bytes p) ?_); (case g1 => rfl); (case g2 => rfl); (case g3 => rfl); (case g4 => rfl); (case g5 => rw [HL.out]; exact (Nat.min_eq_left (by omega)).symm); (case g6 => exact fun hp => ⟨rfl, (by rw [HL.out] at hp; obtain ⟨b, o, e, hbs⟩ := HB.out hp; exact ⟨b, o, e, hbs.rangeAt⟩)⟩); (case g7 => exact HK.out.there _ _ (by rw [HL.out, hcells_length _ _ _ H.out.len]; omega)); rw [HL.out])
  go_ret
  refine ⟨rfl, ⟨?_, ?_⟩, ?_⟩
  · have := HK.out.setCells (vs := p.map vb) (8 + r) (by rw [HL.out, hcells_length _ _ _ H.out.len]; omega)
    rw [hcells_setTail _ _ _ _ _ H.out.len (by omega)] at this
    exact this
  · rw [over_length _ _ _ (by rw [H.out.len]; omega), H.out.len]
  · exact ((grown_set w ⟨hb, 72, none⟩ _).trans (World.grownBy_alloc _ _ _)).trans (grown_setCells hb _ _ _)

end Go.Proofs.YtoehkhbppmgfkaaGreatDoor
namespace Go.Proofs.YtoehkhbppmgfkaaGreatDoor
open Go.RowKit Go.Shelf
attribute [local go_sem] un_mod64
/-- The rest of a slice, behind its first k bytes: where it lies. -/
def restAt (po pcap k : Nat) : Nat := if pcap = k then po else po + k
theorem run_rest (pb po plen pcap k : Nat) (hk : k ≤ plen) (W : World) : (Instr.sliceAt 49 (.slice (some ⟨pb, po, none⟩) plen pcap) (some (.int .i64 (k : Int))) none none).run Tryz.prog W = .ok (.slice (some ⟨pb, restAt po pcap k, none⟩) (plen - k) (pcap - k)) W := by
  have h1 : (k : Int) ≤ (plen : Int) := by omega
  by_cases h : pcap = k
  · simp [go_sem, h1, restAt, h]
  · simp [go_sem, h1, restAt, h]
theorem restAt_ne (po pcap k : Nat) (h : pcap ≠ k) : restAt po pcap k = po + k := by unfold restAt; rw [if_neg h]
attribute [irreducible] restAt
attribute [local go_sem] Oper.semAt_some
/-- What holds while Write goes on behind the first block: W is the world. -/
structure WInv (w : World) (hb : Nat) (s : St) (t : List UInt8) (n pb po : Nat) (p : List UInt8) (W : World) : Prop where
  blk : Blk W hb (hcells s t n)
  len : t.length = 64
  bytes : Bs W pb po p
  box : W.cell? ⟨w.heap.size, 0, none⟩ = some (.pointer (some ⟨hb, 0, none⟩))
  grown : w.grownBy W (some hb)
  size : w.heap.size < W.heap.size
  tab : TabA W
theorem WInv.kept {w : World} {hb : Nat} {s : St} {t : List UInt8} {n pb po : Nat} {p : List UInt8} {A B : World} (h : WInv w hb s t n pb po p A) (hg : A.grownBy B none) (hg' : A.grownBy B (some hb)) : WInv w hb s t n pb po p B :=
  ⟨h.blk.grown hg (by simp), h.len, h.bytes.grown hg (by simp), hg.cell h.box (by simp), h.grown.trans hg', Nat.lt_of_lt_of_le h.size hg.size, fun j hj => hg.cell (h.tab j hj) (by simp)⟩
theorem WInv.keptFrom {w : World} {hb : Nat} {s : St} {t : List UInt8} {n pb po : Nat} {p : List UInt8} {A B : World} {row : Option Nat} {X : Nat} (h : WInv w hb s t n pb po p A) (hg : A.grownBy B row) (hr : ∀ r, row = some r → X ≤ r) (hX : w.heap.size < X) (h1 : hb < w.heap.size) (h2 : pb < w.heap.size) (h3 : 4 < w.heap.size) : WInv w hb s t n pb po p B := by
  have hne : ∀ b, b ≤ w.heap.size → some b ≠ row := fun b hb e => by have := hr b e.symm; omega
  exact ⟨h.blk.grown hg (hne _ (by omega)), h.len, h.bytes.grown hg (hne _ (by omega)), hg.cell h.box (hne _ (Nat.le_refl _)), ⟨hg.os.trans h.grown.os, hg.tape.trans h.grown.tape, hg.output.trans h.grown.output, Nat.le_trans h.grown.size hg.size, fun k hk hkb => (hg.block k (Nat.lt_of_lt_of_le hk h.grown.size) (hne k (by omega))).trans (h.grown.block k hk hkb)⟩, Nat.lt_of_lt_of_le h.size hg.size, fun j hj => hg.cell (h.tab j hj) (hne 4 (by omega))⟩
theorem tab_lt {W : World} (h : TabA W) : 4 < W.heap.size := World.block_lt_of_cell? W _ (h 0 (by decide))
theorem cells_one (s : St) : ∀ v ∈ s.cells, v.oneCell' = true := by
  intro v hv
  have : v ∈ s.list.map vw := hv
  rw [List.mem_map] at this; obtain ⟨x, _, rfl⟩ := this; rfl
theorem blk_below {W w2 : World} {hb : Nat} {cs : List Value} (h : Blk W hb cs) (hb' : hb < W.heap.size) (hw : Below W.drew.heap.size W.drew w2) : Blk w2 hb cs := h.drew.below hw hb'
theorem WInv.step {w : World} {hb : Nat} {s : St} {t : List UInt8} {n pb po : Nat} {p : List UInt8} {W w2 : World} (h : WInv w hb s t n pb po p W) (hb2 : Below W.drew.heap.size W.drew w2) (s' : St) (hne : pb ≠ hb) (hbl : hb < w.heap.size) (hG : 4 ≠ hb) :
    WInv w hb s' t n pb po p (w2.setCells hb 0 s'.cells) ∧ W.grownBy (w2.setCells hb 0 s'.cells) (some hb) := by
  have hg : W.grownBy w2 (some hb) := by have hq := grown_of_below hb2 (some hb); exact ⟨hq.os, hq.tape, hq.output, hq.size, hq.block⟩
  have hgg := hg.trans (grown_setCells hb s'.cells w2 0)
  have hk2 : Blk w2 hb (hcells s t n) := blk_below h.blk h.blk.lt hb2
  exact ⟨⟨hk2.setState h.len _, h.len, h.bytes.grown hgg (by simp [hne]), hgg.cell h.box (by show some w.heap.size ≠ some hb; simp; omega), h.grown.trans hgg, Nat.lt_of_lt_of_le h.size hgg.size, fun j hj => hgg.cell (h.tab j hj) (by simp [hG])⟩, hgg⟩
theorem grown_new {w A B : World} {r row : Option Nat} (h : w.grownBy A r) (hg : A.grownBy B row) (hr : ∀ x, row = some x → w.heap.size ≤ x) : w.grownBy B r :=
  ⟨hg.os.trans h.os, hg.tape.trans h.tape, hg.output.trans h.output, Nat.le_trans h.size hg.size, fun k hk hkb => (hg.block k (Nat.lt_of_lt_of_le hk h.size) (fun e => by have := hr k e.symm; omega)).trans (h.block k hk hkb)⟩
theorem fold_sub {m : Nat} (s : St) (p : List UInt8) (k : Nat) (ys : List (Bn m)) (h : ys.map (·.1) = List.range (m / 64)) (hm : (p.drop k).length = m) :
    ys.foldl (fun s x => compress s ((p.drop (k + 64 * x.1)).take 64)) s = stOf s (p.drop k) := by
  have := fold_runN s p k (ys.map (·.1)) (m / 64) h
  rw [List.foldl_map] at this
  rw [this]; unfold stOf; rw [hm]
set_option maxRecDepth 100000 in
set_option maxHeartbeats 1000000 in
theorem write_full (hb : Nat) (s : St) (t : List UInt8) (n pb po pcap : Nat) (p : List UInt8) (w : World) (h : WIn w hb s t n pb po pcap p) (hT : TabA w) (hG : 4 ≠ hb) (hge : 64 ≤ n % 64 + p.length) :
    Calls Tryz.prog 70 #[.pointer (some ⟨hb, 0, none⟩), .slice (some ⟨pb, po, none⟩) p.length pcap] w fun e w' => e = .returned (.int .i64 p.length) ∧ w.grownBy w' (some hb) ∧
      ∃ t', t'.take ((n % 64 + p.length) % 64) = restOf (t.take (n % 64) ++ p) ∧ HashIs w' hb (stOf s (t.take (n % 64) ++ p)) t' (n + p.length) := by
  have hbl := h.hash.blk.lt
  have h0 := (un_range n).1
  have hadd := un_add n p.length
  obtain ⟨hc1, hc2⟩ : p.length ≤ 4611686018427387904 ∧ (0 : Int) ≤ (p.length : Int) := ⟨h.len2, by omega⟩
  obtain ⟨r, hrr⟩ : ∃ r, r = n % 64 := ⟨_, rfl⟩
  have hmod : un n % (64 : Int) = (r : Int) := by rw [hrr]; exact un_mod64 n
  have hr64 : r < 64 := by rw [hrr]; exact Nat.mod_lt _ (by decide)
  rw [← hrr] at hge ⊢
  obtain ⟨c1, f1⟩ : w.cell? ⟨hb, 72, none⟩ = some (.int .u64 (un n)) ∧ w.frozen? ⟨hb, 72, none⟩ = false := ⟨h.hash.blk.at (hcells_total s t n h.hash.len), h.hash.blk.free _⟩
  obtain ⟨r1, r2, r3⟩ : (0 : Int) ≤ (r : Int) ∧ (r : Int) ≤ 64 ∧ (r : Int) + ((64 - r : Nat) : Int) = 64 := ⟨by omega, by omega, by omega⟩
  clear hrr
  have H := Lib.hid h; clear h
  have HT := Lib.hid hT; clear hT
  obtain ⟨HK, HB⟩ : Hid (Blk ((w.setCell ⟨hb, 72, none⟩ (.int .u64 (un (n + p.length)))).alloc (.cells #[.pointer (some ⟨hb, 0, none⟩)] 110)) hb (hcells s t (n + p.length))) ∧
      Hid (Bs ((w.setCell ⟨hb, 72, none⟩ (.int .u64 (un (n + p.length)))).alloc (.cells #[.pointer (some ⟨hb, 0, none⟩)] 110)) pb po p) :=
    ⟨by have := (H.out.hash.blk.set 72 (.int .u64 (un (n + p.length)))).alloc (.cells #[.pointer (some ⟨hb, 0, none⟩)] 110); rw [hcells_setTotal _ _ _ _ H.out.hash.len] at this; exact this,
     (H.out.bytes.grown (grown_set w ⟨hb, 72, none⟩ _) (by show some pb ≠ some hb; simp [H.out.ne])).grown (World.grownBy_alloc _ _ none) (by simp)⟩
  have HL := Lib.hid (show ((p.take (64 - r)).map vb).length = 64 - r by rw [List.length_map, List.length_take]; omega)
  refine (callsIn_wide (n := 6)).1 ?_
  refine callsIn_of_wp_marks Tryz.func70 rfl trivial ?_ rfl
  simp only [Tryz.ntmps70, List.size_toArray, List.length_cons, List.length_nil, Nat.reduceAdd, Nat.reduceSub, Array.replicate_succ, Array.replicate_zero, List.push_toArray, List.append_toArray, List.nil_append, List.cons_append]
  refine wpIn_wide.2 ?_
  go_wp2_with ((with_reducible refine wpList_copy_to ?g1 (.tmp 31) (.tmp 32) 49 49 ?g2 5 Tryz.underlying49 info_b1 (some ⟨hb, 8 + r, none⟩) (some ⟨pb, po, none⟩) (64 - r) (64 - r) p.length pcap ?g3 ?g4 hb (8 + r) ((p.take (64 - r)).map vb) ?g5 ?g6 ?g7 (oneCell_bytes _) ?_); (case g1 => rfl); (case g2 => rfl); (case g3 => rfl); (case g4 => rfl); (case g5 => rw [HL.out]; exact (Nat.min_eq_right (by omega)).symm); (case g6 => exact fun _ => ⟨rfl, pb, po, rfl, (HB.out.take _).rangeAt⟩); (case g7 => exact HK.out.there _ _ (by rw [HL.out, hcells_length _ _ _ H.out.hash.len]; omega)); rw [HL.out])
  generalize hW : World.setCells _ _ _ _ = W
  have hI : WInv w hb s (over t r (p.take (64 - r))) (n + p.length) pb po p W := by
    rw [← hW]
    have hg : w.grownBy ((w.setCell ⟨hb, 72, none⟩ (.int .u64 (un (n + p.length)))).alloc (.cells #[.pointer (some ⟨hb, 0, none⟩)] 110)) (some hb) := (grown_set w ⟨hb, 72, none⟩ _).trans (World.grownBy_alloc _ _ _)
    have hg2 := grown_setCells hb ((p.take (64 - r)).map vb) ((w.setCell ⟨hb, 72, none⟩ (.int .u64 (un (n + p.length)))).alloc (.cells #[.pointer (some ⟨hb, 0, none⟩)] 110)) (8 + r)
    rw [← List.map_take]
    refine ⟨?_, ?_, HB.out.grown hg2 (by simp [H.out.ne]), ?_, hg.trans hg2, Nat.lt_of_lt_of_le (by simp) hg2.size, fun j hj => (hg.trans hg2).cell (HT.out j hj) (by simp [hG])⟩
    · have := HK.out.setCells (vs := (p.take (64 - r)).map vb) (8 + r) (by rw [HL.out, hcells_length _ _ _ H.out.hash.len]; omega)
      rw [hcells_setTail _ _ _ _ _ H.out.hash.len (by rw [List.length_take]; omega)] at this
      exact this
    · rw [over_length _ _ _ (by rw [H.out.hash.len, List.length_take]; omega), H.out.hash.len]
    · exact hg2.cell ((Blk.newAt (w.setCell ⟨hb, 72, none⟩ (.int .u64 (un (n + p.length)))) _ _ (by simp) rfl).at rfl) (by simp; omega)
  clear hW HK HB
  obtain ⟨W, rfl⟩ : ∃ W' : World, W' = W := ⟨_, rfl⟩
  obtain ⟨T1, hT1⟩ : ∃ T1, T1 = over t r (p.take (64 - r)) := ⟨_, rfl⟩
  rw [← hT1] at hI
  have HT1 := Lib.hid hT1; clear hT1
  have HI := Lib.hid hI
  have HK8 := Lib.hid hI.blk
  obtain ⟨b0, d0, d1, d2, d3, d4, d5, d6, d7, z0, z1, z2, z3, z4, z5, z6, z7⟩ : W.cell? ⟨w.heap.size, 0, none⟩ = some (.pointer (some ⟨hb, 0, none⟩)) ∧ W.cell? ⟨hb, 0, none⟩ = some (vw s.a) ∧ W.cell? ⟨hb, 1, none⟩ = some (vw s.b) ∧ W.cell? ⟨hb, 2, none⟩ = some (vw s.c) ∧ W.cell? ⟨hb, 3, none⟩ = some (vw s.d) ∧ W.cell? ⟨hb, 4, none⟩ = some (vw s.e) ∧ W.cell? ⟨hb, 5, none⟩ = some (vw s.f) ∧ W.cell? ⟨hb, 6, none⟩ = some (vw s.g) ∧ W.cell? ⟨hb, 7, none⟩ = some (vw s.h) ∧ W.frozen? ⟨hb, 0, none⟩ = false ∧ W.frozen? ⟨hb, 1, none⟩ = false ∧ W.frozen? ⟨hb, 2, none⟩ = false ∧ W.frozen? ⟨hb, 3, none⟩ = false ∧ W.frozen? ⟨hb, 4, none⟩ = false ∧ W.frozen? ⟨hb, 5, none⟩ = false ∧ W.frozen? ⟨hb, 6, none⟩ = false ∧ W.frozen? ⟨hb, 7, none⟩ = false := ⟨hI.box, hI.blk.cells8⟩
  obtain ⟨mT, mb, mB, mG, mz⟩ : Hid (TabA W) ∧ Hid (hb < W.heap.size) ∧ Hid (Bs W hb 8 T1) ∧ Hid (4 < W.heap.size) ∧ Hid (w.heap.size < W.heap.size) := ⟨hI.tab, hI.blk.lt, hI.blk.tail hI.len, tab_lt hI.tab, hI.size⟩
  clear hI
  refine wp_region_noPanic ?_
  refine wp_region_held (S := fun w' => w'.cell? ⟨w.heap.size, 0, none⟩ = some (.pointer (some ⟨hb, 0, none⟩))) (by kernel_rfl) ?_
  change wpAnyH _ _ _ _ _ _ _ _ W.drew
  have hS0 : W.drew.cell? ⟨w.heap.size, 0, none⟩ = some (.pointer (some ⟨hb, 0, none⟩)) := b0
  refine takeH 0 40 (Value.pointer (some ⟨hb, 0, none⟩)) rfl rfl (by kernel_rfl) (by kernel_rfl) (by kernel_rfl) (fun _ _ _ h => h) rfl (fun w' hS => by go_simp) hS0 ?_
  go_frame
  refine takeH 1 41 (Value.pointer (some ⟨hb, 0, none⟩)) rfl rfl (by kernel_rfl) (by kernel_rfl) (by kernel_rfl) (fun _ _ _ h => h) rfl (fun w' hS => by go_simp) hS0 ?_
  go_frame
  refine takeH 2 42 (Value.pointer (some ⟨hb, 0, none⟩)) rfl rfl (by kernel_rfl) (by kernel_rfl) (by kernel_rfl) (fun _ _ _ h => h) rfl (fun w' hS => by go_simp) hS0 ?_
  go_frame
  refine takeH 3 43 (Value.pointer (some ⟨hb, 0, none⟩)) rfl rfl (by kernel_rfl) (by kernel_rfl) (by kernel_rfl) (fun _ _ _ h => h) rfl (fun w' hS => by go_simp) hS0 ?_
  go_frame
  refine takeH 5 45 (Value.pointer (some ⟨hb, 0, none⟩)) rfl rfl (by kernel_rfl) (by kernel_rfl) (by kernel_rfl) (fun _ _ _ h => h) rfl (fun w' hS => by go_simp) hS0 ?_
  go_frame
  refine takeH 6 46 (Value.pointer (some ⟨hb, 0, none⟩)) rfl rfl (by kernel_rfl) (by kernel_rfl) (by kernel_rfl) (fun _ _ _ h => h) rfl (fun w' hS => by go_simp) hS0 ?_
  go_frame
  refine takeH 7 47 (Value.pointer (some ⟨hb, 8, none⟩)) rfl rfl (by kernel_rfl) (by kernel_rfl) (by kernel_rfl) (fun _ _ _ h => h) rfl (fun w' hS => by go_simp) hS0 ?_
  go_frame
  refine takeH 8 48 (Value.slice (some ⟨hb, 8, none⟩) 64 64) rfl rfl (by kernel_rfl) (by kernel_rfl) (by kernel_rfl) (fun _ _ _ h => h) rfl (fun w' hS => by go_simp) hS0 ?_
  go_frame
  refine wpAnyH_all (rs := [4]) (by kernel_rfl) (by simp) ?_
  simp only [List.mem_singleton, forall_eq]
  refine wpOp_valueD 44 rfl rfl rfl (.agg #[vw s.a, vw s.b, vw s.c, vw s.d, vw s.e, vw s.f, vw s.g, vw s.h]) (by go_simp) ⟨hS0, ?_⟩
  go_frame
  refine wpAnyH_all (rs := [9]) (by kernel_rfl) (by simp) ?_
  simp only [List.mem_singleton, forall_eq]
  refine wpOp_callD 49 rfl rfl rfl 91 #[.agg s.cells.toArray, .slice (some ⟨hb, 8, none⟩) 64 64] (by go_simp) ?_
  refine (mix_any s hb 8 64 T1 W.drew mT.out mG.out HI.out.len mb.out mB.out (by decide) (by decide)).mono ?_
  rintro e w2 ⟨rfl, hb2⟩
  have hk2 : Blk w2 hb (hcells s T1 (n + p.length)) := blk_below HK8.out mb.out hb2
  have hS2 : w2.cell? ⟨w.heap.size, 0, none⟩ = some (.pointer (some ⟨hb, 0, none⟩)) := (hb2.cell (p := ⟨w.heap.size, 0, none⟩) mz.out).trans b0
  refine ⟨_, rfl, hS2, ?_⟩
  go_frame
  refine takeH 10 50 (Value.pointer (some ⟨hb, 0, none⟩)) rfl rfl (by kernel_rfl) (by kernel_rfl) (by kernel_rfl) (fun _ _ _ h => h) rfl (fun w' hS => by go_simp) hS2 ?_
  go_frame
  refine takeH 11 51 (Value.pointer (some ⟨hb, 0, none⟩)) rfl rfl (by kernel_rfl) (by kernel_rfl) (by kernel_rfl) (fun _ _ _ h => h) rfl (fun w' hS => by go_simp) hS2 ?_
  go_frame
  refine wpAnyH_all (rs := [12]) (by kernel_rfl) (by simp) ?_
  simp only [List.mem_singleton, forall_eq]
  refine wpOp_storeN rfl rfl rfl 136 (.tmp 51) (.tmp 49) rfl hb 0 (compress s T1).cells.toArray rfl rfl (hk2.there 0 8 (by rw [hcells_length _ _ _ HI.out.len]; decide)) info_w8 (cells_oneCell _) ⟨?_, wpAnyH_done (by kernel_rfl) ?_ _⟩
  · exact (grown_setCells hb _ w2 0).cell hS2 (by show some w.heap.size ≠ some hb; simp; omega)
  refine NoPanic.normal ?_
  generalize hW2 : World.setCells _ _ _ _ = W2
  have hI2 : WInv w hb (compress s T1) T1 (n + p.length) pb po p W2 := by
    rw [← hW2]
    have hg : W.grownBy w2 (some hb) := by have hq := grown_of_below hb2 (some hb); exact ⟨hq.os, hq.tape, hq.output, hq.size, hq.block⟩
    have hg2 := grown_setCells hb (compress s T1).cells w2 0
    have hgg := hg.trans hg2
    exact ⟨hk2.setState HI.out.len _, HI.out.len, HI.out.bytes.grown hgg (by simp [H.out.ne]), hgg.cell HI.out.box (by show some w.heap.size ≠ some hb; simp; omega), HI.out.grown.trans hgg, Nat.lt_of_lt_of_le HI.out.size hgg.size, fun j hj => hgg.cell (HI.out.tab j hj) (by simp [hG])⟩
  clear hW2 hk2 hS2 hb2 hS0 HK8 HI b0 d0 d1 d2 d3 d4 d5 d6 d7 z0 z1 z2 z3 z4 z5 z6 z7 mT mb mB mG mz
  obtain ⟨W2, rfl⟩ : ∃ W' : World, W' = W2 := ⟨_, rfl⟩
  have HI := Lib.hid hI2; clear hI2
  have hrest := run_rest pb po p.length pcap (64 - r) (by omega)
  go_wp2_with fail
  refine ((callsIn_wide (n := 1)).1 (whole_in Fence.wide 1 trivial rfl _ _ _ _)).mono ?_
  rintro e w3 ⟨rfl, rfl⟩
  go_wp2_with fail
  have hcap' : pcap ≤ 9223372036854775807 := H.out.cap2
  have hlen' : p.length ≤ pcap := H.out.cap
  obtain ⟨W3, hW3e⟩ : ∃ W3 : World, W3 = W2.alloc (.cells #[.slice (some ⟨pb, restAt po pcap (64 - r), none⟩) (p.length - (64 - r)) (pcap - (64 - r))] 49) := ⟨_, rfl⟩
  obtain ⟨hsz3, hbox3⟩ : W3.heap.size = W2.heap.size + 1 ∧ W3.cell? ⟨W2.heap.size, 0, none⟩ = some (.slice (some ⟨pb, restAt po pcap (64 - r), none⟩) (p.length - (64 - r)) (pcap - (64 - r))) := by
    subst hW3e
    have hn := World.alloc_heap_new W2 (.cells #[.slice (some ⟨pb, restAt po pcap (64 - r), none⟩) (p.length - (64 - r)) (pcap - (64 - r))] 49)
    exact ⟨by simp, by simp only [World.cell?]; rw [hn]; rfl⟩
  have HI3 : Hid (WInv w hb (compress s T1) T1 (n + p.length) pb po p W3) := Lib.hid (by
    subst hW3e
    exact HI.out.kept (World.grownBy_alloc W2 _ none) (World.grownBy_alloc W2 _ (some hb)))
  rw [← hW3e]; clear hW3e
  refine (wpIn_wide (n := 6)).1 ?_
  refine wpIn_rangeFunc_ownG rfl (by decide) (gf := 110) (lb := #[.pointer (some ⟨W2.heap.size, 0, none⟩)]) rfl trivial (enters_of Tryz.func110 (by kernel_rfl) rfl)
    (whole_stops Fence.wide 5 trivial rfl (by decide) W2.heap.size pb (restAt po pcap (64 - r)) (p.length - (64 - r)) (pcap - (64 - r)) (by omega) ⟨by omega, by omega⟩ W3 (by omega) hbox3) keepBox_t (keepBox_b (by omega)) (Below.refl _ _) (fun _ => rfl)
    (fun pre W => WInv w hb (pre.foldl (fun s x => compress s ((p.drop (64 - r + 64 * x.1)).take 64)) (compress s T1)) T1 (n + p.length) pb po p W ∧ W3.heap.size ≤ W.heap.size)
    (fun _ _ _ => False) ?own (fun _ _ _ _ _ hs _ _ => hs) ⟨HI3.out, Nat.le_refl _⟩
    (fun x => { tmps := #[.pointer (some ⟨hb, 0, none⟩), .slice (some ⟨pb, po, none⟩) p.length pcap, .pointer (some ⟨w.heap.size, 0, none⟩), undef, .int .i64 0, .int .i64 (r : Int), .int .i64 ((64 - r : Nat) : Int), .slice (some ⟨pb, restAt po pcap (64 - r), none⟩) (p.length - (64 - r)) (pcap - (64 - r)), blk pb (restAt po pcap (64 - r)) x.1, .pointer (some ⟨hb, 0, none⟩), .bool false, .pointer (some ⟨hb, 0, none⟩), .pointer (some ⟨hb, 0, none⟩), .pointer (some ⟨hb, 72, none⟩), .int .u64 (un n), .int .u64 (r : Int), .int .i64 (r : Int), .pointer (some ⟨hb, 0, none⟩), .pointer (some ⟨hb, 0, none⟩), .pointer (some ⟨hb, 72, none⟩), .int .u64 (un n), .slice (some ⟨pb, po, none⟩) p.length pcap, .int .i64 (p.length : Int), .int .u64 (p.length : Int), .int .u64 (un (n + p.length)), .pointer (some ⟨hb, 0, none⟩), .pointer (some ⟨hb, 72, none⟩), .pointer (some ⟨hb, 0, none⟩), .pointer (some ⟨hb, 0, none⟩), .pointer (some ⟨hb, 8, none⟩), .int .i64 (r : Int), .slice (some ⟨hb, 8 + r, none⟩) (64 - r) (64 - r), .slice (some ⟨pb, po, none⟩) p.length pcap, .int .i64 ((64 - r : Nat) : Int), .int .i64 (r : Int), .int .i64 ((64 - r : Nat) : Int), .int .i64 64, .bool false, undef, undef, .pointer (some ⟨hb, 0, none⟩), .pointer (some ⟨hb, 0, none⟩), .pointer (some ⟨hb, 0, none⟩), .pointer (some ⟨hb, 0, none⟩), .agg #[vw s.a, vw s.b, vw s.c, vw s.d, vw s.e, vw s.f, vw s.g, vw s.h], .pointer (some ⟨hb, 0, none⟩), .pointer (some ⟨hb, 0, none⟩), .pointer (some ⟨hb, 8, none⟩), .slice (some ⟨hb, 8, none⟩) 64 64, .agg (compress s T1).cells.toArray, .pointer (some ⟨hb, 0, none⟩), .pointer (some ⟨hb, 0, none⟩), .slice (some ⟨pb, po, none⟩) p.length pcap, .int .i64 ((64 - r : Nat) : Int), .slice (some ⟨pb, restAt po pcap (64 - r), none⟩) (p.length - (64 - r)) (pcap - (64 - r)), .slice (some ⟨pb, restAt po pcap (64 - r), none⟩) (p.length - (64 - r)) (pcap - (64 - r)), .func (.func 110) #[] #[.pointer (some ⟨W2.heap.size, 0, none⟩)], blk pb (restAt po pcap (64 - r)) x.1, undef, undef, undef, undef, undef, undef, undef, undef, undef, undef, undef, undef, undef, undef, undef, undef, undef, undef, undef, undef, undef, undef, undef, undef], defers := [] }) ?assign ?body ?done ?stop
  case own => exact fun pre A B row hs hg hr => ⟨hs.1.keptFrom hg (fun r e => (hr r e).1) (by have := HI3.out.size; omega) hbl H.out.lt (tab_lt HT.out), Nat.le_trans hs.2 hg.size⟩
  case assign =>
    intro l x W K hK
    gi_wp2
    unfold blk at hK ⊢
    exact hK
  case stop =>
    rintro D c pre W _ _ h _
    exact h.elim
  case body =>
    rintro l pre x W4 ⟨hI4, hz4⟩ hlt
    obtain ⟨s4, hs4⟩ : ∃ s4, s4 = pre.foldl (fun s x => compress s ((p.drop (64 - r + 64 * x.1)).take 64)) (compress s T1) := ⟨_, rfl⟩
    rw [← hs4] at hI4
    have HS4 := Lib.hid hs4; clear hs4
    have HI4 := Lib.hid hI4; clear hI4
    have hx := x.2
    obtain ⟨q8, hq8⟩ : ∃ q, q = (p.drop (64 - r + 64 * x.1)).take 64 := ⟨_, rfl⟩
    obtain ⟨mT, mP, mB, mG, mb, mn⟩ : Hid (TabA W4) ∧ Hid (q8.length = 64) ∧ Hid (Bs W4 pb (restAt po pcap (64 - r) + 64 * x.1) q8) ∧ Hid (4 < W4.heap.size) ∧ Hid (pb < W4.heap.size) ∧ Hid (w.heap.size < W4.heap.size) :=
      ⟨HI4.out.tab, Lib.hid (by rw [hq8, List.length_take, List.length_drop]; omega), Lib.hid (by rw [hq8, restAt_ne _ _ _ (by omega), Nat.add_assoc]; exact (HI4.out.bytes.drop _).take _), tab_lt HI4.out.tab, Lib.hid (Nat.lt_of_lt_of_le H.out.lt HI4.out.grown.size), HI4.out.size⟩
    have HQ := Lib.hid hq8; clear hq8
    obtain ⟨d0, d1, d2, d3, d4, d5, d6, d7, z0, z1, z2, z3, z4, z5, z6, z7⟩ := HI4.out.blk.cells8
    obtain ⟨b4, e1, e2⟩ : W4.cell? ⟨w.heap.size, 0, none⟩ = some (.pointer (some ⟨hb, 0, none⟩)) ∧ 1 ≤ 4 ∧ Tryz.prog.follows .mixedOrders = true := ⟨HI4.out.box, by decide, by kernel_rfl⟩
    unfold blk
    gi_wp2
    refine wpIn_region_held_round (S := fun w' => w'.cell? ⟨w.heap.size, 0, none⟩ = some (.pointer (some ⟨hb, 0, none⟩))) (by kernel_rfl) (by kernel_rfl) (by rintro ⟨_, _, h⟩; exact h) ?_
    change wpAnyH _ _ _ _ _ _ _ _ W4.drew
    have hS0 : W4.drew.cell? ⟨w.heap.size, 0, none⟩ = some (.pointer (some ⟨hb, 0, none⟩)) := b4
    refine takeH 0 58 (Value.pointer (some ⟨hb, 0, none⟩)) rfl rfl (by kernel_rfl) (by kernel_rfl) (by kernel_rfl) (fun _ _ _ h => h) rfl (fun w' hS => by go_simp) hS0 ?_
    go_frame
    refine takeH 1 59 (Value.pointer (some ⟨hb, 0, none⟩)) rfl rfl (by kernel_rfl) (by kernel_rfl) (by kernel_rfl) (fun _ _ _ h => h) rfl (fun w' hS => by go_simp) hS0 ?_
    go_frame
    refine takeH 2 60 (Value.pointer (some ⟨hb, 0, none⟩)) rfl rfl (by kernel_rfl) (by kernel_rfl) (by kernel_rfl) (fun _ _ _ h => h) rfl (fun w' hS => by go_simp) hS0 ?_
    go_frame
    refine takeH 3 61 (Value.pointer (some ⟨hb, 0, none⟩)) rfl rfl (by kernel_rfl) (by kernel_rfl) (by kernel_rfl) (fun _ _ _ h => h) rfl (fun w' hS => by go_simp) hS0 ?_
    go_frame
    refine takeH 5 63 (Value.slice (some ⟨pb, restAt po pcap (64 - r) + 64 * x.1, none⟩) 64 64) rfl rfl (by kernel_rfl) (by kernel_rfl) (by kernel_rfl) (fun _ _ _ h => h) rfl (fun w' hS => by go_simp) hS0 ?_
    go_frame
    refine wpAnyH_all (rs := [4]) (by kernel_rfl) (by simp) ?_
    simp only [List.mem_singleton, forall_eq]
    refine wpOp_valueD 62 rfl rfl rfl (.agg #[vw s4.a, vw s4.b, vw s4.c, vw s4.d, vw s4.e, vw s4.f, vw s4.g, vw s4.h]) (by go_simp) ⟨hS0, ?_⟩
    go_frame
    refine wpAnyH_all (rs := [6]) (by kernel_rfl) (by simp) ?_
    simp only [List.mem_singleton, forall_eq]
    refine wpOp_callD 64 rfl rfl rfl 91 #[.agg s4.cells.toArray, .slice (some ⟨pb, restAt po pcap (64 - r) + 64 * x.1, none⟩) 64 64] (by go_simp) ?_
    refine (mix_any s4 pb _ 64 q8 W4.drew mT.out mG.out mP.out mb.out mB.out (by decide) (by decide)).mono ?_
    rintro e w2 ⟨rfl, hb2⟩
    have hS2 : w2.cell? ⟨w.heap.size, 0, none⟩ = some (.pointer (some ⟨hb, 0, none⟩)) := (hb2.cell (p := ⟨w.heap.size, 0, none⟩) mn.out).trans b4
    have hk2 : Blk w2 hb (hcells s4 T1 (n + p.length)) := blk_below HI4.out.blk HI4.out.blk.lt hb2
    refine ⟨_, rfl, hS2, ?_⟩
    go_frame
    refine takeH 7 65 (Value.pointer (some ⟨hb, 0, none⟩)) rfl rfl (by kernel_rfl) (by kernel_rfl) (by kernel_rfl) (fun _ _ _ h => h) rfl (fun w' hS => by go_simp) hS2 ?_
    go_frame
    refine takeH 8 66 (Value.pointer (some ⟨hb, 0, none⟩)) rfl rfl (by kernel_rfl) (by kernel_rfl) (by kernel_rfl) (fun _ _ _ h => h) rfl (fun w' hS => by go_simp) hS2 ?_
    go_frame
    refine wpAnyH_all (rs := [9]) (by kernel_rfl) (by simp) ?_
    simp only [List.mem_singleton, forall_eq]
    obtain ⟨hI5, hg5⟩ := HI4.out.step hb2 (compress s4 q8) H.out.ne hbl hG
    refine wpOp_storeN rfl rfl rfl 136 (.tmp 66) (.tmp 64) rfl hb 0 (compress s4 q8).cells.toArray rfl rfl (hk2.there 0 8 (by rw [hcells_length _ _ _ HI4.out.len]; decide)) info_w8 (cells_oneCell _) ⟨hI5.box, wpAnyH_done (by kernel_rfl) ?_ _⟩
    refine NoPanic.normal ?_
    have hf : (pre ++ [x]).foldl (fun s x => compress s ((p.drop (64 - r + 64 * x.1)).take 64)) (compress s T1) = compress s4 q8 := by
      rw [List.foldl_append, ← HS4.out, HQ.out]; rfl
    refine ⟨KeepsFrom.of_grownBy hg5 (fun j e => by cases e; have := HI3.out.size; omega), World.cell?_of_block (hg5.block _ (by show W2.heap.size < _; omega) (by show some W2.heap.size ≠ some hb; have := HI.out.size; simp; omega)), ?_, Nat.le_trans hz4 hg5.size⟩
    show WInv w hb ((pre ++ [x]).foldl (fun s x => compress s ((p.drop (64 - r + 64 * x.1)).take 64)) (compress s T1)) T1 (n + p.length) pb po p _
    rw [hf]
    exact hI5
  case done =>
    rintro D ys W5 hD hys ⟨hI5, hz5⟩ hK
    have hI5' : WInv w hb (stOf (compress s T1) (p.drop (64 - r))) T1 (n + p.length) pb po p W5 := by
      rw [← fold_sub (compress s T1) p (64 - r) ys hys (by rw [List.length_drop])]; exact hI5
    have HI5 := Lib.hid hI5'; clear hI5 hI5'
    obtain ⟨m, hm⟩ : ∃ m, m = p.length - (64 - r) := ⟨_, rfl⟩
    obtain ⟨b5, m0⟩ : W5.cell? ⟨w.heap.size, 0, none⟩ = some (.pointer (some ⟨hb, 0, none⟩)) ∧ m ≤ 4611686018427387904 := ⟨HI5.out.box, by omega⟩
    have HK := Lib.hid hK; clear hK
    have hrest2 := run_rest pb (restAt po pcap (64 - r)) (p.length - (64 - r)) (pcap - (64 - r)) (m - m % 64) (by omega)
    rw [← hm] at hrest2 ⊢
    rw [show ((m - m % 64 : Nat) : Int) = (m : Int) - (m : Int) % 64 by omega] at hrest2
    obtain ⟨k0, k1⟩ : (0 : Int) ≤ (m : Int) - (m : Int) % 64 ∧ (m : Int) - (m : Int) % 64 ≤ (m : Int) := ⟨by omega, by omega⟩
    have HR := Lib.hid (restOf_length (p.drop (64 - r)))
    obtain ⟨q, hq⟩ : ∃ q, q = restOf (p.drop (64 - r)) := ⟨_, rfl⟩
    have HQL : Hid (q.length = m % 64) := Lib.hid (by rw [hq, HR.out, List.length_drop, ← hm])
    have HQB : Hid (0 < q.length → Bs W5 pb (restAt (restAt po pcap (64 - r)) (pcap - (64 - r)) (m - m % 64)) q) := Lib.hid fun hp => by
      rw [restAt_ne _ _ _ (by have := HQL.out; omega), restAt_ne _ _ _ (by have := HQL.out; omega), hq]
      unfold restOf
      rw [List.length_drop, ← hm, show m - m % 64 = 64 * (m / 64) by omega]
      exact (HI5.out.bytes.drop _).drop _
    have HQ := Lib.hid hq; clear hq
    have HM := Lib.hid hm; clear hm
    have e1 : (m : Int).tmod 64 = (m : Int) % 64 := Int.tmod_eq_emod_of_nonneg (by omega)
    have e2 : IntKind.i64.wrap ((m : Int) - (m : Int) % 64) = (m : Int) - (m : Int) % 64 := IntWalk.i64_in _ (by omega)
    have e3 : IntKind.i64.wrap ((m : Int) % 64) = (m : Int) % 64 := IntWalk.i64_in _ (by omega)
    gi_wp2
    go_wp2_with fail
    go_still_tail 12, (by kernel_rfl)
    clear e1 e2 e3
    change wpList _ _ _ _ _ W5.drew
    refine wpList_copy_to rfl (.tmp 70) (.tmp 78) 49 49 rfl 5 Tryz.underlying49 info_b1 (some ⟨hb, 8, none⟩) (some ⟨pb, restAt (restAt po pcap (64 - r)) (pcap - (64 - r)) (m - m % 64), none⟩) 64 64 (m - (m - m % 64)) (pcap - (64 - r) - (m - m % 64)) rfl rfl hb 8 (q.map vb) ?_ ?_ ?_ (oneCell_bytes _) ?_
    · rw [List.length_map, HQL.out, show m - (m - m % 64) = m % 64 by omega]; exact (Nat.min_eq_left (by omega)).symm
    · intro hp; rw [List.length_map] at hp; exact ⟨rfl, pb, _, rfl, (HQB.out hp).rangeAt⟩
    · exact HI5.out.blk.drew.there _ _ (by rw [List.length_map, HQL.out, hcells_length _ _ _ HI5.out.len]; omega)
    have hg6 : W5.grownBy (W5.drew.setCells hb 8 (q.map vb)) (some hb) := by have hq := grown_setCells hb (q.map vb) W5.drew 8; exact ⟨hq.os, hq.tape, hq.output, hq.size, hq.block⟩
    have hb6 := HI5.out.blk.drew.setCells (vs := q.map vb) (8 + 0) (by rw [List.length_map, HQL.out, hcells_length _ _ _ HI5.out.len]; omega)
    rw [hcells_setTail _ _ _ _ _ HI5.out.len (by rw [HQL.out]; omega)] at hb6
    have hb6' : Blk (W5.drew.setCells hb 8 (q.map vb)) hb (hcells (stOf (compress s T1) (p.drop (64 - r))) (over T1 0 q) (n + p.length)) := hb6
    clear hb6
    generalize World.setCells _ _ _ _ = W6 at hg6 hb6' ⊢
    have HB6 := Lib.hid hb6'; clear hb6'
    have HG6 := Lib.hid hg6; clear hg6
    have hT1q : t.take r ++ p = T1 ++ p.drop (64 - r) := by
      rw [HT1.out]; unfold over; rw [List.length_take, Nat.min_eq_left (by omega), show r + (64 - r) = 64 by omega, List.drop_of_length_le (by rw [H.out.hash.len]; omega), List.append_nil, List.append_assoc, List.take_append_drop]
    have HTQ := Lib.hid hT1q; clear hT1q
    go_wp2_with fail
    have hwD : w.heap.size < D := by have := HI3.out.size; omega
    have hDlt : D < W5.heap.size := (Array.getElem?_eq_some_iff.1 HK.out).1
    have hK6 : W6.heap[D]? = some (.deferred (some [])) := (HG6.out.block D hDlt (by simp; omega)).trans HK.out
    refine ⟨by simp, .inl ⟨_, _, rfl, run_takeDeferred hK6, ?_⟩⟩
    have hgD := grownBy_putObj' W6 D (.deferred none)
    refine ⟨_, results_tmp rfl _ _ _, rfl, grown_new (HI5.out.grown.trans HG6.out) hgD (fun x e => by cases e; have := HI3.out.size; omega), over T1 0 q, ?_, ?_, ?_⟩
    · rw [HTQ.out, restOf_app T1 _ 1 (by rw [HI5.out.len]), ← HQ.out, show (r + p.length) % 64 = 0 + q.length by rw [HQL.out]; have := HM.out; omega]
      unfold over
      rw [List.take_zero, List.nil_append, List.take_append_of_le_length (by omega), List.take_of_length_le (by omega)]
    · rw [HTQ.out, stOf_block _ _ _ HI5.out.len]
      exact HB6.out.grown hgD (by simp; omega)
    · rw [over_length _ _ _ (by rw [HI5.out.len, HQL.out]; omega), HI5.out.len]
end Go.Proofs.YtoehkhbppmgfkaaGreatDoor
namespace Go.Proofs.YtoehkhbppmgfkaaGreatDoor
open Go.RowKit

/-- The Hash at block b: the state s, the bytes rest behind the last whole block, n bytes in all. -/
def HashAt (w : World) (b : Nat) (s : St) (rest : List UInt8) (n : Nat) : Prop := ∃ t, HashIs w b s t n ∧ t.take (n % 64) = rest
theorem HashAt.len {w : World} {b : Nat} {s : St} {rest : List UInt8} {n : Nat} (h : HashAt w b s rest n) : rest.length = n % 64 := by
  obtain ⟨t, h1, rfl⟩ := h
  rw [List.length_take, h1.len]; omega
theorem HashAt.lt {w : World} {b : Nat} {s : St} {rest : List UInt8} {n : Nat} (h : HashAt w b s rest n) : b < w.heap.size := by
  obtain ⟨t, h1, _⟩ := h
  exact h1.blk.lt
theorem HashAt.grown {w w' : World} {b : Nat} {s : St} {rest : List UInt8} {n : Nat} {row : Option Nat} (h : HashAt w b s rest n) (hg : w.grownBy w' row) (hne : some b ≠ row) : HashAt w' b s rest n := by
  obtain ⟨t, h1, h2⟩ := h
  exact ⟨t, ⟨h1.blk.grown hg hne, h1.len⟩, h2⟩
theorem HashAt.below {w w' : World} {b B : Nat} {s : St} {rest : List UInt8} {n : Nat} (h : HashAt w b s rest n) (hb : Below B w w') (hB : b < B) : HashAt w' b s rest n := by
  obtain ⟨t, h1, h2⟩ := h
  exact ⟨t, ⟨h1.blk.below hb hB, h1.len⟩, h2⟩
theorem over_take (t p : List UInt8) (r : Nat) (h : r ≤ t.length) : (over t r p).take (r + p.length) = t.take r ++ p := by
  unfold over
  rw [List.take_append_of_le_length (by rw [List.length_append, List.length_take]; omega), List.take_of_length_le (by rw [List.length_append, List.length_take]; omega)]
theorem Src.of_ptr {w : World} {hb : Nat} {A : Option Addr} {l : List UInt8} {c : Nat} (h : Src w hb A l c) (h0 : 0 < l.length) {s : St} {t : List UInt8} {n : Nat} (hh : HashIs w hb s t n) : ∃ b o, A = some ⟨b, o, none⟩ ∧ WIn w hb s t n b o c l := by
  obtain ⟨b, o, e, h1, h2, h3⟩ := h.bytes h0
  exact ⟨b, o, e, hh, h3, h1, h2, h.cap, h.cap2, h.len2⟩
theorem write_any (hb : Nat) (s : St) (rest : List UInt8) (n : Nat) (A : Option Addr) (c : Nat) (p : List UInt8) (w : World) (h : HashAt w hb s rest n) (hs : Src w hb A p c) (hT : TabA w) (hG : 4 ≠ hb) :
    Calls Tryz.prog 70 #[.pointer (some ⟨hb, 0, none⟩), .slice A p.length c] w fun e w' => e = .returned (.int .i64 p.length) ∧ HashAt w' hb (stOf s (rest ++ p)) (restOf (rest ++ p)) (n + p.length) ∧ w.grownBy w' (some hb) := by
  have hl := h.len
  obtain ⟨t, h1, h2⟩ := h
  by_cases hlt : n % 64 + p.length < 64
  · refine (write_early hb s t n A c p w h1 hs hlt).mono ?_
    rintro e w' ⟨he, hh, hg⟩
    have hl2 : (rest ++ p).length < 64 := by rw [List.length_append, hl]; omega
    refine ⟨he, ⟨over t (n % 64) p, ?_, ?_⟩, hg⟩
    · rw [stOf_small _ _ hl2]; exact hh
    · rw [restOf_small _ hl2, show (n + p.length) % 64 = n % 64 + p.length by omega, over_take _ _ _ (by rw [h1.len]; omega), h2]
  · obtain ⟨b, o, rfl, hin⟩ := hs.of_ptr (by omega) h1
    refine (write_full hb s t n b o c p w hin hT hG (by omega)).mono ?_
    rintro e w' ⟨he, hg, t', ht, hh⟩
    rw [h2] at ht hh
    refine ⟨he, ⟨t', hh, ?_⟩, hg⟩
    rw [← ht]; congr 1; omega
/-- The Hash at block b holds the message m. -/
def HashM (w : World) (b : Nat) (m : List UInt8) : Prop := HashAt w b (stOf St.first m) (restOf m) m.length
theorem HashM.grown {w w' : World} {b : Nat} {m : List UInt8} {row : Option Nat} (h : HashM w b m) (hg : w.grownBy w' row) (hne : some b ≠ row) : HashM w' b m := HashAt.grown h hg hne
theorem HashM.below {w w' : World} {b B : Nat} {m : List UInt8} (h : HashM w b m) (hb : Below B w w') (hB : b < B) : HashM w' b m := HashAt.below h hb hB
theorem HashM.lt {w : World} {b : Nat} {m : List UInt8} (h : HashM w b m) : b < w.heap.size := HashAt.lt h
theorem write_m (hb : Nat) (m : List UInt8) (A : Option Addr) (c : Nat) (p : List UInt8) (w : World) (h : HashM w hb m) (hs : Src w hb A p c) (hT : TabA w) (hG : 4 ≠ hb) :
    Calls Tryz.prog 70 #[.pointer (some ⟨hb, 0, none⟩), .slice A p.length c] w fun e w' => e = .returned (.int .i64 p.length) ∧ HashM w' hb (m ++ p) ∧ w.grownBy w' (some hb) := by
  refine (write_any hb _ _ _ A c p w h hs hT hG).mono ?_
  rintro e w' ⟨he, hh, hg⟩
  refine ⟨he, ?_, hg⟩
  unfold HashM
  rw [List.length_append, ← stOf_feed, ← restOf_feed]
  exact hh
end Go.Proofs.YtoehkhbppmgfkaaGreatDoor
namespace Go.Proofs.YtoehkhbppmgfkaaGreatDoor
open Go.RowKit
/-- A Hash's cells, all nought. -/
def hzero : List Value := List.replicate 8 (.int .u32 0) ++ (List.replicate 64 (.int .u8 0) ++ [.int .u64 0])
theorem zero_hash (W : World) : (zeroValue 139).run Tryz.prog W = .ok (.agg hzero.toArray) W := by kernel_rfl
theorem first_cells : hcells St.first (List.replicate 64 0) 0 = [Value.int .u32 1779033703, .int .u32 3144134277, .int .u32 1013904242, .int .u32 2773480762, .int .u32 1359893119, .int .u32 2600822924, .int .u32 528734635, .int .u32 1541459225] ++ (List.replicate 64 (.int .u8 0) ++ [.int .u64 0]) := by
  unfold hcells; rfl
theorem hash_of (w : World) (cs : Array Value) (hcs : cs.toList = hcells St.first (List.replicate 64 0) 0) (t : TypeId) : HashM (w.alloc (.cells cs t)) w.heap.size [] := by
  unfold HashM
  rw [stOf_small _ [] (by decide)]
  exact ⟨List.replicate 64 0, ⟨Blk.newAt w cs t rfl hcs, by simp⟩, rfl⟩
set_option maxRecDepth 100000 in
set_option maxHeartbeats 1000000 in
theorem new_any (w : World) : Calls Tryz.prog 69 #[] w fun e w' => e = .returned (.pointer (some ⟨w.heap.size, 0, none⟩)) ∧ HashM w' w.heap.size [] ∧ Below w.heap.size w w' := by
  have hz := zero_hash
  have hs : hzero.toArray.size = 73 := by decide
  go_enter Tryz.func69, Tryz.ntmps69
  go_wp2_with fail
  go_ret
  refine ⟨rfl, hash_of w _ ?_ _, (Below.refl _ _).alloc (Nat.le_refl _) _⟩
  rw [first_cells]
  simp
  rfl
theorem info_h : (Tryz.prog.info? 139).map (·.size) = some 73 := by kernel_rfl
theorem hcells_one (s : St) (t : List UInt8) (n : Nat) : (hcells s t n).toArray.all (·.oneCell') = true := by
  refine all_oneCell_toArray fun v hv => ?_
  unfold hcells at hv
  rw [List.mem_append, List.mem_append, List.mem_map, List.mem_singleton] at hv
  rcases hv with hv | ⟨b, _, rfl⟩ | rfl
  · exact cells_one s v hv
  · rfl
  · rfl
theorem HashIs.range {w : World} {b : Nat} {s : St} {t : List UInt8} {n : Nat} (h : HashIs w b s t n) : w.rangeAt b 0 (hcells s t n) := by
  have := h.blk.range 0 73
  rwa [List.drop_zero, List.take_of_length_le (by rw [hcells_length _ _ _ h.len]; omega)] at this
end Go.Proofs.YtoehkhbppmgfkaaGreatDoor
namespace Go.Proofs.YtoehkhbppmgfkaaGreatDoor
open Go.RowKit
theorem wpOp_runD {P : Program} {ops : Array Oper} {Q : Exit → Act → World → Prop} {K : Act → World → Prop} {a : Act} {w w' : World} {i : Nat} {o : Oper} (d : Tmp) (hi : ops[i]? = some o) (hd : o.dst = some d) (hw : Region.wanted o (yielded ops a.tmps) = true) (v : Value)
    (hr : (execOp a.eval o).run P w = .ok (.value v) w') (h : K (a.put (some d) v) w') : wpOp P ops Q i K a w :=
  wpOp_of_wp hi hw (by unfold Oper.wp; rw [hr]; show K (a.put o.dst v) w'; rw [hd]; exact h)
theorem takeHY {P : Program} {ops : Array Oper} {Q : Exit → Act → World → Prop} {a : Act} {w : World} {md : Region.Mode} {S : World → Prop} (i : Nat) (d : Tmp) {oi : Oper} (v : Value) {fuel : Nat} {listed : Array Bool} (hi : ops[i]? = some oi) (hd : oi.dst = some d)
    (hs : Region.noSelect ops = true) (hf : Region.free md ops listed i = true) (hr : (Region.ready md ops listed).contains i = true)
    (hQ : ∀ c (a : Act) w, Q (.panic c) (a.put oi.dst v) w → Q (.panic c) a w) (hy : YieldsIf P ops S oi v a) (hS : S w)
    (h : wpAnyH P md ops Q S fuel (listed.setIfInBounds i true) (a.put (some d) v) w) : wpAnyH P md ops Q S (fuel + 1) listed a w :=
  wpAnyH_take hi hs hf hr hQ hy hS (by rw [hd]; exact h)
theorem OwnB.src {w : World} {base hb : Nat} {v : Value} {l : List UInt8} (h : OwnB w base v l) (hlt : hb < base) (hl : l.length ≤ 4611686018427387904) : ∃ A c, v = .slice A l.length c ∧ Src w hb A l c := by
  rcases h.parts with ⟨rfl, rfl⟩ | ⟨g, cap, rfl, h1, h2, h3, h4, h5, _⟩
  · exact ⟨none, 0, rfl, by simp, by omega, by simp, fun hp => by simp at hp⟩
  · exact ⟨_, cap, rfl, h3, by unfold maxLen at h4; omega, hl, fun _ => ⟨g, 0, rfl, h2, by omega, h5⟩⟩
theorem TabA.grown {w w' : World} {row : Option Nat} (h : TabA w) (hg : w.grownBy w' row) (hne : some 4 ≠ row) : TabA w' := fun j hj => hg.cell (h j hj) hne
theorem HashAt.state {w : World} {b : Nat} {s : St} {rest : List UInt8} {n : Nat} (h : HashAt w b s rest n) : w.rangeAt b 0 s.cells := by
  obtain ⟨t, h1, _⟩ := h
  exact h1.blk.state
set_option maxRecDepth 100000 in
set_option maxHeartbeats 2000000 in
theorem sumH_any (hb : Nat) (s : St) (rest : List UInt8) (n : Nat) (w : World) (h : HashAt w hb s rest n) (hT : TabA w) :
    Calls Tryz.prog 71 #[.pointer (some ⟨hb, 0, none⟩)] w fun e w' => ∃ v', e = .returned v' ∧ OwnB w' w.heap.size v' (wbs (stOf s (rest ++ padl n)).list) ∧ Below w.heap.size w w' := by
  have hlt := h.lt
  have HA := Lib.hid h
  have hG := tab_lt hT
  have HT := Lib.hid hT; clear hT
  obtain ⟨t, h1, h2⟩ := h
  have hz := zero_hash
  have HI := Lib.hid h1; clear h1
  have H2 := Lib.hid h2; clear h2
  have HL := Lib.hid (show (hcells s t n).toArray.size = 73 by rw [List.size_toArray, hcells_length _ _ _ HI.out.len])
  go_enter Tryz.func71, Tryz.ntmps71
  go_wp2_with (first
    | ((with_reducible refine wpList_load_mid ?a1 139 (.tmp 7) ?a2 hb 0 ?a3 (hcells s t n) _ HI.out.range Tryz.underlying139 ?a4 ?a5 ?_); (case a1 => rfl); (case a2 => rfl); (case a3 => rfl); (case a4 => rfl); (case a5 => rw [hcells_length _ _ _ HI.out.len]; exact info_h))
    | ((with_reducible refine wpList_store_mid ?b1 139 (.tmp 3) (.tmp 8) ?b2 w.heap.size 0 (hcells s t n).toArray ?b3 ?b4 ?b5 ?b6 (hcells_one s t n) ?_); (case b1 => rfl); (case b2 => rfl); (case b3 => rfl); (case b4 => rfl); (case b5 => rw [HL.out]; exact (Blk.newAt (cs := hzero) _ _ _ rfl rfl).there 0 73 (by decide)); (case b6 => rw [HL.out]; exact info_h); (have hA1 : HashAt ((w.alloc (.cells hzero.toArray 139)).setCells w.heap.size 0 (hcells s t n)) w.heap.size s rest n ∧ Below w.heap.size w ((w.alloc (.cells hzero.toArray 139)).setCells w.heap.size 0 (hcells s t n)) := ⟨⟨t, ⟨(Blk.newAt (cs := hzero) _ _ _ rfl rfl).setAll (by rw [hcells_length _ _ _ HI.out.len]; decide), HI.out.len⟩, H2.out⟩, below_setCells (Nat.le_refl _) _ ((Below.refl _ _).alloc (Nat.le_refl _) _) 0⟩); (generalize World.setCells _ _ _ _ = W1 at hA1 ⊢); (have HA1 := Lib.hid hA1.1); (have HB1 := Lib.hid hA1.2); (clear hA1); (have hct : W1.cell? ⟨hb, 72, none⟩ = some (.int .u64 (un n)) := (HB1.out.cell (p := ⟨hb, 72, none⟩) hlt).trans (HI.out.blk.at (hcells_total s t n HI.out.len)))))
  clear hz
  refine (padding_any n W1).mono ?_
  rintro e w2 ⟨v2, rfl, hO2, hB2⟩
  have hw1 := HA1.out.lt
  obtain ⟨A2, c2, rfl, hS2⟩ := hO2.src (hb := w.heap.size) hw1 (by rw [padl_length]; omega)
  have HS2 := Lib.hid hS2; clear hS2 hO2
  have HB2 := Lib.hid (HB1.out.trans (hB2.mono HB1.out.size))
  have HA2 := Lib.hid (HA1.out.below hB2 hw1); clear hB2
  go_wp2_with fail
  refine (write_any w.heap.size s rest n A2 c2 (padl n) w2 HA2.out HS2.out (HT.out.below HB2.out hG) (by omega)).mono ?_
  rintro e w3 ⟨rfl, hA3, hg3⟩
  have HB3 := Lib.hid (HB2.out.grown hg3 HB2.out.size (fun k e => by cases e; exact Nat.le_refl _))
  have HA3 := Lib.hid hA3
  have hw3 := hA3.lt
  clear hA3 hg3
  obtain ⟨S', hS'⟩ : ∃ S', S' = stOf s (rest ++ padl n) := ⟨_, rfl⟩
  rw [← hS'] at HA3
  have HS' := Lib.hid hS'; clear hS'
  go_wp2_with fail
  refine wp_region_noPanic ?_
  refine wp_region_held (S := fun w' => w'.rangeAt w.heap.size 0 S'.cells) (by kernel_rfl) ?_
  change wpAnyH _ _ _ _ _ _ _ _ w3.drew
  have hS0 : w3.drew.rangeAt w.heap.size 0 S'.cells := HA3.out.state
  refine takeH 1 16 (Value.pointer (some ⟨w.heap.size, 0, none⟩)) rfl rfl (by kernel_rfl) (by kernel_rfl) (by kernel_rfl) (fun _ _ _ h => h) rfl (fun w' hS => by go_simp) hS0 ?_
  go_frame
  refine takeHY 2 17 (Value.agg S'.cells.toArray) rfl rfl (by kernel_rfl) (by kernel_rfl) (by kernel_rfl) (fun _ _ _ h => h) (yieldsIf_load_mid rfl 136 (.tmp 16) rfl w.heap.size 0 rfl S'.cells _ (fun _ h => h) Tryz.underlying136 rfl info_w8) hS0 ?_
  go_frame
  refine wpAnyH_all (rs := [0]) (by kernel_rfl) (by simp) ?_
  simp only [List.mem_singleton, forall_eq]
  have hmk : (Instr.makeSlice 49 (.int .i64 0) (.int .i64 32)).run Tryz.prog w3.drew = .ok (.slice (some ⟨w3.heap.size, 0, none⟩) 0 32) (w3.alloc (.cells (noughts 32) 5)).drew := make_bytes 0 32 (by omega) (by omega) w3.drew
  refine wpOp_runD 15 rfl rfl rfl (.slice (some ⟨w3.heap.size, 0, none⟩) 0 32) (w' := (w3.alloc (.cells (noughts 32) 5)).drew) (by go_simp) ?_
  clear hmk
  have hO4 : OwnB (w3.alloc (.cells (noughts 32) 5)).drew w3.heap.size (.slice (some ⟨w3.heap.size, 0, none⟩) 0 32) [] := OwnB.of_heap (Nat.le_refl _) (heap_alloc_new w3 _) (noughts_size _) (by unfold maxLen; omega) rfl (by simp) (by omega)
  have hB4 : Below w3.heap.size w3 (w3.alloc (.cells (noughts 32) 5)).drew := ((Below.refl _ _).alloc (Nat.le_refl _) _).drew
  have hs4 : w3.heap.size < (w3.alloc (.cells (noughts 32) 5)).drew.heap.size := by simp
  generalize (w3.alloc (.cells (noughts 32) 5)).drew = w4 at hO4 hB4 hs4 ⊢
  have hA4 := HA3.out.below hB4 hw3
  refine ⟨hA4.state, ?_⟩
  go_frame
  refine wpAnyH_all (rs := [3]) (by kernel_rfl) (by simp) ?_
  simp only [List.mem_singleton, forall_eq]
  refine wpOp_callD 18 rfl rfl rfl 94 #[.slice (some ⟨w3.heap.size, 0, none⟩) 0 32, .agg S'.cells.toArray] (by go_simp) ?_
  refine (appendWords_any w3.heap.size _ [] S' w4 hO4 (by simp) (by omega)).mono ?_
  rintro e w5 ⟨v5, rfl, hO5, hB5⟩
  rw [List.nil_append] at hO5
  refine ⟨_, rfl, (hA4.below hB5 hw3).state, ?_⟩
  go_frame
  refine takeH 4 2 v5 rfl rfl (by kernel_rfl) (by kernel_rfl) (by kernel_rfl) (fun _ _ _ h => h) rfl (fun w' hS => by go_simp) (hA4.below hB5 hw3).state ?_
  go_frame
  refine wpAnyH_done (by kernel_rfl) ?_ _
  refine NoPanic.normal ?_
  have HO5 := Lib.hid hO5; clear hO5 hS0
  have HB5 := Lib.hid (HB3.out.trans ((hB4.trans hB5).mono (Nat.le_of_lt hw3))); clear hB4 hB5 hA4 hO4
  go_wp2_with fail
  go_ret
  exact ⟨_, rfl, by rw [← HS'.out]; exact HO5.out.lower (Nat.le_of_lt hw3), HB5.out⟩
end Go.Proofs.YtoehkhbppmgfkaaGreatDoor
namespace Go.Proofs.YtoehkhbppmgfkaaGreatDoor
open Go.RowKit
theorem Sls.below {w w' : World} {B B' : Nat} {v : Value} {ls : List (List UInt8)} (h : Sls w B v ls) (hb : Below B' w w') (hB : B ≤ B') : Sls w' B v ls := by
  obtain ⟨A, c, rfl, h1, h2, h3⟩ := h
  refine ⟨A, c, rfl, h1, h2, fun hp => ?_⟩
  obtain ⟨b, o, rfl, hlt, hx⟩ := h3 hp
  refine ⟨b, o, rfl, hlt, fun j hj => ?_⟩
  obtain ⟨vj, hc, hs⟩ := hx j hj
  exact ⟨vj, (hb.cell (p := ⟨b, o + j, none⟩) (by show b < B'; omega)).trans hc, hs.below hb hB⟩
theorem Sl.src {w : World} {B hb : Nat} {v : Value} {l : List UInt8} (h : Sl w B v l) (hB : B ≤ hb) (hw : B ≤ w.heap.size) (hl : l.length ≤ 4611686018427387904) : ∃ A c, v = .slice A l.length c ∧ Src w hb A l c := by
  obtain ⟨A, c, rfl, _, h1, h2, h3⟩ := h
  refine ⟨A, c, rfl, h1, h2, hl, fun hp => ?_⟩
  obtain ⟨b, o, rfl, hlt, hbs⟩ := h3 hp
  exact ⟨b, o, rfl, by omega, by omega, hbs⟩
theorem sumM_any (hb : Nat) (m : List UInt8) (w : World) (h : HashM w hb m) (hT : TabA w) :
    Calls Tryz.prog 71 #[.pointer (some ⟨hb, 0, none⟩)] w fun e w' => ∃ v', e = .returned v' ∧ OwnB w' w.heap.size v' (sumL m) ∧ Below w.heap.size w w' := by
  refine (sumH_any hb _ _ _ w h hT).mono ?_
  rintro e w' ⟨v', he, hO, hB⟩
  rw [stOf_feed] at hO
  unfold sumL
  exact ⟨v', he, hO, hB⟩
set_option maxRecDepth 100000 in
set_option maxHeartbeats 2000000 in
theorem shaSum_any (v : Value) (ls : List (List UInt8)) (w : World) (hs : Sls w w.heap.size v ls) (hl : ∀ l ∈ ls, l.length ≤ 1000000) (hT : TabA w) :
    Calls Tryz.prog 46 #[v] w fun e w' => ∃ v', e = .returned v' ∧ OwnB w' w.heap.size v' (sumL ls.flatten) ∧ Below w.heap.size w w' := by
  have HS := Lib.hid hs
  have hG := tab_lt hT
  have HT := Lib.hid hT; clear hT
  have HL := Lib.hid hl; clear hl
  obtain ⟨A, c, rfl, k1, k2, k3⟩ := hs
  have H3 := Lib.hid k3; clear k3
  go_enter Tryz.func46, Tryz.ntmps46
  go_wp2_with fail
  refine (new_any w).mono ?_
  rintro e w1 ⟨rfl, hM, hB⟩
  have HM := Lib.hid hM; clear hM
  have HB := Lib.hid hB; clear hB
  go_wp2_with fail
  go_loopw [9] (fun i wr => ∃ k : Nat, k ≤ ls.length ∧ i = .int .i64 k ∧ HashM wr w.heap.size (ls.take k).flatten ∧ Below w.heap.size w wr) (fun i _ => ls.length - (intOf i).toNat)
  case atStart => exact ⟨0, by omega, rfl, HM.out, HB.out⟩
  case round =>
    obtain ⟨k, hk, rfl, hM2, hB2⟩ := hrel
    have HM2 := Lib.hid hM2; clear hM2
    have HB2 := Lib.hid hB2; clear hB2
    by_cases hlt : k < ls.length
    · obtain ⟨b, o, rfl, hb, hx⟩ := H3.out (by omega)
      obtain ⟨vj, hc, hsl⟩ := hx k hlt
      have hcell : wr.cell? ⟨b, o + k, none⟩ = some vj := (HB2.out.cell (p := ⟨b, o + k, none⟩) hb).trans hc
      obtain ⟨l, hll⟩ : ∃ l, l = ls[k] := ⟨_, rfl⟩
      have hl1 : l.length ≤ 4611686018427387904 := by have := HL.out ls[k] (List.getElem_mem _); rw [hll]; omega
      rw [← hll] at hsl
      obtain ⟨A1, c1, rfl, hsr⟩ := (hsl.below HB2.out (Nat.le_refl _)).src (hb := w.heap.size) (Nat.le_refl _) HB2.out.size hl1
      have HSR := Lib.hid hsr
      have HF : Hid ((ls.take (k + 1)).flatten = (ls.take k).flatten ++ l) := Lib.hid (by rw [List.take_succ_eq_append_getElem hlt, List.flatten_append, hll]; simp)
      clear hx hc hsl hsr hll
      go_wp2_with fail
      refine (write_m w.heap.size _ A1 c1 l wr HM2.out HSR.out (HT.out.below HB2.out hG) (by omega)).mono ?_
      rintro e w3 ⟨rfl, hM3, hg3⟩
      have HM3 := Lib.hid hM3; clear hM3
      have HB3 := Lib.hid (HB2.out.grown hg3 HB2.out.size (fun k e => by cases e; exact Nat.le_refl _)); clear hg3
      go_wp2_with fail
      go_roundw
      case rel => exact ⟨k + 1, by omega, by go_num, by rw [HF.out]; exact HM3.out, HB3.out⟩
      case measure => simp [intOf]; omega
    · obtain rfl : k = ls.length := by omega
      rw [List.take_length] at HM2
      go_wp2_with fail
      refine (sumM_any w.heap.size _ wr HM2.out (HT.out.below HB2.out hG)).mono ?_
      rintro e w3 ⟨v3, rfl, hO3, hB3⟩
      have HO3 := Lib.hid hO3; clear hO3
      have HB3 := Lib.hid (HB2.out.trans (hB3.mono HB2.out.size)); clear hB3
      go_wp2_with fail
      go_ret
      exact ⟨_, rfl, HO3.out.lower HB2.out.size, HB3.out⟩
end Go.Proofs.YtoehkhbppmgfkaaGreatDoor
namespace Go.Proofs.YtoehkhbppmgfkaaGreatDoor
open Go.RowKit
def kz : List Int := [1116352408, 1899447441, 3049323471, 3921009573, 961987163, 1508970993, 2453635748, 2870763221, 3624381080, 310598401, 607225278, 1426881987, 1925078388, 2162078206, 2614888103, 3248222580, 3835390401, 4022224774, 264347078, 604807628, 770255983, 1249150122, 1555081692, 1996064986, 2554220882, 2821834349, 2952996808, 3210313671, 3336571891, 3584528711, 113926993, 338241895, 666307205, 773529912, 1294757372, 1396182291, 1695183700, 1986661051, 2177026350, 2456956037, 2730485921, 2820302411, 3259730800, 3345764771, 3516065817, 3600352804, 4094571909, 275423344, 430227734, 506948616, 659060556, 883997877, 958139571, 1322822218, 1537002063, 1747873779, 1955562222, 2024104815, 2227730452, 2361852424, 2428436474, 2756734187, 3204031479, 3329325298]
theorem kz_KL (j : Nat) (h : j < 64) : kz.getD j 0 = wn (KL.getD j 0) := by
  have : ∀ j : Fin 64, kz.getD j.val 0 = wn (KL.getD j.val 0) := by decide +kernel
  exact this ⟨j, h⟩
theorem kz_rows {H : Type} : (Rows.laid_ostiary_sha_roundConstants : DataW H) = Lib.tabData .u32 kz := rfl
theorem tab_of_reads {P : Program} {W : World} {name : String} {k : IntKind} {zs : List Int} {g : Nat} {t e : TypeId} {n : Nat}
    (hg : P.globalNamed name = some g) (hty : (P.globals[g]?).map (·.type) = some t) (ht : P.underlying t = some (.array n e)) (he : P.underlying e = some (.int k)) (hce : P.cellsOf e = 1) (hct : P.cellsOf t = n)
    (h : Lib.VarReads P W name (Lib.tabData k zs)) : Lib.TabIs P W name k zs := by
  obtain ⟨g', t', cs, fuel, p, hg', ht', hvar, hd⟩ := h
  obtain rfl := Option.some.inj (hg.symm.trans hg')
  obtain rfl := Option.some.inj (hty.symm.trans ht')
  unfold Lib.TabIs
  rw [hvar, ← Lib.cells_of_tab ht he hce hct hd]
theorem tabA_of_laid {laid : List (String × DataW Unit)} {W : World} (h : laidMetH Tryz.prog laid W) (hp : (laid.all fun x => x.2.handleName?.isNone) = true) (hm : ("ostiary/sha.roundConstants", Rows.laid_ostiary_sha_roundConstants) ∈ laid) : TabA W := by
  rw [MakeChecks.laidMetH_plain _ _ _ hp] at h
  have hr := Lib.laidMet.reads h hm
  rw [kz_rows] at hr
  have ht := tab_of_reads (g := 4) (t := 152) (e := 90) (n := 64) (by kernel_rfl) (by kernel_rfl) Tryz.underlying152 Tryz.underlying90 (by kernel_rfl) (by kernel_rfl) hr
  intro j hj
  rw [ht.cell (by kernel_rfl) j hj, kz_KL j hj]
end Go.Proofs.YtoehkhbppmgfkaaGreatDoor
