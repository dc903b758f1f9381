/- What Go's operations on words of 32 bits and on bytes compute, said of bit vectors. Nothing of the program is imported. -/
import Derived.WalkKit
import Derived.WalkSpells
namespace Go.Proofs.YteadncmhcbdicaaDoor
open Go.RowKit

/-- A word of 32 bits as a number: a plain def, so that the walk's simp does not look into it. -/
def wn (x : BitVec 32) : Int := (x.toNat : Int)
/-- A byte as a number. -/
def bn (x : UInt8) : Int := (x.toNat : Int)
/-- A word of 32 bits as a value. -/
abbrev vw (x : BitVec 32) : Value := .int .u32 (wn x)
/-- A byte as a value. -/
abbrev vb (x : UInt8) : Value := .int .u8 (bn x)

theorem wn_range (x : BitVec 32) : 0 ≤ wn x ∧ wn x < 4294967296 := ⟨Int.natCast_nonneg _, by have := x.isLt; unfold wn; omega⟩
theorem bn_range (x : UInt8) : 0 ≤ bn x ∧ bn x < 256 := ⟨Int.natCast_nonneg _, by have := x.toNat_lt; unfold bn; omega⟩
theorem bn_inj {x y : UInt8} (h : bn x = bn y) : x = y := by unfold bn at h; exact UInt8.toNat_inj.1 (by omega)
theorem wn_inj {x y : BitVec 32} (h : wn x = wn y) : x = y := by unfold wn at h; exact BitVec.eq_of_toNat_eq (by omega)

theorem ofInt_wn (x : BitVec 32) : BitVec.ofInt 32 (wn x) = x := by
  unfold wn; rw [BitVec.ofInt_natCast, BitVec.ofNat_toNat, BitVec.setWidth_eq]
theorem ofInt_bn (x : UInt8) : BitVec.ofInt 8 (bn x) = x.toBitVec := by
  unfold bn; rw [BitVec.ofInt_natCast]; apply BitVec.eq_of_toNat_eq; rw [BitVec.toNat_ofNat]; exact Nat.mod_eq_of_lt x.toNat_lt
theorem wrap_wn (n : Int) : IntKind.u32.wrap n = wn (BitVec.ofInt 32 n) := by
  unfold wn; rw [IntKind.wrap_u32, BitVec.toNat_ofInt]; omega
theorem wrap_toNat (x : BitVec 32) : IntKind.u32.wrap (x.toNat : Int) = wn x := by rw [IntKind.wrap_u32]; have := x.isLt; unfold wn; omega
theorem bv_and (x y : BitVec 32) : bits .and .u32 (wn x) (wn y) = wn (x &&& y) := by
  show IntKind.u32.wrap ((BitVec.ofInt 32 (wn x) &&& BitVec.ofInt 32 (wn y)).toNat : Int) = _
  rw [ofInt_wn, ofInt_wn, wrap_toNat]
theorem bv_or (x y : BitVec 32) : bits .or .u32 (wn x) (wn y) = wn (x ||| y) := by
  show IntKind.u32.wrap ((BitVec.ofInt 32 (wn x) ||| BitVec.ofInt 32 (wn y)).toNat : Int) = _
  rw [ofInt_wn, ofInt_wn, wrap_toNat]
theorem bv_xor (x y : BitVec 32) : bits .xor .u32 (wn x) (wn y) = wn (x ^^^ y) := by
  show IntKind.u32.wrap ((BitVec.ofInt 32 (wn x) ^^^ BitVec.ofInt 32 (wn y)).toNat : Int) = _
  rw [ofInt_wn, ofInt_wn, wrap_toNat]
theorem bv_not (x : BitVec 32) : bits .xor .u32 IntKind.u32.max (wn x) = wn (~~~ x) := by
  show IntKind.u32.wrap ((BitVec.ofInt 32 IntKind.u32.max ^^^ BitVec.ofInt 32 (wn x)).toNat : Int) = _
  rw [ofInt_wn, show BitVec.ofInt 32 IntKind.u32.max = BitVec.allOnes 32 from by decide, BitVec.allOnes_xor, wrap_toNat]
theorem bv_add (x y : BitVec 32) : IntKind.u32.wrap (wn x + wn y) = wn (x + y) := by
  unfold wn; rw [IntKind.wrap_u32, BitVec.toNat_add]; omega
theorem bv_mod2 (x y : BitVec 32) : (wn x + wn y) % (4294967296 : Int) = wn (x + y) := by rw [← bv_add, IntKind.wrap_u32]
theorem bv_mod3 (x y z : BitVec 32) : (wn x + wn y + wn z) % (4294967296 : Int) = wn (x + y + z) := by rw [← bv_mod2 (x + y), ← bv_mod2 x y, Int.emod_add_emod]
theorem bv_mod4 (x y z v : BitVec 32) : (wn x + wn y + wn z + wn v) % (4294967296 : Int) = wn (x + y + z + v) := by rw [← bv_mod2 (x + y + z), ← bv_mod3 x y z, Int.emod_add_emod]
theorem bv_mod5 (x y z v u : BitVec 32) : (wn x + wn y + wn z + wn v + wn u) % (4294967296 : Int) = wn (x + y + z + v + u) := by rw [← bv_mod2 (x + y + z + v), ← bv_mod4 x y z v, Int.emod_add_emod]
/-- A shift to the left by n. -/
theorem bv_shl (x : BitVec 32) (n : Nat) : IntKind.u32.wrap (wn x * 2 ^ n) = wn (x <<< n) := by
  unfold wn; rw [IntKind.wrap_u32, BitVec.toNat_shiftLeft, Nat.shiftLeft_eq, Int.natCast_emod, Int.natCast_mul, Int.natCast_pow]; rfl
theorem bv_shr (x : BitVec 32) (n : Nat) : wn x / 2 ^ n = wn (x >>> n) := by
  unfold wn; rw [BitVec.toNat_ushiftRight, Nat.shiftRight_eq_div_pow, Int.natCast_ediv, Int.natCast_pow]; rfl
theorem bv_shl' (x : BitVec 32) (n : Nat) : wn x * 2 ^ n % 4294967296 = wn (x <<< n) := by rw [← bv_shl, IntKind.wrap_u32]
theorem bv_shr3 (x : BitVec 32) : wn x / (8 : Int) = wn (x >>> 3) := bv_shr x 3
theorem bv_shr8 (x : BitVec 32) : wn x / (256 : Int) = wn (x >>> 8) := bv_shr x 8
theorem bv_shr10 (x : BitVec 32) : wn x / (1024 : Int) = wn (x >>> 10) := bv_shr x 10
theorem bv_shr16 (x : BitVec 32) : wn x / (65536 : Int) = wn (x >>> 16) := bv_shr x 16
theorem bv_shr24 (x : BitVec 32) : wn x / (16777216 : Int) = wn (x >>> 24) := bv_shr x 24
theorem bv_rotr (x : BitVec 32) (n : Nat) (hn : n < 32) : x >>> n ||| x <<< (32 - n) = x.rotateRight n := by
  rw [BitVec.rotateRight_def, Nat.mod_eq_of_lt hn]
theorem bv_rotl (x : BitVec 32) (n : Nat) (hn : n < 32) : x <<< (32 - n) ||| x >>> n = x.rotateRight n := by
  rw [BitVec.or_comm, bv_rotr x n hn]
theorem shift_shl_wn (x : BitVec 32) (n : Nat) (hn : n < 32) (k : IntKind) : Op.shift .shl .u32 (wn x) k (n : Int) = pure (vw (x <<< n)) := by
  rw [shift_shl_any _ _ _ _ (by omega), show min ((n : Int)).toNat (IntKind.u32.bits) = n from by show min _ 32 = _; omega, bv_shl]
theorem shift_shr_wn (x : BitVec 32) (n : Nat) (hn : n < 32) (k : IntKind) : Op.shift .shr .u32 (wn x) k (n : Int) = pure (vw (x >>> n)) := by
  rw [shift_shr_any _ _ _ _ (by omega), show min ((n : Int)).toNat (IntKind.u32.bits) = n from by show min _ 32 = _; omega, bv_shr]
/-- A word's lowest byte. -/
theorem wrap_u8_wn (x : BitVec 32) : IntKind.u8.wrap (wn x) = bn (UInt8.ofNat x.toNat) := by
  unfold wn bn; rw [IntKind.wrap_u8, UInt8.toNat_ofNat']; omega
/-- A byte as a word. -/
def bw (b : UInt8) : BitVec 32 := BitVec.ofNat 32 b.toNat
theorem wn_bw (b : UInt8) : wn (bw b) = bn b := by
  unfold wn bw bn; rw [BitVec.toNat_ofNat]; have := b.toNat_lt; omega
theorem wrap_bn (b : UInt8) : IntKind.u32.wrap (bn b) = wn (bw b) := by rw [wn_bw, IntKind.wrap_u32]; have := bn_range b; omega
theorem ret_int {k : IntKind} {a b : Int} (h : a = b) : Ending.returned (.int k a) = .returned (.int k b) := by rw [h]
/-- A byte as a word, moved to the left, in the walk's spelling. -/
theorem bn_mod (b : UInt8) : bn b % 4294967296 = wn (bw b) := by rw [← wrap_bn, IntKind.wrap_u32]
theorem bv_shl8 (x : BitVec 32) : wn x * (256 : Int) % (4294967296 : Int) = wn (x <<< 8) := bv_shl' x 8
theorem bv_shl16 (x : BitVec 32) : wn x * (65536 : Int) % (4294967296 : Int) = wn (x <<< 16) := bv_shl' x 16
theorem bv_shl24 (x : BitVec 32) : wn x * (16777216 : Int) % (4294967296 : Int) = wn (x <<< 24) := bv_shl' x 24
end Go.Proofs.YteadncmhcbdicaaDoor
