/- What Go's operations on words of 32 bits and on bytes compute, said of bit vectors. Nothing of the program is imported. Blocks of memory known whole, slices of bytes, and what is kept. Nothing of the program is imported. Slices of bytes of the call's own: made, appended to (XApp without the texts on SHA-256). Slices of bytes that are read, nil or not; strings out of them. From one world to another nothing has turned but some blocks (table's Trn, by itself). SHA-256 as functions on lists of words and bytes. Nothing of the program is imported. A message that comes part by part: its state and its rest. Nothing of the program is imported. Words, numbers and hashes as bytes. Nothing of the program is imported. A slice's bytes further on; the head of a slice. -/
import Derived.WalkKit
import Derived.WalkSpells
import Derived.Maps.AppendAt
import Derived.Deep.MidRow
import Derived.Deep.Draws
import Derived.Test.YtlnjpmpddomjiaaGreatDoorRows
import Derived.Lib.Hide
import Derived.IntWalk
import Derived.Laws.CopyOwn
import Derived.Laws.IdiomStrings
import Derived.Laws.BytesString
import Derived.Laws.AppendOwnNone
namespace Go.Proofs.YtlnjpmpddomjiaaGreatDoor
open Go.RowKit

/-- A word of 32 bits as a number: a plain def, so that the walk's simp does not look into it. -/
def wn (x : BitVec 32) : Int := (x.toNat : Int)
/-- A byte as a number. -/
def bn (x : UInt8) : Int := (x.toNat : Int)
/-- A word of 32 bits as a value. -/
abbrev vw (x : BitVec 32) : Value := .int .u32 (wn x)
/-- A byte as a value. -/
abbrev vb (x : UInt8) : Value := .int .u8 (bn x)

theorem wn_range (x : BitVec 32) : 0 ≤ wn x ∧ wn x < 4294967296 := ⟨Int.natCast_nonneg _, by have := x.isLt; unfold wn; omega⟩
theorem bn_range (x : UInt8) : 0 ≤ bn x ∧ bn x < 256 := ⟨Int.natCast_nonneg _, by have := x.toNat_lt; unfold bn; omega⟩
theorem bn_inj {x y : UInt8} (h : bn x = bn y) : x = y := by unfold bn at h; exact UInt8.toNat_inj.1 (by omega)
theorem wn_inj {x y : BitVec 32} (h : wn x = wn y) : x = y := by unfold wn at h; exact BitVec.eq_of_toNat_eq (by omega)

theorem ofInt_wn (x : BitVec 32) : BitVec.ofInt 32 (wn x) = x := by
  unfold wn; rw [BitVec.ofInt_natCast, BitVec.ofNat_toNat, BitVec.setWidth_eq]
theorem ofInt_bn (x : UInt8) : BitVec.ofInt 8 (bn x) = x.toBitVec := by
  unfold bn; rw [BitVec.ofInt_natCast]; apply BitVec.eq_of_toNat_eq; rw [BitVec.toNat_ofNat]; exact Nat.mod_eq_of_lt x.toNat_lt
theorem wrap_wn (n : Int) : IntKind.u32.wrap n = wn (BitVec.ofInt 32 n) := by
  unfold wn; rw [IntKind.wrap_u32, BitVec.toNat_ofInt]; omega
theorem wrap_toNat (x : BitVec 32) : IntKind.u32.wrap (x.toNat : Int) = wn x := by rw [IntKind.wrap_u32]; have := x.isLt; unfold wn; omega
theorem bv_and (x y : BitVec 32) : bits .and .u32 (wn x) (wn y) = wn (x &&& y) := by
  show IntKind.u32.wrap ((BitVec.ofInt 32 (wn x) &&& BitVec.ofInt 32 (wn y)).toNat : Int) = _
  rw [ofInt_wn, ofInt_wn, wrap_toNat]
theorem bv_or (x y : BitVec 32) : bits .or .u32 (wn x) (wn y) = wn (x ||| y) := by
  show IntKind.u32.wrap ((BitVec.ofInt 32 (wn x) ||| BitVec.ofInt 32 (wn y)).toNat : Int) = _
  rw [ofInt_wn, ofInt_wn, wrap_toNat]
theorem bv_xor (x y : BitVec 32) : bits .xor .u32 (wn x) (wn y) = wn (x ^^^ y) := by
  show IntKind.u32.wrap ((BitVec.ofInt 32 (wn x) ^^^ BitVec.ofInt 32 (wn y)).toNat : Int) = _
  rw [ofInt_wn, ofInt_wn, wrap_toNat]
theorem bv_not (x : BitVec 32) : bits .xor .u32 IntKind.u32.max (wn x) = wn (~~~ x) := by
  show IntKind.u32.wrap ((BitVec.ofInt 32 IntKind.u32.max ^^^ BitVec.ofInt 32 (wn x)).toNat : Int) = _
  rw [ofInt_wn, show BitVec.ofInt 32 IntKind.u32.max = BitVec.allOnes 32 from by decide, BitVec.allOnes_xor, wrap_toNat]
theorem bv_add (x y : BitVec 32) : IntKind.u32.wrap (wn x + wn y) = wn (x + y) := by
  unfold wn; rw [IntKind.wrap_u32, BitVec.toNat_add]; omega
theorem bv_mod2 (x y : BitVec 32) : (wn x + wn y) % (4294967296 : Int) = wn (x + y) := by rw [← bv_add, IntKind.wrap_u32]
theorem bv_mod3 (x y z : BitVec 32) : (wn x + wn y + wn z) % (4294967296 : Int) = wn (x + y + z) := by rw [← bv_mod2 (x + y), ← bv_mod2 x y, Int.emod_add_emod]
theorem bv_mod4 (x y z v : BitVec 32) : (wn x + wn y + wn z + wn v) % (4294967296 : Int) = wn (x + y + z + v) := by rw [← bv_mod2 (x + y + z), ← bv_mod3 x y z, Int.emod_add_emod]
theorem bv_mod5 (x y z v u : BitVec 32) : (wn x + wn y + wn z + wn v + wn u) % (4294967296 : Int) = wn (x + y + z + v + u) := by rw [← bv_mod2 (x + y + z + v), ← bv_mod4 x y z v, Int.emod_add_emod]
/-- A shift to the left by n. -/
theorem bv_shl (x : BitVec 32) (n : Nat) : IntKind.u32.wrap (wn x * 2 ^ n) = wn (x <<< n) := by
  unfold wn; rw [IntKind.wrap_u32, BitVec.toNat_shiftLeft, Nat.shiftLeft_eq, Int.natCast_emod, Int.natCast_mul, Int.natCast_pow]; rfl
theorem bv_shr (x : BitVec 32) (n : Nat) : wn x / 2 ^ n = wn (x >>> n) := by
  unfold wn; rw [BitVec.toNat_ushiftRight, Nat.shiftRight_eq_div_pow, Int.natCast_ediv, Int.natCast_pow]; rfl
theorem bv_shl' (x : BitVec 32) (n : Nat) : wn x * 2 ^ n % 4294967296 = wn (x <<< n) := by rw [← bv_shl, IntKind.wrap_u32]
theorem bv_shr3 (x : BitVec 32) : wn x / (8 : Int) = wn (x >>> 3) := bv_shr x 3
theorem bv_shr8 (x : BitVec 32) : wn x / (256 : Int) = wn (x >>> 8) := bv_shr x 8
theorem bv_shr10 (x : BitVec 32) : wn x / (1024 : Int) = wn (x >>> 10) := bv_shr x 10
theorem bv_shr16 (x : BitVec 32) : wn x / (65536 : Int) = wn (x >>> 16) := bv_shr x 16
theorem bv_shr24 (x : BitVec 32) : wn x / (16777216 : Int) = wn (x >>> 24) := bv_shr x 24
theorem bv_rotr (x : BitVec 32) (n : Nat) (hn : n < 32) : x >>> n ||| x <<< (32 - n) = x.rotateRight n := by
  rw [BitVec.rotateRight_def, Nat.mod_eq_of_lt hn]
theorem bv_rotl (x : BitVec 32) (n : Nat) (hn : n < 32) : x <<< (32 - n) ||| x >>> n = x.rotateRight n := by
  rw [BitVec.or_comm, bv_rotr x n hn]
theorem shift_shl_wn (x : BitVec 32) (n : Nat) (hn : n < 32) (k : IntKind) : Op.shift .shl .u32 (wn x) k (n : Int) = pure (vw (x <<< n)) := by
  rw [shift_shl_any _ _ _ _ (by omega), show min ((n : Int)).toNat (IntKind.u32.bits) = n from by show min _ 32 = _; omega, bv_shl]
theorem shift_shr_wn (x : BitVec 32) (n : Nat) (hn : n < 32) (k : IntKind) : Op.shift .shr .u32 (wn x) k (n : Int) = pure (vw (x >>> n)) := by
  rw [shift_shr_any _ _ _ _ (by omega), show min ((n : Int)).toNat (IntKind.u32.bits) = n from by show min _ 32 = _; omega, bv_shr]
/-- A word's lowest byte. -/
theorem wrap_u8_wn (x : BitVec 32) : IntKind.u8.wrap (wn x) = bn (UInt8.ofNat x.toNat) := by
  unfold wn bn; rw [IntKind.wrap_u8, UInt8.toNat_ofNat']; omega
/-- A byte as a word. -/
def bw (b : UInt8) : BitVec 32 := BitVec.ofNat 32 b.toNat
theorem wn_bw (b : UInt8) : wn (bw b) = bn b := by
  unfold wn bw bn; rw [BitVec.toNat_ofNat]; have := b.toNat_lt; omega
theorem wrap_bn (b : UInt8) : IntKind.u32.wrap (bn b) = wn (bw b) := by rw [wn_bw, IntKind.wrap_u32]; have := bn_range b; omega
theorem ret_int {k : IntKind} {a b : Int} (h : a = b) : Ending.returned (.int k a) = .returned (.int k b) := by rw [h]
/-- A byte as a word, moved to the left, in the walk's spelling. -/
theorem bn_mod (b : UInt8) : bn b % 4294967296 = wn (bw b) := by rw [← wrap_bn, IntKind.wrap_u32]
theorem bv_shl8 (x : BitVec 32) : wn x * (256 : Int) % (4294967296 : Int) = wn (x <<< 8) := bv_shl' x 8
theorem bv_shl16 (x : BitVec 32) : wn x * (65536 : Int) % (4294967296 : Int) = wn (x <<< 16) := bv_shl' x 16
theorem bv_shl24 (x : BitVec 32) : wn x * (16777216 : Int) % (4294967296 : Int) = wn (x <<< 24) := bv_shl' x 24
end Go.Proofs.YtlnjpmpddomjiaaGreatDoor
namespace Go.Proofs.YtlnjpmpddomjiaaGreatDoor
open Go.RowKit

/-- Block b is a row of the cells cs, none of them barred from being written. -/
def Blk (w : World) (b : Nat) (cs : List Value) : Prop := ∃ t, w.heap[b]? = some (.cells cs.toArray t (0, 0))
section
variable {w w' : World} {b : Nat} {cs : List Value}
theorem Blk.cell (h : Blk w b cs) (o : Nat) : w.cell? ⟨b, o, none⟩ = cs[o]? := by obtain ⟨t, h⟩ := h; simp [World.cell?, h]
theorem Blk.at (h : Blk w b cs) {o : Nat} {v : Value} (hv : cs[o]? = some v) : w.cell? ⟨b, o, none⟩ = some v := (h.cell o).trans hv
theorem Blk.free (h : Blk w b cs) (o : Nat) : w.frozen? ⟨b, o, none⟩ = false := by obtain ⟨t, h⟩ := h; simp [World.frozen?, h]
theorem Blk.lt (h : Blk w b cs) : b < w.heap.size := by
  obtain ⟨t, h⟩ := h; exact (Array.getElem?_eq_some_iff.1 h).1
theorem Blk.set (h : Blk w b cs) (o : Nat) (v : Value) : Blk (w.setCell ⟨b, o, none⟩ v) b (cs.set o v) := by
  obtain ⟨t, h⟩ := h; refine ⟨t, ?_⟩; simp only [World.setCell]; rw [Array.getElem?_modify, if_pos rfl, h]; simp
theorem Blk.setOther (h : Blk w b cs) {a : Addr} (ha : a.block ≠ b) (v : Value) : Blk (w.setCell a v) b cs := by
  obtain ⟨t, h⟩ := h; exact ⟨t, (Below.heap_setCell w a v b (Ne.symm ha)).trans h⟩
theorem Blk.alloc (h : Blk w b cs) (o : Obj) : Blk (w.alloc o) b cs := by
  have hl := h.lt; obtain ⟨t, h⟩ := h; exact ⟨t, (Below.heap_alloc w o b hl).trans h⟩
theorem Blk.new (w : World) (cs : List Value) (t : TypeId) : Blk (w.alloc (.cells cs.toArray t)) w.heap.size cs := ⟨t, heap_alloc_new w _⟩
theorem Blk.newA (w : World) (c : Array Value) (t : TypeId) : Blk (w.alloc (.cells c t)) w.heap.size c.toList := ⟨t, by simpa using heap_alloc_new w (.cells c t)⟩
theorem Blk.newAt (w : World) (c : Array Value) (t : TypeId) {n : Nat} {cs : List Value} (hn : n = w.heap.size) (hc : c.toList = cs) : Blk (w.alloc (.cells c t)) n cs := by subst hn; subst hc; exact Blk.newA w c t
theorem Blk.drewN (h : Blk w b cs) (n : Nat) : Blk (w.drewN n) b cs := h
theorem Blk.drew (h : Blk w b cs) : Blk w.drew b cs := h
theorem Blk.grown {row : Option Nat} (h : Blk w b cs) (hg : w.grownBy w' row) (hne : some b ≠ row) : Blk w' b cs := by
  have hl := h.lt; obtain ⟨t, h⟩ := h; exact ⟨t, (hg.block b hl hne).trans h⟩
theorem Blk.below {B : Nat} (h : Blk w b cs) (hb : Below B w w') (hB : b < B) : Blk w' b cs := by
  obtain ⟨t, h⟩ := h; exact ⟨t, (hb.block b hB).trans h⟩
theorem Blk.range (h : Blk w b cs) (o n : Nat) : w.rangeAt b o ((cs.drop o).take n) := by
  intro j v hv
  rw [h.cell]
  rw [List.getElem?_take] at hv
  split at hv
  · rw [List.getElem?_drop] at hv; exact hv
  · cases hv
theorem Blk.there (h : Blk w b cs) (o n : Nat) (hn : o + n ≤ cs.length) : w.there b o n := by
  intro j hj
  exact ⟨by rw [h.cell, List.getElem?_eq_getElem (by omega)]; rfl, h.free _⟩
theorem Blk.setCells {vs : List Value} : ∀ {w : World} {cs : List Value} (_ : Blk w b cs) (o : Nat) (_ : o + vs.length ≤ cs.length), Blk (w.setCells b o vs) b (cs.take o ++ vs ++ cs.drop (o + vs.length)) := by
  induction vs with
  | nil => intro w cs h o _; simpa [World.setCells] using h
  | cons v vs ih =>
    intro w cs h o hl
    simp only [List.length_cons] at hl
    have h1 := ih (h.set o v) (o + 1) (by simp; omega)
    have e : (cs.set o v).take (o + 1) ++ vs ++ (cs.set o v).drop (o + 1 + vs.length) = cs.take o ++ v :: vs ++ cs.drop (o + (v :: vs).length) := by
      rw [List.take_set, List.drop_set_of_lt (by omega), List.take_succ_eq_append_getElem (by omega), List.set_append_right _ _ (by simp; omega)]
      simp [Nat.min_eq_left (show o ≤ cs.length by omega), show o + 1 + vs.length = o + (vs.length + 1) by omega]
    rw [← e]; exact h1
theorem Blk.setAll {vs : List Value} (h : Blk w b cs) (hl : vs.length = cs.length) : Blk (w.setCells b 0 vs) b vs := by
  have := h.setCells (vs := vs) 0 (by omega)
  simpa [hl] using this
theorem Blk.heap (h : Blk w b cs) : ∃ t, w.heap[b]? = some (.cells cs.toArray t (0, 0)) := h
end
theorem below_setCells {B : Nat} {b : Nat} (hB : B ≤ b) (vs : List Value) : ∀ {a w : World} (_ : Below B a w) (o : Nat), Below B a (w.setCells b o vs) := by
  induction vs with
  | nil => intro a w h o; exact h
  | cons v vs ih => intro a w h o; exact ih (h.setCell (p := ⟨b, o, none⟩) hB v) (o + 1)

theorem grown_of_below {w w' : World} (h : Below w.heap.size w w') (row : Option Nat) : w.grownBy w' row := ⟨h.os, h.tape, h.output, h.size, fun k hk _ => h.block k hk⟩
theorem below_of_grown {w w' : World} (h : w.grownBy w' none) : Below w.heap.size w w' := ⟨h.os, h.tape, h.output, h.size, fun k hk => h.block k hk (by simp)⟩
theorem below_drewN {B : Nat} {a w : World} (h : Below B a w) (n : Nat) : Below B a (w.drewN n) := ⟨h.os, h.tape, h.output, h.size, h.block⟩
theorem grown_drewN {a w : World} {row : Option Nat} (h : a.grownBy w row) (n : Nat) : a.grownBy (w.drewN n) row := ⟨h.os, h.tape, h.output, h.size, h.block⟩
theorem grown_below {a b c : World} {row : Option Nat} (h : a.grownBy b row) (k : Below b.heap.size b c) : a.grownBy c row := h.trans (grown_of_below k row)
theorem grown_set (w : World) (a : Addr) (v : Value) : w.grownBy (w.setCell a v) (some a.block) :=
  ⟨rfl, rfl, rfl, by simp, fun k _ hk => Below.heap_setCell w a v k (fun e => hk (by rw [e]))⟩

theorem grown_setCells (b : Nat) (vs : List Value) : ∀ (w : World) (o : Nat), w.grownBy (w.setCells b o vs) (some b) := by
  induction vs with
  | nil => intro w o; exact World.grownBy.refl w _
  | cons v vs ih => intro w o; exact (grown_set w ⟨b, o, none⟩ v).trans (ih _ (o + 1))

/-- The bytes l lie in block b from o on. -/
def Bs (w : World) (b o : Nat) (l : List UInt8) : Prop := ∀ j (h : j < l.length), w.cell? ⟨b, o + j, none⟩ = some (vb l[j])
theorem Bs.below {w w' : World} {b o : Nat} {l : List UInt8} {B : Nat} (h : Bs w b o l) (hb : Below B w w') (hB : b < B) : Bs w' b o l := fun j hj => (hb.cell (p := ⟨b, o + j, none⟩) hB).trans (h j hj)
theorem Bs.grown {w w' : World} {b o : Nat} {l : List UInt8} {row : Option Nat} (h : Bs w b o l) (hg : w.grownBy w' row) (hne : some b ≠ row) : Bs w' b o l := fun j hj => hg.cell (h j hj) hne
theorem Bs.getD {w : World} {b o : Nat} {l : List UInt8} (h : Bs w b o l) {j : Nat} (hj : j < l.length) : w.cell? ⟨b, o + j, none⟩ = some (vb (l.getD j 0)) := by
  rw [h j hj, List.getD_eq_getElem?_getD, List.getElem?_eq_getElem hj]; rfl
theorem Bs.getD2 {w : World} {b o : Nat} {l : List UInt8} (h : Bs w b o l) {j i : Nat} (hj : j + i < l.length) : w.cell? ⟨b, o + j + i, none⟩ = some (vb (l.getD (j + i) 0)) := by
  rw [Nat.add_assoc]; exact h.getD hj
theorem Bs.drop {w : World} {b o : Nat} {l : List UInt8} (h : Bs w b o l) (n : Nat) : Bs w b (o + n) (l.drop n) := fun j hj => by
  have := h (n + j) (by simp at hj; omega)
  rw [List.getElem_drop, Nat.add_assoc]; exact this
theorem Bs.take {w : World} {b o : Nat} {l : List UInt8} (h : Bs w b o l) (n : Nat) : Bs w b o (l.take n) := fun j hj => by
  rw [List.getElem_take]; exact h j (by simp at hj; omega)
theorem Bs.of_blk {w : World} {b : Nat} {l : List UInt8} {cs : List Value} (h : Blk w b cs) (o : Nat) (he : ∀ j (hj : j < l.length), cs[o + j]? = some (vb l[j])) : Bs w b o l := fun j hj => (h.cell _).trans (he j hj)
end Go.Proofs.YtlnjpmpddomjiaaGreatDoor
namespace Go.Proofs.YtlnjpmpddomjiaaGreatDoor
open Go.RowKit

theorem info_b : (Tryz.prog.info? 5).map (fun i => (i.zero, i.size, i.bytes)) = some (some (.int .u8 0), 1, 1) := by kernel_rfl
theorem info_b1 : (Tryz.prog.info? 5).map (·.size) = some 1 := by kernel_rfl
/-- The slice v of bytes is the call's own (its block lies from base on, or it is nil), and holds l. -/
def OwnB (w : World) (base : Nat) (v : Value) (l : List UInt8) : Prop := w.ownsRow base 5 1 v l.length (l.map vb)
theorem OwnB.nil (w : World) (base : Nat) : OwnB w base (.slice none 0 0) [] := World.ownsRow_nil w base _ 1
theorem OwnB.parts {w : World} {base : Nat} {v : Value} {l : List UInt8} (h : OwnB w base v l) :
    (v = .slice none 0 0 ∧ l = []) ∨ ∃ g cap, v = .slice (some ⟨g, 0, none⟩) l.length cap ∧ base ≤ g ∧ g < w.heap.size ∧ l.length ≤ cap ∧ cap ≤ maxLen ∧ Bs w g 0 l ∧ (∀ j, w.frozen? ⟨g, j, none⟩ = false) := by
  obtain ⟨h1, h2 | ⟨g, cap, cur, rfl, hb, hg, hc, hm, hs, ht⟩⟩ := h
  · exact .inl ⟨h2.1, List.eq_nil_of_length_eq_zero h2.2⟩
  · refine .inr ⟨g, cap, rfl, hb, (Array.getElem?_eq_some_iff.1 hg).1, hc, hm, fun j hj => ?_, fun j => by simp [World.frozen?, hg]⟩
    have hj' : j < cur.size := by omega
    have e : cur[j]? = some (vb l[j]) := by
      have := congrArg (fun x : List Value => x[j]?) ht
      simp only [List.getElem?_map, List.getElem?_eq_getElem hj, List.getElem?_take, Option.map_some] at this
      rw [if_pos (by omega)] at this
      simpa using this
    simp [World.cell?, hg, e]
theorem OwnB.form {w : World} {base : Nat} {v : Value} {l : List UInt8} (h : OwnB w base v l) (hl : 0 < l.length) :
    ∃ g cap, v = .slice (some ⟨g, 0, none⟩) l.length cap ∧ base ≤ g ∧ g < w.heap.size ∧ l.length ≤ cap ∧ cap ≤ maxLen ∧ Bs w g 0 l ∧ (∀ j, w.frozen? ⟨g, j, none⟩ = false) := by
  rcases h.parts with ⟨_, rfl⟩ | h
  · simp at hl
  · exact h
theorem OwnB.kept {w w' : World} {base : Nat} {v : Value} {l : List UInt8} {row : Option Nat} (h : OwnB w base v l) (hg : w.grownBy w' row) (hne : v.ownBlock = none ∨ v.ownBlock ≠ row) : OwnB w' base v l := World.ownsRow.kept h hg hne
theorem OwnB.below {w w' : World} {base : Nat} {v : Value} {l : List UInt8} (h : OwnB w base v l) (hb : Below w.heap.size w w') : OwnB w' base v l :=
  h.kept (grown_of_below hb none) (by cases hv : v.ownBlock <;> simp)
theorem OwnB.lower {w : World} {base base' : Nat} {v : Value} {l : List UInt8} (h : OwnB w base v l) (hb : base' ≤ base) : OwnB w base' v l := by
  obtain ⟨h1, h2 | ⟨g, cap, cur, rfl, hb', hg⟩⟩ := h
  · exact ⟨h1, .inl h2⟩
  · exact ⟨h1, .inr ⟨g, cap, cur, rfl, by omega, hg⟩⟩
theorem OwnB.lt {w : World} {base : Nat} {v : Value} {l : List UInt8} (h : OwnB w base v l) : ∀ k, v.ownBlock = some k → base ≤ k ∧ k < w.heap.size := World.ownsRow.lt h
/-- What an append leaves below base is as it was. -/
theorem OwnB.belowBase {w w' : World} {base : Nat} {v : Value} {l : List UInt8} (h : OwnB w base v l) (hg : w.grownBy w' v.ownBlock) (hb : base ≤ w.heap.size) : Below base w w' :=
  (Below.refl _ _).grown hg hb (fun k hk => (h.lt k hk).1)

/-- The row of a new slice of bytes. -/
def noughts (n : Nat) : Array Value := (List.replicate n (vb 0)).toArray
theorem noughts_size (n : Nat) : (noughts n).size = n := by unfold noughts; simp
theorem noughts_at (n i : Nat) (h : i < n) : (noughts n)[i]? = some (vb 0) := by unfold noughts; simp [h]
theorem make_bytes (L C : Nat) (h : L ≤ C) (hC : C ≤ 1099511627776) (W : World) :
    (Instr.makeSlice 34 (.int .i64 (L : Int)) (.int .i64 (C : Int))).run Tryz.prog W = .ok (.slice (some ⟨W.heap.size, 0, none⟩) L C) (W.alloc (.cells (noughts C) 5)) := by
  obtain ⟨i0, hi, hz0, hz1, hz2⟩ := info_parts info_b
  have hr := run_make (P := Tryz.prog) W 34 5 i0 (.int .u8 0) Tryz.underlying34 hi hz0 .i64 .i64 L C (by omega) (by omega) (by rw [hz2]; omega) (by omega)
  simp only [Int.toNat_natCast, hz1, Nat.mul_one, Value.cells] at hr
  rw [hr]
  have e : madeCells #[Value.int .u8 0] C = noughts C := by
    apply Array.toList_inj.1
    rw [toList_madeCells_one]; rfl
  rw [e]
theorem noughts_list (n : Nat) : (noughts n).toList = List.replicate n (vb 0) := rfl
attribute [irreducible] noughts
/-- A whole row known by its heap's entry is owned. -/
theorem OwnB.of_heap {w : World} {base g cap n : Nat} {cur : Array Value} {l : List UInt8} (hb : base ≤ g) (hg : w.heap[g]? = some (.cells cur 5 (0, 0))) (hc : cur.size = cap) (hm : cap ≤ maxLen) (hn : l.length = n) (hl : cur.toList.take n = l.map vb) (hnc : n ≤ cap) :
    OwnB w base (.slice (some ⟨g, 0, none⟩) n cap) l := by
  subst hn
  exact ⟨by simp, .inr ⟨g, cap, cur, rfl, hb, hg, hnc, hm, by simp [hc], by simpa using hl⟩⟩

section
variable {w : World} {ops : Array Oper} {rest : List Oper} {o : Oper} {a : Act} {Q : Exit → Act → World → Prop}
theorem wpList_app (hgd : o.guard = none) (s x : Operand) (ho : o.op = .call { callee := .builtin .append, args := #[s, x], argTypes := #[34, 34] })
    (base : Nat) (v : Value) (l ms : List UInt8) (hs : a.eval s = v) (hown : OwnB w base v l) (sb so m c : Nat) (hx : a.eval x = .slice (some ⟨sb, so, none⟩) m c) (hm : ms.length = m) (hsrc : Bs w sb so ms)
    (hlen : l.length + m ≤ 1099511627776) (hbase : base ≤ w.heap.size)
    (h : ∀ v' w', OwnB w' base v' (l ++ ms) → w.grownBy w' v.ownBlock → wpList Tryz.prog ops Q rest (a.put o.dst v') w') : wpList Tryz.prog ops Q (o :: rest) a w := by
  obtain ⟨i0, hi, hz0, hz1, hz2⟩ := info_parts info_b
  refine wpList_append_own w hgd s x 34 ho base 5 i0 (.int .u8 0) 1 1 Tryz.underlying34 hi hz0 hz1 hz2 rfl (by decide) v l.length (l.map vb) hs hown ⟨sb, so, none⟩ m c (ms.map vb) hx (by simp [hm]) ?_ ?_ (by unfold maxLen; omega) (by omega) hbase ?_
  · intro j u hu
    rw [Addr.add_mid]
    rw [List.getElem?_map] at hu
    by_cases hj : j < ms.length
    · rw [List.getElem?_eq_getElem hj] at hu; cases hu; exact hsrc j hj
    · rw [List.getElem?_eq_none (by omega)] at hu; cases hu
  · intro u hu; rw [List.mem_map] at hu; obtain ⟨b, _, rfl⟩ := hu; rfl
  · intro v' w' h1 h2 _
    refine h v' w' ?_ h2
    unfold OwnB
    rw [List.length_append, hm, List.map_append]
    exact h1
/-- copy: the row of the destination is written from off on. -/
theorem wpList_copy_to {P : Program} (hgd : o.guard = none) (d s : Operand) (dT sT : TypeId)
    (ho : o.op = .call { callee := .builtin .copy, args := #[d, s], argTypes := #[dT, sT] }) (elem : TypeId) (hu : P.underlying dT = some (.slice elem)) (hsz : (P.info? elem).map (·.size) = some 1)
    (dp sp : Option Addr) (dLen dCap sLen sCap : Nat) (hd : a.eval d = .slice dp dLen dCap) (hs : a.eval s = .slice sp sLen sCap)
    (g off : Nat) (cs : List Value) (hn : cs.length = Nat.min sLen dLen)
    (hpos : 0 < cs.length → dp = some ⟨g, off, none⟩ ∧ ∃ sb so, sp = some ⟨sb, so, none⟩ ∧ w.rangeAt sb so cs)
    (ht : w.there g off cs.length) (h1 : ∀ v ∈ cs, v.oneCell' = true)
    (h : wpList P ops Q rest (a.put o.dst (goInt cs.length)) (w.setCells g off cs)) : wpList P ops Q (o :: rest) a w := by
  by_cases h0 : cs.length = 0
  · obtain rfl : cs = [] := List.eq_nil_of_length_eq_zero h0
    exact wpList_copy_nothing hgd d s dT sT ho elem hu hsz dp sp dLen dCap sLen sCap hd hs (by simpa using hn.symm) h
  · obtain ⟨rfl, sb, so, rfl, hsrc⟩ := hpos (by omega)
    refine wpList_plain hgd fun K hK => ?_
    have hrun := run_copy_cells (P := P) w dT sT o.type elem g off dLen dCap ⟨sb, so, none⟩ sLen sCap cs hu hsz hn (fun j v hv => by rw [Addr.add_mid]; exact hsrc j v hv) (fun j hj => (ht j hj).1) (fun j hj => (ht j hj).2) h1
    unfold Oper.wp
    simp [execOp, ho, resolve, invoke, builtin, hd, hs, hrun, Result.andThen]
    exact hK _ _ h
end
theorem oneCell_bytes (l : List UInt8) : ∀ v ∈ l.map vb, v.oneCell' = true := by
  intro v hv; rw [List.mem_map] at hv; obtain ⟨x, _, rfl⟩ := hv; rfl
theorem Bs.rangeAt {w : World} {b o : Nat} {l : List UInt8} (h : Bs w b o l) : w.rangeAt b o (l.map vb) := by
  intro j v hv
  rw [List.getElem?_map] at hv
  by_cases hj : j < l.length
  · rw [List.getElem?_eq_getElem hj] at hv; cases hv; exact h j hj
  · rw [List.getElem?_eq_none (by omega)] at hv; cases hv
theorem Bs.of_rangeAt {w : World} {b o : Nat} {l : List UInt8} (h : w.rangeAt b o (l.map vb)) : Bs w b o l := fun j hj => h j _ (by rw [List.getElem?_map, List.getElem?_eq_getElem hj]; rfl)
end Go.Proofs.YtlnjpmpddomjiaaGreatDoor
namespace Go.Proofs.YtlnjpmpddomjiaaGreatDoor
open Go.RowKit

/-- The slice v, nil or not, holds the bytes l, in a block below B. -/
def Sl (w : World) (B : Nat) (v : Value) (l : List UInt8) : Prop :=
  ∃ A c, v = .slice A l.length c ∧ (A = none → c = 0) ∧ l.length ≤ c ∧ c ≤ 9223372036854775807 ∧ (0 < l.length → ∃ b o, A = some ⟨b, o, none⟩ ∧ b < B ∧ Bs w b o l)
theorem Sl.below {w w' : World} {B B' : Nat} {v : Value} {l : List UInt8} (h : Sl w B v l) (hb : Below B' w w') (hB : B ≤ B') : Sl w' B v l := by
  obtain ⟨A, c, rfl, h0, h1, h2, h3⟩ := h
  refine ⟨A, c, rfl, h0, h1, h2, fun hl => ?_⟩
  obtain ⟨b, o, rfl, hlt, hbs⟩ := h3 hl
  exact ⟨b, o, rfl, hlt, hbs.below hb (by omega)⟩
theorem Sl.more {w : World} {B B' : Nat} {v : Value} {l : List UInt8} (h : Sl w B v l) (hB : B ≤ B') : Sl w B' v l := by
  obtain ⟨A, c, rfl, h0, h1, h2, h3⟩ := h
  refine ⟨A, c, rfl, h0, h1, h2, fun hl => ?_⟩
  obtain ⟨b, o, rfl, hlt, hbs⟩ := h3 hl
  exact ⟨b, o, rfl, by omega, hbs⟩
theorem OwnB.sl {w : World} {base : Nat} {v : Value} {l : List UInt8} (h : OwnB w base v l) : Sl w w.heap.size v l := by
  rcases h.parts with ⟨rfl, rfl⟩ | ⟨g, cap, rfl, _, hg, hc, hm, hbs, _⟩
  · exact ⟨none, 0, rfl, fun _ => rfl, by simp, by omega, fun h => by simp at h⟩
  · exact ⟨_, cap, rfl, (fun h => by cases h), hc, by unfold maxLen at hm; omega, fun _ => ⟨g, 0, rfl, hg, hbs⟩⟩
/-- The first k bytes. -/
theorem Sl.take {w : World} {B : Nat} {v : Value} {l : List UInt8} (h : Sl w B v l) (k : Nat) (hk : k ≤ l.length) : ∃ A c, v = .slice A l.length c ∧ k ≤ c ∧ l.length ≤ c ∧ c ≤ 9223372036854775807 ∧ Sl w B (.slice A k c) (l.take k) := by
  obtain ⟨A, c, rfl, h0, h1, h2, h3⟩ := h
  have e : (l.take k).length = k := by rw [List.length_take]; omega
  refine ⟨A, c, rfl, by omega, h1, h2, A, c, by rw [e], h0, by omega, h2, fun hl => ?_⟩
  obtain ⟨b, o, rfl, hlt, hbs⟩ := h3 (by omega)
  exact ⟨b, o, rfl, hlt, hbs.take k⟩

/-- The string of the bytes l. -/
abbrev str (l : List UInt8) : Value := .string ⟨l.toArray⟩
theorem conv_zero (w : World) (A : Option Addr) (c : Nat) : (convert 34 9 (.slice A 0 c)).run Tryz.prog w = .ok (str []) w := by
  rw [run_convert_bytes_string w 34 9 5 A 0 c Tryz.underlying34 Tryz.underlying5 Tryz.underlying9]
  cases A <;> simp [Conv.bytesToString, loadCells]
  all_goals rfl
theorem conv_sl {w : World} {B : Nat} {v : Value} {l : List UInt8} (h : Sl w B v l) : (convert 34 9 v).run Tryz.prog w = .ok (str l) w := by
  obtain ⟨A, c, rfl, _, h1, h2, h3⟩ := h
  by_cases h0 : l.length = 0
  · obtain rfl : l = [] := List.eq_nil_of_length_eq_zero h0
    exact conv_zero w A c
  · obtain ⟨b, o, rfl, hlt, hbs⟩ := h3 (by omega)
    exact run_convert_bytes_back (P := Tryz.prog) w 34 9 5 ⟨b, o, none⟩ c l Tryz.underlying34 Tryz.underlying5 Tryz.underlying9 (fun j hj => by
      rw [Addr.add_mid]; exact hbs j hj)
theorem wpList_app_sl {w : World} {ops : Array Oper} {rest : List Oper} {o : Oper} {a : Act} {Q : Exit → Act → World → Prop} (hgd : o.guard = none) (s x : Operand) (ho : o.op = .call { callee := .builtin .append, args := #[s, x], argTypes := #[34, 34] })
    (base : Nat) (v : Value) (l ms : List UInt8) (hs : a.eval s = v) (hown : OwnB w base v l) (B : Nat) (vx : Value) (hx : a.eval x = vx) (hsrc : Sl w B vx ms)
    (hlen : l.length + ms.length ≤ 1099511627776) (hbase : base ≤ w.heap.size)
    (h : ∀ v' w', OwnB w' base v' (l ++ ms) → w.grownBy w' v.ownBlock → wpList Tryz.prog ops Q rest (a.put o.dst v') w') : wpList Tryz.prog ops Q (o :: rest) a w := by
  obtain ⟨A, c, rfl, h0, h1, h2, h3⟩ := hsrc
  obtain ⟨i0, hi, hz0, hz1, hz2⟩ := info_parts info_b
  cases A with
  | none =>
    obtain rfl := h0 rfl
    obtain rfl : ms = [] := List.eq_nil_of_length_eq_zero (by omega)
    exact wpList_append_own_none hgd s x 34 ho base 5 i0 1 Tryz.underlying34 hi v l.length (l.map vb) hs hown hx (h v w (by simpa using hown) (World.grownBy.refl w _))
  | some ad =>
    refine wpList_append_own w hgd s x 34 ho base 5 i0 (.int .u8 0) 1 1 Tryz.underlying34 hi hz0 hz1 hz2 rfl (by decide) v l.length (l.map vb) hs hown ad ms.length c (ms.map vb) hx (by simp) ?_ ?_ (by unfold maxLen; omega) (by omega) hbase ?_
    · intro j u hu
      rw [List.getElem?_map] at hu
      by_cases hj : j < ms.length
      · obtain ⟨b, o, e, _, hbs⟩ := h3 (by omega)
        obtain rfl := Option.some.inj e
        rw [Addr.add_mid]
        rw [List.getElem?_eq_getElem hj] at hu; cases hu; exact hbs j hj
      · rw [List.getElem?_eq_none (by omega)] at hu; cases hu
    · intro u hu; rw [List.mem_map] at hu; obtain ⟨b, _, rfl⟩ := hu; rfl
    · intro v' w' g1 g2 _
      refine h v' w' ?_ g2
      unfold OwnB
      rw [List.length_append, List.map_append]
      exact g1
end Go.Proofs.YtlnjpmpddomjiaaGreatDoor
namespace Go.Proofs.YtlnjpmpddomjiaaGreatDoor
open Go.RowKit
/-- From w to w' nothing that was there has turned but blocks of S. -/
structure Trs (S : List Nat) (w w' : World) : Prop where
  os : w'.os = w.os
  tape : w'.tape = w.tape
  output : w'.output = w.output
  size : w.heap.size ≤ w'.heap.size
  block : ∀ k, k < w.heap.size → k ∉ S → w'.heap[k]? = w.heap[k]?
section
variable {S S' : List Nat} {w w1 w' : World}
theorem Trs.refl (S : List Nat) (w : World) : Trs S w w := ⟨rfl, rfl, rfl, Nat.le_refl _, fun _ _ _ => rfl⟩
theorem Trs.trans (h : Trs S w w1) (k : Trs S w1 w') : Trs S w w' :=
  ⟨k.os.trans h.os, k.tape.trans h.tape, k.output.trans h.output, Nat.le_trans h.size k.size, fun i hi hn => (k.block i (Nat.lt_of_lt_of_le hi h.size) hn).trans (h.block i hi hn)⟩
theorem Trs.mono (h : Trs S w w') (hs : ∀ k ∈ S, k ∈ S') : Trs S' w w' := ⟨h.os, h.tape, h.output, h.size, fun k hk hn => h.block k hk (fun e => hn (hs k e))⟩
/-- What is new may turn as well. -/
theorem Trs.less (h : Trs S w w') (hs : ∀ k ∈ S, k ∈ S' ∨ w.heap.size ≤ k) : Trs S' w w' := ⟨h.os, h.tape, h.output, h.size, fun k hk hn => h.block k hk (fun e => by rcases hs k e with h1 | h1; exact hn h1; omega)⟩
theorem Trs.set (h : Trs S w w') {p : Addr} (hp : p.block ∈ S) (u : Value) : Trs S w (w'.setCell p u) :=
  ⟨h.os, h.tape, h.output, by simpa using h.size, fun k hk hn => (Below.heap_setCell w' p u k (fun e => hn (by rw [e]; exact hp))).trans (h.block k hk hn)⟩
theorem Trs.alloc (h : Trs S w w') (o : Obj) : Trs S w (w'.alloc o) :=
  ⟨h.os, h.tape, h.output, Nat.le_trans h.size (by simp), fun k hk hn => (Below.heap_alloc w' o k (Nat.lt_of_lt_of_le hk h.size)).trans (h.block k hk hn)⟩
theorem Trs.grown (h : Trs S w w1) {row : Option Nat} (hg : w1.grownBy w' row) (hr : ∀ k, row = some k → k ∈ S) : Trs S w w' :=
  ⟨hg.os.trans h.os, hg.tape.trans h.tape, hg.output.trans h.output, Nat.le_trans h.size hg.size, fun k hk hn => (hg.block k (Nat.lt_of_lt_of_le hk h.size) (fun e => hn (hr k e.symm))).trans (h.block k hk hn)⟩
theorem Trs.of_below (h : Below w.heap.size w w') : Trs S w w' := ⟨h.os, h.tape, h.output, h.size, fun k hk _ => h.block k hk⟩
theorem Trs.below (h : Trs S w w1) (hb : Below w1.heap.size w1 w') : Trs S w w' := h.trans (Trs.of_below hb)
theorem Trs.drew (h : Trs S w w') : Trs S w w'.drew := ⟨h.os, h.tape, h.output, h.size, h.block⟩
theorem Trs.toBelow (h : Trs S w w') {B : Nat} (hB : B ≤ w.heap.size) (hS : ∀ k ∈ S, B ≤ k) : Below B w w' :=
  ⟨h.os, h.tape, h.output, h.size, fun k hk => h.block k (by omega) (fun e => by have := hS k e; omega)⟩
theorem Trs.blk (h : Trs S w w') {b : Nat} {cs : List Value} (hb : Blk w b cs) (hn : b ∉ S) : Blk w' b cs := by
  have hl := hb.lt
  obtain ⟨t, hb⟩ := hb
  exact ⟨t, (h.block b hl hn).trans hb⟩
end
end Go.Proofs.YtlnjpmpddomjiaaGreatDoor
namespace Go.Proofs.YtlnjpmpddomjiaaGreatDoor

def choose (x y z : BitVec 32) : BitVec 32 := (x &&& y) ^^^ (~~~ x &&& z)
def majority (x y z : BitVec 32) : BitVec 32 := (x &&& y) ^^^ (x &&& z) ^^^ (y &&& z)
def bigSigma0 (x : BitVec 32) : BitVec 32 := x.rotateRight 2 ^^^ x.rotateRight 13 ^^^ x.rotateRight 22
def bigSigma1 (x : BitVec 32) : BitVec 32 := x.rotateRight 6 ^^^ x.rotateRight 11 ^^^ x.rotateRight 25
def smallSigma0 (x : BitVec 32) : BitVec 32 := x.rotateRight 7 ^^^ x.rotateRight 18 ^^^ x >>> 3
def smallSigma1 (x : BitVec 32) : BitVec 32 := x.rotateRight 17 ^^^ x.rotateRight 19 ^^^ x >>> 10
/-- The number that bytes are, the highest first. -/
def num (l : List UInt8) : Nat := l.foldl (fun n b => n * 256 + b.toNat) 0
def word4 (a b c d : UInt8) : BitVec 32 := bw a <<< 24 ||| bw b <<< 16 ||| bw c <<< 8 ||| bw d
/-- The i-th word of a block. -/
def bword (p : List UInt8) (i : Nat) : BitVec 32 := word4 (p.getD (4 * i) 0) (p.getD (4 * i + 1) 0) (p.getD (4 * i + 2) 0) (p.getD (4 * i + 3) 0)
/-- The next word of the schedule, the ones ahead of it being l. -/
def swNext (p : List UInt8) (l : List (BitVec 32)) : BitVec 32 :=
  if l.length < 16 then bword p l.length
  else l.getD (l.length - 16) 0 + smallSigma0 (l.getD (l.length - 15) 0) + l.getD (l.length - 7) 0 + smallSigma1 (l.getD (l.length - 2) 0)
/-- The first k words of the schedule. -/
def sw (p : List UInt8) : Nat → List (BitVec 32)
  | 0 => []
  | k + 1 => let l := sw p k; l ++ [swNext p l]
theorem sw_length (p : List UInt8) (k : Nat) : (sw p k).length = k := by
  induction k with
  | zero => rfl
  | succ k ih => simp [sw, ih]
theorem sw_succ (p : List UInt8) (k : Nat) : sw p (k + 1) = sw p k ++ [swNext p (sw p k)] := rfl
theorem sw_next_lo (p : List UInt8) (k : Nat) (h : k < 16) : swNext p (sw p k) = bword p k := by
  unfold swNext; rw [sw_length, if_pos h]
theorem sw_next_hi (p : List UInt8) (k : Nat) (h : 16 ≤ k) : swNext p (sw p k) = (sw p k).getD (k - 16) 0 + smallSigma0 ((sw p k).getD (k - 15) 0) + (sw p k).getD (k - 7) 0 + smallSigma1 ((sw p k).getD (k - 2) 0) := by
  unfold swNext; rw [sw_length, if_neg (by omega)]
/-- The array of the schedule while it is filled: k words, and noughts. -/
def swArr (p : List UInt8) (k : Nat) : List Value := (sw p k).map vw ++ List.replicate (64 - k) (.int .u32 0)
theorem swArr_length (p : List UInt8) (k : Nat) (h : k ≤ 64) : (swArr p k).length = 64 := by
  unfold swArr; rw [List.length_append, List.length_map, sw_length, List.length_replicate]; omega
theorem swArr_lt (p : List UInt8) (k j : Nat) (h : j < k) : (swArr p k)[j]? = some (vw ((sw p k).getD j 0)) := by
  unfold swArr
  rw [List.getElem?_append_left (by rw [List.length_map, sw_length]; exact h), List.getElem?_map, List.getD_eq_getElem?_getD, List.getElem?_eq_getElem (by rw [sw_length]; exact h)]
  rfl
theorem swArr_at (p : List UInt8) (k : Nat) (h : k < 64) : (swArr p k)[k]? = some (.int .u32 0) := by
  unfold swArr
  rw [List.getElem?_append_right (by rw [List.length_map, sw_length]; exact Nat.le_refl _), List.length_map, sw_length, Nat.sub_self, List.getElem?_replicate, if_pos (by omega)]
theorem swArr_set (p : List UInt8) (k : Nat) (h : k < 64) : (swArr p k).set k (vw (swNext p (sw p k))) = swArr p (k + 1) := by
  unfold swArr
  rw [List.set_append_right _ _ (by rw [List.length_map, sw_length]; exact Nat.le_refl _), List.length_map, sw_length, Nat.sub_self, show 64 - k = (64 - (k + 1)) + 1 from by omega, List.replicate_succ, List.set_cons_zero, sw_succ, List.map_append, List.append_assoc]
  rfl
theorem swArr_zero (p : List UInt8) : swArr p 0 = List.replicate 64 (.int .u32 0) := rfl
theorem swArr_full (p : List UInt8) : swArr p 64 = (sw p 64).map vw := by unfold swArr; exact List.append_nil _
/-- A word for each round. -/
def KL : List (BitVec 32) := [0x428a2f98#32, 0x71374491#32, 0xb5c0fbcf#32, 0xe9b5dba5#32, 0x3956c25b#32, 0x59f111f1#32, 0x923f82a4#32, 0xab1c5ed5#32, 0xd807aa98#32, 0x12835b01#32, 0x243185be#32, 0x550c7dc3#32, 0x72be5d74#32, 0x80deb1fe#32, 0x9bdc06a7#32, 0xc19bf174#32, 0xe49b69c1#32, 0xefbe4786#32, 0x0fc19dc6#32, 0x240ca1cc#32, 0x2de92c6f#32, 0x4a7484aa#32, 0x5cb0a9dc#32, 0x76f988da#32, 0x983e5152#32, 0xa831c66d#32, 0xb00327c8#32, 0xbf597fc7#32, 0xc6e00bf3#32, 0xd5a79147#32, 0x06ca6351#32, 0x14292967#32, 0x27b70a85#32, 0x2e1b2138#32, 0x4d2c6dfc#32, 0x53380d13#32, 0x650a7354#32, 0x766a0abb#32, 0x81c2c92e#32, 0x92722c85#32, 0xa2bfe8a1#32, 0xa81a664b#32, 0xc24b8b70#32, 0xc76c51a3#32, 0xd192e819#32, 0xd6990624#32, 0xf40e3585#32, 0x106aa070#32, 0x19a4c116#32, 0x1e376c08#32, 0x2748774c#32, 0x34b0bcb5#32, 0x391c0cb3#32, 0x4ed8aa4a#32, 0x5b9cca4f#32, 0x682e6ff3#32, 0x748f82ee#32, 0x78a5636f#32, 0x84c87814#32, 0x8cc70208#32, 0x90befffa#32, 0xa4506ceb#32, 0xbef9a3f7#32, 0xc67178f2#32]
/-- The eight words of a state. -/
structure St where
  a : BitVec 32
  b : BitVec 32
  c : BitVec 32
  d : BitVec 32
  e : BitVec 32
  f : BitVec 32
  g : BitVec 32
  h : BitVec 32
def St.list (s : St) : List (BitVec 32) := [s.a, s.b, s.c, s.d, s.e, s.f, s.g, s.h]
abbrev St.cells (s : St) : List Value := [vw s.a, vw s.b, vw s.c, vw s.d, vw s.e, vw s.f, vw s.g, vw s.h]
/-- One round. -/
def rnd (kc wc : BitVec 32) (s : St) : St :=
  ⟨s.h + bigSigma1 s.e + choose s.e s.f s.g + kc + wc + (bigSigma0 s.a + majority s.a s.b s.c), s.a, s.b, s.c, s.d + (s.h + bigSigma1 s.e + choose s.e s.f s.g + kc + wc), s.e, s.f, s.g⟩
/-- The first k rounds. -/
def rnds (l : List (BitVec 32)) (s : St) : Nat → St
  | 0 => s
  | k + 1 => rnd (KL.getD k 0) (l.getD k 0) (rnds l s k)
theorem rnds_zero (l : List (BitVec 32)) (s : St) : rnds l s 0 = s := rfl
theorem rnds_succ (l : List (BitVec 32)) (s : St) (k : Nat) : rnds l s (k + 1) = rnd (KL.getD k 0) (l.getD k 0) (rnds l s k) := rfl
def St.add (s t : St) : St := ⟨s.a + t.a, s.b + t.b, s.c + t.c, s.d + t.d, s.e + t.e, s.f + t.f, s.g + t.g, s.h + t.h⟩
/-- The state behind a block. -/
def compress (s : St) (p : List UInt8) : St := s.add (rnds (sw p 64) s 64)
def St.first : St := ⟨0x6a09e667#32, 0xbb67ae85#32, 0x3c6ef372#32, 0xa54ff53a#32, 0x510e527f#32, 0x9b05688c#32, 0x1f83d9ab#32, 0x5be0cd19#32⟩
attribute [irreducible] rnds compress KL sw swArr swNext num word4
end Go.Proofs.YtlnjpmpddomjiaaGreatDoor
namespace Go.Proofs.YtlnjpmpddomjiaaGreatDoor

/-- The state behind k blocks of q. -/
def runN (s : St) (q : List UInt8) : Nat → St
  | 0 => s
  | k + 1 => compress (runN s q k) ((q.drop (64 * k)).take 64)
theorem runN_zero (s : St) (q : List UInt8) : runN s q 0 = s := rfl
theorem runN_succ (s : St) (q : List UInt8) (k : Nat) : runN s q (k + 1) = compress (runN s q k) ((q.drop (64 * k)).take 64) := rfl
/-- The state behind all whole blocks, and what stands behind them. -/
def stOf (s : St) (q : List UInt8) : St := runN s q (q.length / 64)
def restOf (q : List UInt8) : List UInt8 := q.drop (64 * (q.length / 64))
theorem restOf_length (q : List UInt8) : (restOf q).length = q.length % 64 := by unfold restOf; rw [List.length_drop]; omega
theorem restOf_small (q : List UInt8) (h : q.length < 64) : restOf q = q := by unfold restOf; rw [Nat.div_eq_of_lt h]; rfl
theorem stOf_small (s : St) (q : List UInt8) (h : q.length < 64) : stOf s q = s := by unfold stOf; rw [Nat.div_eq_of_lt h]; rfl
theorem runN_app (s : St) (a b : List UInt8) : ∀ k, 64 * k ≤ a.length → runN s (a ++ b) k = runN s a k := by
  intro k
  induction k with
  | zero => intro _; rfl
  | succ k ih =>
    intro h
    rw [runN_succ, runN_succ, ih (by omega), List.drop_append_of_le_length (by omega), List.take_append_of_le_length (by rw [List.length_drop]; omega)]
theorem runN_add (s : St) (a b : List UInt8) (i : Nat) (h : a.length = 64 * i) : ∀ j, runN s (a ++ b) (i + j) = runN (runN s a i) b j := by
  intro j
  induction j with
  | zero => rw [runN_zero, Nat.add_zero, runN_app _ _ _ _ (by omega)]
  | succ j ih =>
    rw [← Nat.add_assoc, runN_succ, runN_succ, ih, List.drop_append, List.drop_of_length_le (by omega), List.nil_append, show 64 * (i + j) - a.length = 64 * j from by omega]
/-- A text cut at a whole number of blocks. -/
theorem stOf_app (s : St) (a b : List UInt8) (i : Nat) (h : a.length = 64 * i) : stOf s (a ++ b) = stOf (stOf s a) b := by
  unfold stOf
  rw [List.length_append, show (a.length + b.length) / 64 = i + b.length / 64 from by omega, runN_add s a b i h, show a.length / 64 = i from by omega]
theorem restOf_app (a b : List UInt8) (i : Nat) (h : a.length = 64 * i) : restOf (a ++ b) = restOf b := by
  unfold restOf
  rw [List.length_append, List.drop_append, List.drop_of_length_le (by omega), List.nil_append]
  congr 1; omega
theorem split_rest (q : List UInt8) : q.take (64 * (q.length / 64)) ++ restOf q = q := by unfold restOf; exact List.take_append_drop _ _
theorem take_whole (q : List UInt8) : (q.take (64 * (q.length / 64))).length = 64 * (q.length / 64) := by rw [List.length_take]; omega
theorem stOf_take (s : St) (q : List UInt8) : stOf s (q.take (64 * (q.length / 64))) = stOf s q := by
  have h := stOf_app s (q.take (64 * (q.length / 64))) (restOf q) _ (take_whole q)
  rw [split_rest] at h
  rw [h, stOf_small _ (restOf q) (by rw [restOf_length]; omega)]
/-- Feeding goes on as if all had come at once. -/
theorem stOf_feed (s : St) (q p : List UInt8) : stOf (stOf s q) (restOf q ++ p) = stOf s (q ++ p) := by
  have h := stOf_app s (q.take (64 * (q.length / 64))) (restOf q ++ p) _ (take_whole q)
  rw [← List.append_assoc, split_rest] at h
  rw [h, stOf_take]
theorem restOf_feed (q p : List UInt8) : restOf (restOf q ++ p) = restOf (q ++ p) := by
  have h := restOf_app (q.take (64 * (q.length / 64))) (restOf q ++ p) _ (take_whole q)
  rw [← List.append_assoc, split_rest] at h
  exact h.symm
/-- One block, and the rest. -/
theorem stOf_block (s : St) (a b : List UInt8) (h : a.length = 64) : stOf s (a ++ b) = stOf (compress s a) b := by
  rw [stOf_app s a b 1 (by omega)]
  congr 1
  unfold stOf
  rw [h, show 64 / 64 = 1 from rfl, runN_succ, runN_zero, Nat.mul_zero, List.drop_zero, List.take_of_length_le (by omega)]
/-- The fold over the numbers of the whole blocks, from place k on, is the run. -/
theorem fold_runN (s : St) (p : List UInt8) (k : Nat) : ∀ (l : List Nat) (n : Nat), l = List.range n → l.foldl (fun s x => compress s ((p.drop (k + 64 * x)).take 64)) s = runN s (p.drop k) n := by
  intro l n h; subst h
  induction n with
  | zero => rfl
  | succ n ih => rw [List.range_succ, List.foldl_append, ih, List.foldl_cons, List.foldl_nil, runN_succ, List.drop_drop]
attribute [irreducible] runN
end Go.Proofs.YtlnjpmpddomjiaaGreatDoor
namespace Go.Proofs.YtlnjpmpddomjiaaGreatDoor

/-- The last size bytes of a number, the highest first. -/
def be (n : Nat) : Nat → List UInt8
  | 0 => []
  | k + 1 => be (n / 256) k ++ [UInt8.ofNat n]
theorem be_length (n k : Nat) : (be n k).length = k := by
  induction k generalizing n with
  | zero => rfl
  | succ k ih => simp [be, ih]
/-- A word's bytes. -/
def wb (x : BitVec 32) : List UInt8 := [UInt8.ofNat (x >>> 24).toNat, UInt8.ofNat (x >>> 16).toNat, UInt8.ofNat (x >>> 8).toNat, UInt8.ofNat x.toNat]
theorem wb_be (x : BitVec 32) : wb x = be x.toNat 4 := by
  simp only [wb, be, List.nil_append, List.cons_append, BitVec.toNat_ushiftRight, Nat.shiftRight_eq_div_pow, Nat.div_div_eq_div_mul]
theorem be_add (n j k : Nat) : be n (j + k) = be (n / 256 ^ k) j ++ be n k := by
  induction k generalizing n with
  | zero => simp [be]
  | succ k ih => rw [← Nat.add_assoc]; simp only [be]; rw [ih, Nat.div_div_eq_div_mul, List.append_assoc, Nat.pow_succ, Nat.mul_comm 256]
theorem be_mod (n k : Nat) : be (n % 256 ^ k) k = be n k := by
  induction k generalizing n with
  | zero => rfl
  | succ k ih =>
    simp only [be]
    have h1 : n % 256 ^ (k + 1) / 256 = n / 256 % 256 ^ k := by rw [Nat.pow_succ, Nat.mul_comm, Nat.mod_mul_right_div_self]
    have h2 : UInt8.ofNat (n % 256 ^ (k + 1)) = UInt8.ofNat n := by
      apply UInt8.toNat_inj.1
      rw [UInt8.toNat_ofNat', UInt8.toNat_ofNat', Nat.pow_succ, Nat.mul_comm, Nat.mod_mul_right_mod]
    rw [h1, h2, ih]
theorem count_be (n : Nat) : wb (BitVec.ofNat 32 (n % 18446744073709551616 / 4294967296)) ++ wb (BitVec.ofNat 32 n) = be n 8 := by
  have e1 : be (n % 18446744073709551616 / 4294967296 % 2 ^ 32) 4 = be (n / 256 ^ 4) 4 := by
    rw [show (2 : Nat) ^ 32 = 256 ^ 4 from rfl, be_mod, ← be_mod (n / 256 ^ 4), show (256 : Nat) ^ 4 = 4294967296 from rfl]
    have : n % 18446744073709551616 / 4294967296 = n / 4294967296 % 4294967296 := by omega
    rw [this]
  rw [wb_be, wb_be, BitVec.toNat_ofNat, BitVec.toNat_ofNat, e1, show (2 : Nat) ^ 32 = 256 ^ 4 from rfl, be_mod, ← be_add n 4 4]
theorem wb_length (x : BitVec 32) : (wb x).length = 4 := rfl
/-- Words as bytes. -/
def wbs (l : List (BitVec 32)) : List UInt8 := l.flatMap wb
theorem wbs_length (l : List (BitVec 32)) : (wbs l).length = 4 * l.length := by
  induction l with
  | nil => rfl
  | cons x l ih => unfold wbs at ih ⊢; rw [List.flatMap_cons, List.length_append, ih, wb_length, List.length_cons]; omega
theorem wbs_take (l : List (BitVec 32)) (k : Nat) (h : k < l.length) : wbs (l.take (k + 1)) = wbs (l.take k) ++ wb (l.getD k 0) := by
  unfold wbs
  rw [List.take_succ_eq_append_getElem h, List.flatMap_append, List.getD_eq_getElem?_getD, List.getElem?_eq_getElem h]
  simp
/-- What follows a message of n bytes. -/
def padl (n : Nat) : List UInt8 := 128 :: List.replicate ((119 - n % 64) % 64) 0 ++ be (n * 8) 8
theorem padl_length (n : Nat) : (padl n).length = (119 - n % 64) % 64 + 9 := by unfold padl; rw [List.length_append, be_length, List.length_cons, List.length_replicate]
theorem wbs_snoc (l : List (BitVec 32)) (x : BitVec 32) : wbs (l ++ [x]) = wbs l ++ wb x := by unfold wbs; rw [List.flatMap_append]; simp
theorem padl_whole (n : Nat) : (n + (padl n).length) % 64 = 0 := by rw [padl_length]; omega
/-- The hash of a message. -/
def sumL (m : List UInt8) : List UInt8 := wbs (stOf St.first (m ++ padl m.length)).list
theorem sumL_length (m : List UInt8) : (sumL m).length = 32 := by unfold sumL; rw [wbs_length]; rfl
/-- Two digits a byte. -/
def digit (n : Nat) : UInt8 := UInt8.ofNat (if n < 10 then 48 + n else 87 + n)
def hexL (l : List UInt8) : List UInt8 := l.flatMap fun b => [digit (b.toNat / 16), digit (b.toNat % 16)]
theorem hexL_snoc (l : List UInt8) (b : UInt8) : hexL (l ++ [b]) = hexL l ++ [digit (b.toNat / 16), digit (b.toNat % 16)] := by unfold hexL; rw [List.flatMap_append]; simp
theorem hexL_length (l : List UInt8) : (hexL l).length = 2 * l.length := by
  induction l with
  | nil => rfl
  | cons b l ih => unfold hexL at ih ⊢; rw [List.flatMap_cons, List.length_append, ih]; simp; omega
theorem sum_abc : hexL (sumL [97, 98, 99]) = [98, 97, 55, 56, 49, 54, 98, 102, 56, 102, 48, 49, 99, 102, 101, 97, 52, 49, 52, 49, 52, 48, 100, 101, 53, 100, 97, 101, 50, 50, 50, 51, 98, 48, 48, 51, 54, 49, 97, 51, 57, 54, 49, 55, 55, 97, 57, 99, 98, 52, 49, 48, 102, 102, 54, 49, 102, 50, 48, 48, 49, 53, 97, 100] := by decide +kernel
attribute [irreducible] sumL padl hexL digit
end Go.Proofs.YtlnjpmpddomjiaaGreatDoor
set_option maxRecDepth 100000
namespace Go.Proofs.YtlnjpmpddomjiaaGreatDoor
open Go.RowKit
theorem Sl.fwd {w w' : World} {v : Value} {l : List UInt8} (h : Sl w w.heap.size v l) (hb : Below w.heap.size w w') : Sl w' w'.heap.size v l := (h.below hb (Nat.le_refl _)).more hb.size
theorem slice_hB (A : Option Addr) (n c k : Nat) (hk : k ≤ c) (w : World) : (Instr.slice 34 (.slice A n c) none (some (.int .i64 (k : Int))) none).run Tryz.prog w = .ok (.slice A k c) w := by
  rw [run_slice_h w 34 A n c Tryz.underlying34 .i64 k (by omega) (by omega)]
  by_cases h0 : c = 0 <;> simp [sliced, go_sem, h0]
end Go.Proofs.YtlnjpmpddomjiaaGreatDoor
