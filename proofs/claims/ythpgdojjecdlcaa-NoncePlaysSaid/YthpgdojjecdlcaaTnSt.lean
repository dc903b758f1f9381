/- table: a Table in memory: its struct, its map, its chain of entries. -/
import Derived.Test.YthpgdojjecdlcaaMem
import Derived.Test.YthpgdojjecdlcaaRows
import Derived.Maps.OwnSet
import Derived.Maps.OwnIn
import Derived.StringKeys
import Derived.Lib.Hide
namespace Go.Proofs.Ythpgdojjecdlcaa
open Go.RowKit
/-- What a table's values are, and the cells that they lie in. -/
abbrev strT (l : List UInt8) : Value := .string ⟨l.toArray⟩
/-- An entry of a store: its nonce, its tick, whether it is spent, its count. -/
structure VT where
  s : List UInt8
  a : Int
  sp : Bool
  ct : Int
def vv (v : VT) : Value := .agg #[strT v.s, .int .u64 v.a, .bool v.sp, .int .u32 v.ct]
def vcs (v : VT) : List Value := [strT v.s, .int .u64 v.a, .bool v.sp, .int .u32 v.ct]
/-- An entry: its block, its key, its value. -/
structure Nd where
  b : Nat
  key : List UInt8
  v : VT
def pt : Option Nat → Value
  | none => .pointer none
  | some b => .pointer (some ⟨b, 0, none⟩)
theorem pt_none : pt none = .pointer none := rfl
theorem pt_some (b : Nat) : pt (some b) = .pointer (some ⟨b, 0, none⟩) := rfl
def ndC (x : Nd) (p n : Option Nat) : List Value := strT x.key :: (vcs x.v ++ [pt p, pt n])
/-- Block b is a row of type t, of the cells cs, none of them barred from being written. -/
def BlkT (w : World) (b : Nat) (t : TypeId) (cs : List Value) : Prop := w.heap[b]? = some (.cells cs.toArray t (0, 0))
section
variable {w w' : World} {b : Nat} {t : TypeId} {cs : List Value}
theorem BlkT.blk (h : BlkT w b t cs) : Blk w b cs := ⟨t, h⟩
theorem BlkT.at (h : BlkT w b t cs) {o : Nat} {v : Value} (hv : cs[o]? = some v) : w.cell? ⟨b, o, none⟩ = some v := h.blk.at hv
theorem BlkT.free (h : BlkT w b t cs) (o : Nat) : w.frozen? ⟨b, o, none⟩ = false := h.blk.free o
theorem BlkT.lt (h : BlkT w b t cs) : b < w.heap.size := h.blk.lt
theorem BlkT.set (h : BlkT w b t cs) (o : Nat) (v : Value) : BlkT (w.setCell ⟨b, o, none⟩ v) b t (cs.set o v) := by
  unfold BlkT at h ⊢
  have := heap_setCell_same w b o cs.toArray t v h
  simpa using this
theorem BlkT.setOther (h : BlkT w b t cs) {a : Addr} (ha : a.block ≠ b) (v : Value) : BlkT (w.setCell a v) b t cs := (Below.heap_setCell w a v b (fun e => ha e.symm)).trans h
theorem BlkT.alloc (h : BlkT w b t cs) (o : Obj) : BlkT (w.alloc o) b t cs := (Below.heap_alloc w o b h.lt).trans h
theorem BlkT.drew (h : BlkT w b t cs) : BlkT w.drew b t cs := h
theorem BlkT.below {B : Nat} (h : BlkT w b t cs) (hb : Below B w w') (hB : b < B) : BlkT w' b t cs := (hb.block b hB).trans h
theorem BlkT.grown {row : Option Nat} (h : BlkT w b t cs) (hg : w.grownBy w' row) (hne : some b ≠ row) : BlkT w' b t cs := (hg.block b h.lt hne).trans h
end
abbrev tT : TypeId := 100
abbrev tE : TypeId := 108
/-- The first of a list, or what stands behind it; the last, or what stands ahead. -/
def hd : List Nd → Option Nat → Option Nat
  | [], nx => nx
  | y :: _, _ => some y.b
def la : Option Nat → List Nd → Option Nat
  | p, [] => p
  | _, x :: t => la (some x.b) t
/-- Entries in a chain, behind p, ahead of nx. -/
def Chn (w : World) : Option Nat → List Nd → Option Nat → Prop
  | _, [], _ => True
  | p, x :: t, nx => BlkT w x.b tE (ndC x p (hd t nx)) ∧ Chn w (some x.b) t nx
theorem hd_app (l r : List Nd) (nx : Option Nat) : hd (l ++ r) nx = hd l (hd r nx) := by cases l <;> rfl
theorem la_app (r : List Nd) : ∀ (l : List Nd) (p : Option Nat), la p (l ++ r) = la (la p l) r
  | [], _ => rfl
  | x :: t, _ => la_app r t (some x.b)
theorem chn_app {w : World} (r : List Nd) (nx : Option Nat) : ∀ (l : List Nd) (p : Option Nat), Chn w p (l ++ r) nx ↔ Chn w p l (hd r nx) ∧ Chn w (la p l) r nx
  | [], p => by simp [Chn, la]
  | x :: t, p => by
    show (BlkT w x.b tE (ndC x p (hd (t ++ r) nx)) ∧ Chn w (some x.b) (t ++ r) nx) ↔ (BlkT w x.b tE (ndC x p (hd t (hd r nx))) ∧ Chn w (some x.b) t (hd r nx)) ∧ Chn w (la (some x.b) t) r nx
    rw [hd_app, chn_app r nx t (some x.b), and_assoc]
theorem chn_keep {w w' : World} : ∀ (l : List Nd) (p nx : Option Nat), (∀ x ∈ l, w'.heap[x.b]? = w.heap[x.b]?) → Chn w p l nx → Chn w' p l nx
  | [], _, _, _, _ => trivial
  | x :: t, _, nx, h, hc => by
    obtain ⟨h1, h2⟩ := hc
    exact ⟨(h x (List.mem_cons_self ..)).trans h1, chn_keep t (some x.b) nx (fun y hy => h y (List.mem_cons_of_mem _ hy)) h2⟩
theorem chn_lt {w : World} : ∀ (l : List Nd) (p nx : Option Nat), Chn w p l nx → ∀ x ∈ l, x.b < w.heap.size
  | [], _, _, _, x, hx => by simp at hx
  | y :: t, _, nx, hc, x, hx => by
    rcases List.mem_cons.1 hx with rfl | hx
    · exact hc.1.lt
    · exact chn_lt t _ nx hc.2 x hx
theorem la_snoc (l : List Nd) (x : Nd) (p : Option Nat) : la p (l ++ [x]) = some x.b := by rw [la_app]; rfl
/-- How a pointer to an entry reads. -/
def pR : Value → Option (DataW Unit × List MemPlace)
  | .pointer none => some (.nil, [])
  | .pointer (some ⟨g, 0, none⟩) => some (.lit (.int .i64 (g : Int)), [])
  | _ => none
theorem pR_pt (o : Option Nat) : pR (pt o) = some (match o with | none => .nil | some g => .lit (.int .i64 (g : Int)), []) := by cases o <;> rfl
theorem pR_inv {v : Value} {o : Option Nat} {ps : List MemPlace} (h : pR v = some (match o with | none => .nil | some g => .lit (.int .i64 (g : Int)), ps)) : v = pt o := by
  unfold pR at h
  split at h
  · cases o with
    | none => rfl
    | some g => simp at h
  · cases o with
    | none => simp at h
    | some g => simp only [Option.some.injEq, Prod.mk.injEq, DataW.lit.injEq, Lit.int.injEq, true_and] at h; have : _ = g := Int.ofNat.inj h.1; subst this; rfl
  · cases h
/-- The entry of a key. -/
def fnd (xs : List Nd) (k : List UInt8) : Option Nd := xs.find? (fun x => x.key == k)
/-- What a map of a table reads as. -/
structure Idx (xs : List Nd) (D : DataW Unit) : Prop where
  at' : ∀ (k : List UInt8) (z : DataW Unit), D.atKey (.string k) z = match fnd xs k with | none => z | some x => .lit (.int .i64 (x.b : Int))
  size : Maps.size D = xs.length
/-- The Table at block T: its map at block m, its entries. -/
structure Tb (w : World) (T m cap : Nat) (xs : List Nd) : Prop where
  tbl : BlkT w T tT [.int .i64 (cap : Int), .map (some m), pt (hd xs none), pt (la none xs)]
  map : ∃ D, w.ownsMap Try.prog 9 pR m 100000 D ∧ Idx xs D
  chn : Chn w none xs none
  nod : (T :: m :: xs.map (·.b)).Nodup
  keys : (xs.map (·.key)).Nodup
  len : ∀ x ∈ xs, x.key.length ≤ 100000
  cnt : xs.length ≤ cap
  cap : cap ≤ 4096
theorem keyS (k : List UInt8) (h : k.length ≤ 100000) : keyOf Try.prog 9 (strT k) = some (.string k) := by
  have := WideMaps.keyOf_string_mk (P := Try.prog) (k := 9) Try.underlying9 (s := ⟨k.toArray⟩) (by unfold maxLen; simp [ByteArray.size]; omega)
  simpa using this
theorem kLit (k : List UInt8) : WideAt.IsKeyLit (.string k) := trivial
theorem idx_has {xs : List Nd} {D : DataW Unit} (h : Idx xs D) (k : List UInt8) : Maps.has D (.string k) = (fnd xs k).isSome := by
  cases hf : fnd xs k with
  | none => exact Maps.has_false_of_atKey (fun z => by rw [h.at' k z, hf])
  | some x => exact Maps.has_true_of_atKey (y := .lit (.int .i64 (x.b : Int))) (fun z => by rw [h.at' k z, hf])
theorem fnd_none {xs : List Nd} {k : List UInt8} : fnd xs k = none ↔ ∀ x ∈ xs, x.key ≠ k := by
  unfold fnd
  rw [List.find?_eq_none]
  constructor
  · intro h x hx e; exact h x hx (by rw [e]; exact beq_self_eq_true k)
  · intro h x hx e; exact h x hx (by simpa using e)
theorem fnd_some {xs : List Nd} {k : List UInt8} {x : Nd} (h : fnd xs k = some x) : x ∈ xs ∧ x.key = k := by
  unfold fnd at h
  exact ⟨List.mem_of_find?_eq_some h, by have := List.find?_some h; simpa using this⟩
theorem fnd_snoc (xs : List Nd) (e : Nd) (k : List UInt8) : fnd (xs ++ [e]) k = match fnd xs k with | some x => some x | none => if e.key = k then some e else none := by
  unfold fnd
  rw [List.find?_append]
  cases h : xs.find? (fun x => x.key == k) with
  | some x => rfl
  | none =>
    by_cases hk : e.key = k
    · simp [hk]
    · simp [hk]
/-- The map with one more key. -/
theorem Idx.put {xs : List Nd} {D : DataW Unit} (h : Idx xs D) (ht : Maps.Tidy D) (e : Nd) (hn : fnd xs e.key = none) : Idx (xs ++ [e]) (D.put (.string e.key) (.lit (.int .i64 (e.b : Int)))) := by
  refine ⟨fun k z => ?_, ?_⟩
  · rw [fnd_snoc]
    by_cases hk : e.key = k
    · subst hk
      rw [Maps.atKey_put_same ht.isMap (kLit _), hn, if_pos rfl]
    · rw [Maps.atKey_put_other (fun e' => hk (by cases e'; rfl)), h.at' k z]
      cases fnd xs k with
      | some x => rfl
      | none => rw [if_neg hk]
  · rw [Maps.size_put ht, idx_has h, hn, h.size, List.length_append]; rfl
/-- The map without a key. -/
theorem Idx.del {l r : List Nd} {x : Nd} {D : DataW Unit} (h : Idx (l ++ x :: r) D) (ht : Maps.Tidy D) (hk : ((l ++ x :: r).map (·.key)).Nodup) : Idx (l ++ r) (D.del (.string x.key)) := by
  have hno : ∀ y ∈ l ++ r, y.key ≠ x.key := by
    rw [List.map_append, List.map_cons] at hk
    obtain ⟨h1, h2, h3⟩ := List.nodup_append.1 hk
    obtain ⟨h4, h5⟩ := List.nodup_cons.1 h2
    intro y hy e
    rcases List.mem_append.1 hy with hy | hy
    · exact h3 y.key (List.mem_map.2 ⟨y, hy, rfl⟩) x.key (List.mem_cons_self ..) e
    · exact h4 (by rw [← e]; exact List.mem_map.2 ⟨y, hy, rfl⟩)
  have hfx : fnd (l ++ r) x.key = none := fnd_none.2 hno
  refine ⟨fun k z => ?_, ?_⟩
  · by_cases hkx : x.key = k
    · subst hkx
      rw [Maps.atKey_del_same, hfx]
    · rw [Maps.atKey_del_other (fun e' => hkx (by cases e'; rfl)), h.at' k z]
      have : fnd (l ++ x :: r) k = fnd (l ++ r) k := by
        unfold fnd
        rw [List.find?_append, List.find?_append, List.find?_cons_of_neg (by simpa using hkx)]
      rw [this]
  · have h1 := Maps.size_del (k := .string x.key) ht
    have h2 : (fnd (l ++ x :: r) x.key).isSome = true := by
      cases hf : fnd (l ++ x :: r) x.key with
      | some y => rfl
      | none => exact absurd rfl (fnd_none.1 hf x (by simp))
    rw [idx_has h, h2, h.size, if_pos rfl, List.length_append, List.length_cons] at h1
    rw [List.length_append]; omega
/-- A key is looked for. -/
theorem Tb.look {w : World} {T m cap : Nat} {xs : List Nd} (h : Tb w T m cap xs) (k : List UInt8) (hk : k.length ≤ 100000) :
    (Instr.lookup 97 (.map (some m)) (strT k) false).run Try.prog w = .ok (pt ((fnd xs k).map (·.b))) w := by
  obtain ⟨D, hD, hI⟩ := h.map
  obtain ⟨v, ps, h1, h2⟩ := hD.lookup (Maps.string_keyed Try.underlying9) Try.underlying97 (z := .pointer none) (by kernel_rfl) (zd := .nil) (zp := []) rfl (keyS k hk)
  rw [h1]
  rw [hI.at' k .nil] at h2
  have : v = pt ((fnd xs k).map (·.b)) := pR_inv (ps := ps) (by rw [h2]; cases fnd xs k <;> rfl)
  rw [this]
end Go.Proofs.Ythpgdojjecdlcaa
