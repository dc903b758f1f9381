/- Maps from texts to bools and to numbers of 32 bits, known by what they answer. -/
import Derived.Test.YthpgdojjecdlcaaNnGv
set_option maxRecDepth 100000
namespace Go.Proofs.Ythpgdojjecdlcaa
open Go.RowKit Go.Shelf
abbrev tMB : TypeId := 46
abbrev tMU : TypeId := 47
/-- How a bool reads, and a number of 32 bits. -/
def rdB : Value → Option (DataW Unit × List MemPlace)
  | .bool b => some (.lit (.bool b), [])
  | _ => none
def rdU : Value → Option (DataW Unit × List MemPlace)
  | .int .u32 n => some (.lit (.int .u32 n), [])
  | _ => none
theorem rdB_inv {v : Value} {b : Bool} {ps : List MemPlace} (h : rdB v = some (.lit (.bool b), ps)) : v = .bool b := by
  unfold rdB at h
  split at h
  · simp at h; rw [h.1]
  · cases h
theorem rdU_inv {v : Value} {n : Int} {ps : List MemPlace} (h : rdU v = some (.lit (.int .u32 n), ps)) : v = .int .u32 n := by
  unfold rdU at h
  split at h
  · simp at h; rw [h.1]
  · cases h
def upd {α : Type} (P : List UInt8 → α) (k : List UInt8) (y : α) : List UInt8 → α := fun x => if x = k then y else P x
theorem upd_same {α : Type} (P : List UInt8 → α) (k : List UInt8) (y : α) : upd P k y k = y := if_pos rfl
theorem upd_other {α : Type} {P : List UInt8 → α} {k x : List UInt8} {y : α} (h : x ≠ k) : upd P k y x = P x := if_neg h
/-- The map at block b holds true for the texts of P, which are n, and nothing else. -/
def MpB (w : World) (b : Nat) (P : List UInt8 → Bool) (n : Nat) : Prop :=
  ∃ D, w.ownsMap Try.prog 9 rdB b 100000 D ∧ (∀ k z, D.atKey (.string k) z = if P k = true then .lit (.bool true) else z) ∧ Maps.size D = n
/-- The map at block b holds the numbers of ct (0 where it holds none) for n texts. -/
def MpU (w : World) (b : Nat) (ct : List UInt8 → Int) (n : Nat) : Prop :=
  ∃ D, w.ownsMap Try.prog 9 rdU b 100000 D ∧ (∀ k, D.atKey (.string k) (.lit (.int .u32 0)) = .lit (.int .u32 (ct k))) ∧ Maps.size D ≤ n
theorem ownsMap_fitG {R : Value → Option (DataW Unit × List MemPlace)} {w : World} {k : TypeId} {b n n' : Nat} {D : DataW Unit} (h : w.ownsMap Try.prog k R b n D) (hs : Maps.size D ≤ n') : w.ownsMap Try.prog k R b n' D := by
  obtain ⟨es, clock, hb, F, _, rfl⟩ := h
  refine ⟨es, clock, hb, F, ?_, rfl⟩
  simpa [Maps.size, length_sorted] using hs
theorem ownsMap_atG {R : Value → Option (DataW Unit × List MemPlace)} {w w' : World} {k : TypeId} {b n : Nat} {D : DataW Unit} (h : w.ownsMap Try.prog k R b n D) (hb : w'.heap[b]? = w.heap[b]?) : w'.ownsMap Try.prog k R b n D := by
  obtain ⟨es, clock, h1, h2⟩ := h
  exact ⟨es, clock, hb.trans h1, h2⟩
def isMap (w : World) (b : Nat) : Prop := ∃ es c, w.heap[b]? = some (Obj.map es c)
section
variable {w w' : World} {b n : Nat} {P : List UInt8 → Bool} {ct : List UInt8 → Int} {base S T m cap : Nat} {f : NF} {l : PLn}
theorem MpB.isMap (h : MpB w b P n) : isMap w b := by
  obtain ⟨D, ⟨es, clock, h1, _⟩, _⟩ := h
  exact ⟨es, clock, h1⟩
theorem MpU.isMap (h : MpU w b ct n) : isMap w b := by
  obtain ⟨D, ⟨es, clock, h1, _⟩, _⟩ := h
  exact ⟨es, clock, h1⟩
theorem isMap.lt (h : isMap w b) : b < w.heap.size := by
  obtain ⟨_, _, h⟩ := h
  exact (Array.getElem?_eq_some_iff.1 h).1
theorem MpB.at (h : MpB w b P n) (hb : w'.heap[b]? = w.heap[b]?) : MpB w' b P n := by
  obtain ⟨D, h1, h2⟩ := h
  exact ⟨D, ownsMap_atG h1 hb, h2⟩
theorem MpU.at (h : MpU w b ct n) (hb : w'.heap[b]? = w.heap[b]?) : MpU w' b ct n := by
  obtain ⟨D, h1, h2⟩ := h
  exact ⟨D, ownsMap_atG h1 hb, h2⟩
theorem FrN.map (hf : FrN base m w w') (h : isMap w b) (hb : b ≠ m) : w'.heap[b]? = w.heap[b]? := by
  obtain ⟨es, c, h⟩ := h
  exact (hf.kp b _ h (fun _ _ _ e => by cases e) hb).trans h.symm
theorem MpB.look (h : MpB w b P n) (k : List UInt8) (hk : k.length ≤ 100000) : (Instr.lookup tMB (.map (some b)) (strT k) false).run Try.prog w = .ok (.bool (P k)) w := by
  obtain ⟨D, hD, hI, _⟩ := h
  obtain ⟨v, ps, h1, h2⟩ := hD.lookup (Maps.string_keyed Try.underlying9) Try.underlying46 (z := .bool false) (by kernel_rfl) (zd := .lit (.bool false)) (zp := []) rfl (keyS k hk)
  rw [h1]
  rw [hI k] at h2
  have : v = .bool (P k) := rdB_inv (ps := ps) (by rw [h2]; cases P k <;> rfl)
  rw [this]
theorem MpU.look (h : MpU w b ct n) (k : List UInt8) (hk : k.length ≤ 100000) : (Instr.lookup tMU (.map (some b)) (strT k) false).run Try.prog w = .ok (.int .u32 (ct k)) w := by
  obtain ⟨D, hD, hI, _⟩ := h
  obtain ⟨v, ps, h1, h2⟩ := hD.lookup (Maps.string_keyed Try.underlying9) Try.underlying47 (z := .int .u32 0) (by kernel_rfl) (zd := .lit (.int .u32 0)) (zp := []) rfl (keyS k hk)
  rw [h1]
  rw [hI k] at h2
  have : v = .int .u32 (ct k) := rdU_inv (ps := ps) h2
  rw [this]
theorem MpB.len (h : MpB w b P n) (ty : TypeId) : (Builtin.len_ #[tMB] ty #[.map (some b)]).run Try.prog w = .ok (.int .i64 (n : Int)) w := by
  obtain ⟨D, hD, _, hs⟩ := h
  rw [hD.len Try.underlying46 ty, hs]
theorem MpB.put {k : List UInt8} (hD : ∃ D, w.ownsMap Try.prog 9 rdB b 100000 D ∧ w'.ownsMap Try.prog 9 rdB b (100000 + 1) (D.put (.string k) (.lit (.bool true))) ∧ (∀ k z, D.atKey (.string k) z = if P k = true then .lit (.bool true) else z) ∧ Maps.size D = n) (hn : n < 100000) :
    MpB w' b (upd P k true) (if P k = true then n else n + 1) := by
  obtain ⟨D, h1, h2, h3, h4⟩ := hD
  have ht := h1.tidy (Maps.string_keyed Try.underlying9)
  have hh : Maps.has D (.string k) = P k := by
    cases hp : P k with
    | false => exact Maps.has_false_of_atKey (fun z => by rw [h3 k z, hp]; rfl)
    | true => exact Maps.has_true_of_atKey (y := .lit (.bool true)) (fun z => by rw [h3 k z, hp]; rfl)
  have hsz := Maps.size_put (k := .string k) (d := .lit (.bool true)) ht
  rw [hh, h4] at hsz
  refine ⟨_, ownsMap_fitG h2 (by rw [hsz]; split <;> omega), fun x z => ?_, hsz⟩
  by_cases hx : x = k
  · subst hx
    rw [Maps.atKey_put_same ht.isMap (kLit _), upd_same, if_pos rfl]
  · rw [Maps.atKey_put_other (fun e => hx (by cases e; rfl)), h3 x z, upd_other hx]
theorem MpU.put {k : List UInt8} {y : Int} (hD : ∃ D, w.ownsMap Try.prog 9 rdU b 100000 D ∧ w'.ownsMap Try.prog 9 rdU b (100000 + 1) (D.put (.string k) (.lit (.int .u32 y))) ∧ (∀ k, D.atKey (.string k) (.lit (.int .u32 0)) = .lit (.int .u32 (ct k))) ∧ Maps.size D ≤ n) (hn : n < 100000) :
    MpU w' b (upd ct k y) (n + 1) := by
  obtain ⟨D, h1, h2, h3, h4⟩ := hD
  have ht := h1.tidy (Maps.string_keyed Try.underlying9)
  have hsz := Maps.size_put (k := .string k) (d := .lit (.int .u32 y)) ht
  have hle : Maps.size (D.put (.string k) (.lit (.int .u32 y))) ≤ n + 1 := by rw [hsz]; split <;> omega
  refine ⟨_, ownsMap_fitG h2 (by omega), fun x => ?_, hle⟩
  by_cases hx : x = k
  · subst hx
    rw [Maps.atKey_put_same ht.isMap (kLit _), upd_same]
  · rw [Maps.atKey_put_other (fun e => hx (by cases e; rfl)), h3 x, upd_other hx]
/-- A map that turns leaves a Store alone whose map is another. -/
theorem NS.turned (h : NS w base S T m cap f l) (hg : w.grownBy w' (some b)) (hb : Go.Proofs.Ythpgdojjecdlcaa.isMap w b) (hbm : b ≠ m) : NS w' base S T m cap f l := by
  obtain ⟨es, c, hb⟩ := hb
  have hS : some S ≠ some b := by
    intro e
    have := h.blk
    unfold BlkT at this
    rw [Option.some.inj e, hb] at this
    cases this
  obtain ⟨⟨xs, ht, e, h1, h2, h3⟩, hblk, hlo⟩ := h
  refine ⟨⟨xs, ht.eqs (fun k hk => ?_), e, h1, h2, h3⟩, hblk.grown hg hS, hlo⟩
  refine hg.block k (tbk_lt ht k hk) (fun e => ?_)
  have e := Option.some.inj e
  rcases List.mem_cons.1 hk with rfl | hk
  · have := ht.tbl
    unfold BlkT at this
    rw [e, hb] at this
    cases this
  · rcases List.mem_cons.1 hk with rfl | hk
    · exact hbm e.symm
    · obtain ⟨y, hy, rfl⟩ := List.mem_map.1 hk
      obtain ⟨cs, hby⟩ := chn_ty xs none none ht.chn y hy
      unfold BlkT at hby
      rw [e, hb] at hby
      cases hby
theorem NS.mapM (h : NS w base S T m cap f l) : Go.Proofs.Ythpgdojjecdlcaa.isMap w m := by
  obtain ⟨⟨xs, ht, _⟩, _, _⟩ := h
  obtain ⟨D, ⟨es, clock, hb, _⟩, _⟩ := ht.map
  exact ⟨es, clock, hb⟩
theorem BlkT.nmap {cs : List Value} {t : TypeId} {g : Nat} (h : BlkT w g t cs) (hb : Go.Proofs.Ythpgdojjecdlcaa.isMap w b) : g ≠ b := by
  rintro rfl
  obtain ⟨es, c, hb⟩ := hb
  unfold BlkT at h
  rw [hb] at h
  cases h
theorem row_nmap {bb z k : Nat} {e : TypeId} {v : Value} {xs : List Value} (h : w.ownsRow bb e z v k xs) (hb : Go.Proofs.Ythpgdojjecdlcaa.isMap w b) : v.ownBlock = none ∨ v.ownBlock ≠ some b := by
  obtain ⟨es, c, hb⟩ := hb
  rcases h.2 with ⟨rfl, _⟩ | ⟨g, cp, cur, rfl, _, hh, _⟩
  · exact .inl rfl
  · refine .inr (fun e => ?_)
    have : g = b := by simpa [Value.ownBlock] using e
    rw [this, hb] at hh
    cases hh
end
end Go.Proofs.Ythpgdojjecdlcaa
