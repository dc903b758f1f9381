/- table: New, Put, Set, Get, Drop, Renew. -/
import Derived.Test.YthpgdojjecdlcaaTnLink
set_option maxRecDepth 100000
namespace Go.Proofs.Ythpgdojjecdlcaa
open Go.RowKit
/-- What a table holds, in order. -/
def tbs (xs : List Nd) : List (List UInt8 × VT) := xs.map (fun x => (x.key, x.v))
def hasL (l : List (List UInt8 × VT)) (k : List UInt8) : Bool := l.any (fun p => p.1 == k)
def putL (cap : Nat) (l : List (List UInt8 × VT)) (k : List UInt8) (v : VT) : Int × List (List UInt8 × VT) := if hasL l k then (7, l) else if l.length = cap then (8, l) else (0, l ++ [(k, v)])
def setL (l : List (List UInt8 × VT)) (k : List UInt8) (v : VT) : Int × List (List UInt8 × VT) := if hasL l k then (0, l.map fun p => if p.1 == k then (k, v) else p) else (6, l)
def dropL (l : List (List UInt8 × VT)) (k : List UInt8) : Int × List (List UInt8 × VT) := if hasL l k then (0, l.filter fun p => !(p.1 == k)) else (6, l)
def getL (l : List (List UInt8 × VT)) (k : List UInt8) : Option VT := (l.find? fun p => p.1 == k).map (·.2)
def renewL (l : List (List UInt8 × VT)) (k : List UInt8) : Int × List (List UInt8 × VT) := match l.find? (fun p => p.1 == k) with
  | some p => (0, (l.filter fun p => !(p.1 == k)) ++ [p])
  | none => (6, l)
theorem hasL_fnd (xs : List Nd) (k : List UInt8) : hasL (tbs xs) k = (fnd xs k).isSome := by
  unfold hasL tbs fnd
  rw [List.any_map]
  induction xs with
  | nil => rfl
  | cons x t ih =>
    rw [List.any_cons, List.find?_cons]
    cases h : x.key == k with
    | true => simp [h]
    | false => simp only [Function.comp, h, Bool.false_or]; exact ih
theorem find_tbs (xs : List Nd) (k : List UInt8) : (tbs xs).find? (fun p => p.1 == k) = (fnd xs k).map fun x => (x.key, x.v) := by
  unfold tbs fnd
  induction xs with
  | nil => rfl
  | cons x t ih =>
    rw [List.map_cons, List.find?_cons, List.find?_cons]
    cases h : x.key == k with
    | true => rfl
    | false => exact ih
/-- Where an operation leads. -/
def To (w w' : World) (T m cap : Nat) (xs : List Nd) (l' : List (List UInt8 × VT)) : Prop :=
  ∃ xs', Tb w' T m cap xs' ∧ tbs xs' = l' ∧ Trn (T :: m :: xs.map (·.b)) w w' ∧ ∀ x ∈ xs', x.b ∈ xs.map (·.b) ∨ w.heap.size ≤ x.b
theorem ownsMap_fit {w : World} {k : TypeId} {b n n' : Nat} {D : DataW Unit} (h : w.ownsMap Try.prog k pR b n D) (hs : Maps.size D ≤ n') : w.ownsMap Try.prog k pR b n' D := by
  obtain ⟨es, clock, hb, F, _, rfl⟩ := h
  refine ⟨es, clock, hb, F, ?_, rfl⟩
  simpa [Maps.size, length_sorted] using hs
theorem ownsMap_at {w w' : World} {k : TypeId} {b n : Nat} {D : DataW Unit} (h : w.ownsMap Try.prog k pR b n D) (hb : w'.heap[b]? = w.heap[b]?) : w'.ownsMap Try.prog k pR b n D := by
  obtain ⟨es, clock, h1, h2⟩ := h
  exact ⟨es, clock, hb.trans h1, h2⟩
section
variable {w w' : World} {T m cap : Nat} {xs : List Nd}
theorem Tb.rg (h : Tb w T m cap xs) : Rg w T (.int .i64 (cap : Int)) (.map (some m)) xs :=
  ⟨h.tbl, h.chn, by have := h.nod; rw [List.nodup_cons] at this ⊢; exact ⟨fun e => this.1 (List.mem_cons_of_mem _ e), (List.nodup_cons.1 this.2).2⟩⟩
theorem Tb.nm (h : Tb w T m cap xs) : m ∉ T :: xs.map (·.b) := by
  have := h.nod
  rw [List.nodup_cons] at this
  intro e
  rcases List.mem_cons.1 e with e | e
  · exact this.1 (by rw [← e]; exact List.mem_cons_self ..)
  · exact (List.nodup_cons.1 this.2).1 e
theorem Tb.keep (h : Tb w T m cap xs) (hb : Below w.heap.size w w') : Tb w' T m cap xs := by
  obtain ⟨D, hD, hI⟩ := h.map
  exact ⟨h.tbl.below hb h.tbl.lt, ⟨D, ownsMap_at hD (hb.block m hD.lt), hI⟩, chn_keep xs none none (fun x hx => hb.block x.b (chn_lt xs none none h.chn x hx)) h.chn, h.nod, h.keys, h.len, h.cnt, h.cap⟩
theorem Tb.to_self (h : Tb w T m cap xs) (hb : Below w.heap.size w w') : To w w' T m cap xs (tbs xs) :=
  ⟨xs, h.keep hb, rfl, Trn.of_below hb, fun x hx => .inl (List.mem_map.2 ⟨x, hx, rfl⟩)⟩
theorem fnd_split {k : List UInt8} {x : Nd} (hf : fnd xs k = some x) : ∃ l r, xs = l ++ x :: r := by
  obtain ⟨hm, _⟩ := fnd_some hf
  exact List.append_of_mem hm
/-- Of distinct keys the others. -/
theorem tbs_others {l r : List Nd} {x : Nd} (hk : ((l ++ x :: r).map (·.key)).Nodup) : (tbs (l ++ x :: r)).filter (fun p => !(p.1 == x.key)) = tbs (l ++ r) := by
  have hno : ∀ y ∈ l ++ r, y.key ≠ x.key := by
    rw [List.map_append, List.map_cons] at hk
    obtain ⟨h1, h2, h3⟩ := List.nodup_append.1 hk
    obtain ⟨h4, h5⟩ := List.nodup_cons.1 h2
    intro y hy e
    rcases List.mem_append.1 hy with hy | hy
    · exact h3 y.key (List.mem_map.2 ⟨y, hy, rfl⟩) x.key (List.mem_cons_self ..) e
    · exact h4 (by rw [← e]; exact List.mem_map.2 ⟨y, hy, rfl⟩)
  have key : ∀ z : List Nd, (∀ y ∈ z, y.key ≠ x.key) → (tbs z).filter (fun p => !(p.1 == x.key)) = tbs z := by
    intro z hz
    refine List.filter_eq_self.2 fun p hp => ?_
    obtain ⟨y, hy, rfl⟩ := List.mem_map.1 hp
    simpa using hz y hy
  unfold tbs at key ⊢
  rw [List.map_append, List.map_cons, List.filter_append, List.filter_cons_of_neg (by simp), key l (fun y hy => hno y (List.mem_append_left _ hy)), key r (fun y hy => hno y (List.mem_append_right _ hy)), List.map_append]
theorem drop_none (h : Tb w T m cap xs) (k : List UInt8) (hk : k.length ≤ 100000) (hf : fnd xs k = none) :
    Calls Try.prog 51 #[tP T, strT k] w fun e w' => e = .returned (.int .i64 6) ∧ w = w' := by
  have HC := Lib.hid (find_any h k hk)
  rw [hf] at HC
  clear h
  go_enter Try.func51, Try.ntmps51
  go_wp2_with fail
  refine HC.out.mono ?_
  rintro e w1 ⟨rfl, rfl⟩
  simp only [Option.map_none, pt_none]
  go_wp2_with fail
  go_ret
  exact ⟨rfl, rfl⟩
theorem drop_some (k : List UInt8) {x : Nd} {l r : List Nd} (h : Tb w T m cap (l ++ x :: r)) (hk : k.length ≤ 100000) (hf : fnd (l ++ x :: r) k = some x) :
    Calls Try.prog 51 #[tP T, strT k] w fun e w' => e = .returned (.int .i64 0) ∧ To w w' T m cap (l ++ x :: r) (tbs (l ++ r)) := by
  have HC := Lib.hid (find_any h k hk)
  rw [hf] at HC
  have HU := Lib.hid (unlink_any h.rg)
  have H := Lib.hid h
  have hkx := (fnd_some hf).2
  go_enter Try.func51, Try.ntmps51
  go_wp2_with fail
  refine HC.out.mono ?_
  rintro e w1 ⟨rfl, rfl⟩
  simp only [Option.map_some, pt_some]
  clear h
  go_wp2_with fail
  refine HU.out.mono ?_
  rintro e w1 ⟨rfl, hR, hbx, hT⟩
  have c1 : w1.cell? ⟨T, 1, none⟩ = some (.map (some m)) := hR.tbl.at rfl
  obtain ⟨D, hD, hI⟩ := H.out.map
  have hD1 : w1.ownsMap Try.prog 9 pR m 100000 D := ownsMap_at hD (hT.block m hD.lt H.out.nm)
  have HD := Lib.hid hD1
  have HR := Lib.hid hR
  have HT := Lib.hid hT
  have hti := hD.tidy (Maps.string_keyed Try.underlying9)
  have HI := Lib.hid (hI.del hti H.out.keys)
  clear hD hD1 hR hT hbx hI hti HU HC
  go_wp2_with (at_delete; refine wpList_delete_own _ rfl (.tmp 17) (.tmp 18) 97 9 rfl 98 (Maps.string_keyed Try.underlying9) Try.underlying97 pR m 100000 D rfl HD.out (strT k) (.string k) rfl (keyS k hk) ?_; intro w2 hD2 hturn; have HD2 := Lib.hid hD2; have HG2 := Lib.hid hturn.grown; clear hD2 hturn)
  go_ret
  refine ⟨rfl, l ++ r, ?_, rfl, ?_, ?_⟩
  · have hg := HG2.out
    have hn := H.out.nod
    have hR := HR.out
    have hmT : T ≠ m := fun e => H.out.nm (by rw [← e]; exact List.mem_cons_self ..)
    have hmx : ∀ y ∈ l ++ r, some y.b ≠ some m := fun y hy e => H.out.nm (List.mem_cons_of_mem _ (List.mem_map.2 ⟨y, by rcases List.mem_append.1 hy with h | h <;> simp [h], Option.some.inj e⟩))
    have hmk : ∀ {a : List Nd}, (∀ y ∈ l ++ r, y ∈ a) → True := fun _ => trivial
    refine ⟨hR.tbl.grown hg (fun e => hmT (Option.some.inj e)), ⟨_, HD2.out, by rw [← hkx]; exact HI.out⟩, chn_keep _ _ _ (fun y hy => hg.block y.b (chn_lt _ _ _ hR.chn y hy) (hmx y hy)) hR.chn, ?_, ?_, fun y hy => H.out.len y (by rcases List.mem_append.1 hy with h | h <;> simp [h]), ?_, H.out.cap⟩
    · have h1 := hR.nod
      rw [List.nodup_cons] at h1 hn ⊢
      refine ⟨fun e => ?_, List.nodup_cons.2 ⟨fun e => ?_, h1.2⟩⟩
      · rcases List.mem_cons.1 e with e | e
        · exact hmT e
        · exact h1.1 e
      · obtain ⟨y, hy, e2⟩ := List.mem_map.1 e
        exact hmx y hy (by rw [e2])
    · have h2 := H.out.keys
      rw [List.map_append, List.map_cons] at h2
      rw [List.map_append]
      obtain ⟨a1, a2, a3⟩ := List.nodup_append.1 h2
      exact List.nodup_append.2 ⟨a1, (List.nodup_cons.1 a2).2, fun a ha b hb => a3 a ha b (List.mem_cons_of_mem _ hb)⟩
    · have := H.out.cnt
      rw [List.length_append, List.length_cons] at this
      rw [List.length_append]; omega
  · exact (HT.out.mono (fun k hk => by rcases List.mem_cons.1 hk with rfl | h; exact List.mem_cons_self ..; exact List.mem_cons_of_mem _ (List.mem_cons_of_mem _ h))).grown HG2.out (fun k e => by cases e; exact List.mem_cons_of_mem _ (List.mem_cons_self ..))
  · intro y hy
    exact .inl (List.mem_map.2 ⟨y, by rcases List.mem_append.1 hy with h | h <;> simp [h], rfl⟩)
end
end Go.Proofs.Ythpgdojjecdlcaa
