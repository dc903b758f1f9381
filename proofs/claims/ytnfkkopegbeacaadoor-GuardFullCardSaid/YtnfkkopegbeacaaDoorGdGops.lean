/- guard: an argument that is a slice of Ops; several sources in a row. -/
import Derived.Test.YtnfkkopegbeacaaDoorGdAwake
import Derived.Test.YtnfkkopegbeacaaDoorGdGoodW
import Derived.Test.YtnfkkopegbeacaaDoorArgs
import Derived.Test.YtnfkkopegbeacaaDoorStrT
import Derived.Deep.Strs
set_option maxRecDepth 100000
namespace Go.Proofs.YtnfkkopegbeacaaDoor
open Go.ChangeShapes Go.WideShapes Go.ChangeAt Go.RowKit Go.Shelf
theorem choose_g {α : Type} (n : Nat) (p : Nat → α → Prop) (h : ∀ i, i < n → ∃ x, p i x) : ∃ l : List α, l.length = n ∧ ∀ i (hi : i < l.length), p i l[i] := by
  induction n with
  | zero => exact ⟨[], rfl, fun i hi => by simp at hi⟩
  | succ k ih =>
    obtain ⟨l, hl, hp⟩ := ih (fun i hi => h i (by omega))
    obtain ⟨x, hx⟩ := h k (by omega)
    refine ⟨l ++ [x], by rw [List.length_append, hl]; rfl, fun i hi => ?_⟩
    by_cases hik : i < l.length
    · rw [List.getElem_append_left hik]; exact hp i hik
    · have : i = k := by rw [List.length_append] at hi; simp at hi; omega
      subst this
      rw [List.getElem_append_right (by omega)]
      simpa [hl] using hx
/-- The slice v, nil or not, holds the Ops ls, all of them below block B. -/
def GOps (w : World) (B : Nat) (v : Value) (ls : List (UInt8 × List UInt8)) : Prop :=
  ∃ A c, v = .slice A ls.length c ∧ ls.length ≤ c ∧ c ≤ 9223372036854775807 ∧ (0 < ls.length → ∃ b o, A = some ⟨b, o, none⟩ ∧ b < B ∧ ∀ j (h : j < ls.length), w.cell? ⟨b, o + j * 3, none⟩ = some (vb ls[j].1) ∧ w.cell? ⟨b, o + j * 3 + 1, none⟩ = some (strT ls[j].2) ∧ (∃ t : Int, w.cell? ⟨b, o + j * 3 + 2, none⟩ = some (.int .u32 t)) ∧ ls[j].2.length ≤ 9223372036854775807)
section
variable {H : Type} {enc : TypeId × Value → H}
theorem cells_gop : Tryd.prog.cellsOf 36 = 3 := by kernel_rfl
theorem byte_of_trodG {W : World} {base fuel : Nat} {v : Value} {x : DataW H × List MemPlace} (hf : DataW.trod enc Tryd.prog W base (fun _ => true) true fuel 5 [v] = some x) : ∃ k : UInt8, v = vb k := by
  obtain ⟨n, hv, _, hw⟩ := DataW.trod_int Tryd.underlying5 hf
  simp only [List.cons.injEq, and_true] at hv
  subst hv
  have h2 := u8_rng hw
  refine ⟨UInt8.ofNat n.toNat, ?_⟩
  have e : bn (UInt8.ofNat n.toNat) = n := by unfold bn; rw [UInt8.toNat_ofNat']; omega
  rw [vb, e]
theorem str_of_trodG {W : World} {base fuel : Nat} {v : Value} {x : DataW H × List MemPlace} (hf : DataW.trod enc Tryd.prog W base (fun _ => true) true fuel 9 [v] = some x) : ∃ s : List UInt8, v = strT s ∧ s.length ≤ 9223372036854775807 := by
  obtain ⟨s1, hv, _, hs1⟩ := DataW.trod_string Tryd.underlying9 hf
  simp only [List.cons.injEq, and_true] at hv
  subst hv
  exact ⟨s1.data.toList, by simp, by unfold maxLen at hs1; simpa using hs1⟩
theorem u32_of_trodG {W : World} {base fuel : Nat} {v : Value} {x : DataW H × List MemPlace} (hf : DataW.trod enc Tryd.prog W base (fun _ => true) true fuel 34 [v] = some x) : ∃ t : Int, v = .int .u32 t := by
  obtain ⟨n, hv, _, _⟩ := DataW.trod_int Tryd.underlying34 hf
  simp only [List.cons.injEq, and_true] at hv
  subst hv
  exact ⟨n, rfl⟩
theorem open_gops {W : World} {base : Nat} {v : Value} {d : DataW H} {ps : List MemPlace} (hval : Value.okWide Tryd.prog W .any base 23 v) (h : DataW.Trod enc Tryd.prog W 0 (fun _ => true) true 23 v d ps) :
    ∃ ls, GOps W W.heap.size v ls := by
  obtain ⟨a1, len, cap, rfl⟩ := okWide_slice Tryd.underlying23 hval
  obtain ⟨fuel, hf⟩ := h
  rcases Go.Deep.open_slice Tryd.underlying23 hf with ⟨hcs, _⟩ | ⟨a, len', cap', m, n, D, Pl, hcs, _, hl, hm, hmm, _, hx⟩
  · simp [Value.cells] at hcs
    obtain ⟨rfl, rfl, rfl⟩ := hcs
    exact ⟨[], none, 0, rfl, by simp, by omega, fun h => by simp at h⟩
  · simp [Value.cells] at hcs
    obtain ⟨rfl, rfl, rfl⟩ := hcs
    simp only [if_true] at hmm
    subst hmm
    rw [cells_gop] at hx
    obtain ⟨ab, ao, spot⟩ := a
    have hs0 : 0 < len → spot = none := by
      intro h0
      obtain ⟨cs, hc, _⟩ := hx 0 (by omega)
      have k0 := (World.cells?_some hc).2.2 0 (by omega)
      have hl0 : cs.length = 3 := (World.cells?_some hc).2.1
      rw [List.getElem?_eq_getElem (by omega)] at k0
      simpa [Addr.add] using World.cell?_spot k0
    have key : ∀ i, i < len → ∃ x : UInt8 × List UInt8, W.cell? ⟨ab, ao + i * 3, none⟩ = some (vb x.1) ∧ W.cell? ⟨ab, ao + i * 3 + 1, none⟩ = some (strT x.2) ∧ (∃ t : Int, W.cell? ⟨ab, ao + i * 3 + 2, none⟩ = some (.int .u32 t)) ∧ x.2.length ≤ 9223372036854775807 := by
      intro i hi
      obtain ⟨cs, hc, ht⟩ := hx i (by omega)
      obtain ⟨_, hcl, hat⟩ := World.cells?_some hc
      obtain ⟨c0, c1, c2, rfl⟩ : ∃ c0 c1 c2, cs = [c0, c1, c2] := by
        match cs, hcl with
        | [c0, c1, c2], _ => exact ⟨c0, c1, c2, rfl⟩
      obtain ⟨y0, y1, y2, n', _, _, h0, h1, h2⟩ := Go.Deep.trod_struct3 Tryd.underlying36 ht
      have k0 := hat 0 (by omega)
      have k1 := hat 1 (by omega)
      have k2 := hat 2 (by omega)
      rw [Go.Deep.add_add] at k0 k1 k2
      have hspot : spot = none := hs0 (by omega)
      subst hspot
      rw [Addr.add_lit] at k0 k1 k2
      obtain ⟨b0, rfl⟩ := byte_of_trodG (v := c0) h0
      obtain ⟨s1, e1, hl1⟩ := str_of_trodG (v := c1) h1
      obtain ⟨t2, e2⟩ := u32_of_trodG (v := c2) h2
      subst e1; subst e2
      exact ⟨(b0, s1), k0, k1, ⟨t2, k2⟩, hl1⟩
    obtain ⟨ls, hls, hp⟩ := choose_g len _ key
    refine ⟨ls, some ⟨ab, ao, spot⟩, m, by rw [hls], by rw [hls]; exact hl, by unfold maxLen at hm; omega, fun h0 => ?_⟩
    have hs := hs0 (by omega)
    subst hs
    have hlt : ab < W.heap.size := World.block_lt_of_cell? W ⟨ab, ao + 0 * 3, none⟩ (hp 0 h0).1
    exact ⟨ab, ao, rfl, hlt, fun j hj => hp j hj⟩
end
abbrev sM : List UInt8 := [109, 101]
theorem src_m : srcB sM = true := by decide +kernel
theorem getL_cons (p : List UInt8 × VT) (t : List (List UInt8 × VT)) (k : List UInt8) : getL (p :: t) k = if (p.1 == k) = true then some p.2 else getL t k := by
  unfold getL
  rw [List.find?_cons]
  cases p.1 == k <;> rfl
theorem getL_mem : ∀ (l : List (List UInt8 × VT)) {k : List UInt8} {v : VT}, getL l k = some v → (k, v) ∈ l
  | [], _, _, h => by simp [getL] at h
  | p :: t, k, v, h => by
    rw [getL_cons] at h
    by_cases hp : (p.1 == k) = true
    · rw [if_pos hp] at h
      obtain ⟨a, b⟩ := p
      rw [beq_iff_eq] at hp
      cases h
      subst hp
      exact List.mem_cons_self ..
    · rw [if_neg hp] at h
      exact List.mem_cons_of_mem _ (getL_mem t h)
theorem getL_app (s k : List UInt8) (v : VT) (h : k ≠ s) : ∀ l : List (List UInt8 × VT), getL (l ++ [(s, v)]) k = getL l k
  | [] => by
    rw [List.nil_append, getL_cons, if_neg (by rw [beq_iff_eq]; exact fun e => h e.symm)]
  | p :: t => by rw [List.cons_append, getL_cons, getL_cons, getL_app s k v h t]
theorem getL_put (s k : List UInt8) (v : VT) (h : k ≠ s) : ∀ l : List (List UInt8 × VT), getL (l.map fun p => if (p.1 == s) = true then (s, v) else p) k = getL l k
  | [] => rfl
  | p :: t => by
    rw [List.map_cons, getL_cons, getL_cons, getL_put s k v h t]
    by_cases hp : (p.1 == s) = true
    · rw [if_pos hp]
      rw [beq_iff_eq] at hp
      rw [hp, if_neg (by rw [beq_iff_eq]; exact fun e => h e.symm), if_neg (by rw [beq_iff_eq]; exact fun e => h e.symm)]
    · rw [if_neg hp]
theorem getL_putS (s : List UInt8) (v : VT) : ∀ l : List (List UInt8 × VT), (∃ x, getL l s = some x) → getL (l.map fun p => if (p.1 == s) = true then (s, v) else p) s = some v
  | [], ⟨x, h⟩ => by simp [getL] at h
  | p :: t, ⟨x, h⟩ => by
    rw [getL_cons] at h
    rw [List.map_cons, getL_cons]
    by_cases hp : (p.1 == s) = true
    · rw [if_pos hp, if_pos (by simp)]
    · rw [if_neg hp] at h
      rw [if_neg hp, if_neg hp, getL_putS s v t ⟨x, h⟩]
/-- Me and some others are told of, nobody else. -/
structure GI (ns : List (List UInt8)) (l : List (List UInt8 × VT)) (vm : VT) : Prop where
  sub : ∀ p ∈ l, p.1 ∈ sM :: ns
  rng : ∀ p ∈ l, 0 ≤ p.2.f ∧ p.2.f ≤ 60
  me : getL l sM = some vm
theorem put_rng {l : List (List UInt8 × VT)} {ns : List (List UInt8)} {s : List UInt8} {v : VT} (hs : ∀ p ∈ l, p.1 ∈ ns) (hr : ∀ p ∈ l, 0 ≤ p.2.f ∧ p.2.f ≤ 60) (hv : 0 ≤ v.f ∧ v.f ≤ 60) :
    (∀ p ∈ l.map fun p => if (p.1 == s) = true then (s, v) else p, p.1 ∈ ns) ∧ (∀ p ∈ l.map fun p => if (p.1 == s) = true then (s, v) else p, 0 ≤ p.2.f ∧ p.2.f ≤ 60) := by
  constructor
  all_goals
    intro p hp
    obtain ⟨q, hq, rfl⟩ := List.mem_map.1 hp
    by_cases h : (q.1 == s) = true
    · rw [if_pos h]
      rw [beq_iff_eq] at h
      first | exact hv | (rw [← h]; exact hs q hq)
    · rw [if_neg h]
      first | exact hs q hq | exact hr q hq
theorem fe_rng {b mo : Int} {v : VT} {now : Int} (h : 0 ≤ v.f ∧ v.f ≤ 60) : 0 ≤ (fe b mo v now).f ∧ (fe b mo v now).f ≤ 60 := by rw [fe_f]; omega
section
variable {ns : List (List UInt8)} {l : List (List UInt8 × VT)} {vm : VT} {s : List UInt8} {now b mo : Int}
theorem GI.enterO (h : GI ns l vm) (hs : s ∈ ns) (hne : sM ≠ s) : GI ns (enterL l s now).2 vm := by
  unfold enterL
  cases srcB s with
  | false => exact h
  | true =>
    rw [if_pos rfl]
    cases hg : getL l s with
    | some v => exact h
    | none =>
      refine ⟨fun p hp => ?_, fun p hp => ?_, (getL_app s sM _ hne l).trans h.me⟩
      · rcases List.mem_append.1 hp with hp | hp
        · exact h.sub p hp
        · rw [List.mem_singleton.1 hp]; exact List.mem_cons_of_mem _ hs
      · rcases List.mem_append.1 hp with hp | hp
        · exact h.rng p hp
        · rw [List.mem_singleton.1 hp]; simp
theorem hasL_get {l : List (List UInt8 × VT)} {s : List UInt8} {v : VT} (h : getL l s = some v) : hasL l s = true := by
  unfold hasL
  rw [List.any_eq_true]
  exact ⟨(s, v), getL_mem l h, by simp⟩
theorem GI.failO (h : GI ns l vm) (hne : sM ≠ s) : GI ns (failL b mo l s now).2 vm := by
  unfold failL
  cases srcB s with
  | false => exact h
  | true =>
    rw [if_pos rfl]
    cases hg : getL l s with
    | none => exact h
    | some v =>
      show GI ns (setL l s (fe b mo v now)).2 vm
      unfold setL
      rw [hasL_get hg, if_pos rfl]
      have h1 := put_rng (s := s) h.sub h.rng (fe_rng (b := b) (mo := mo) (now := now) (h.rng _ (getL_mem l hg)))
      exact ⟨h1.1, h1.2, (getL_put s sM _ hne l).trans h.me⟩
theorem GI.failM (h : GI ns l vm) : ∃ l2, failL b mo l sM now = (0, l2) ∧ GI ns l2 (fe b mo vm now) := by
  refine ⟨l.map fun p => if (p.1 == sM) = true then (sM, fe b mo vm now) else p, ?_, ?_⟩
  · unfold failL
    rw [src_m, if_pos rfl, h.me]
    show setL l sM (fe b mo vm now) = _
    unfold setL
    rw [hasL_get h.me, if_pos rfl]
  · have h1 := put_rng (s := sM) h.sub h.rng (fe_rng (b := b) (mo := mo) (now := now) (h.rng _ (getL_mem l h.me)))
    exact ⟨h1.1, h1.2, getL_putS sM _ l ⟨vm, h.me⟩⟩
theorem GI.enterM (h : GI ns l vm) : enterL l sM now = (if now < vm.u then 11 else 0, l) := by
  unfold enterL
  rw [src_m, if_pos rfl, h.me]
theorem GI.lockM (h : GI ns l vm) : lockedL l sM now = decide (now < vm.u) := by
  unfold lockedL
  rw [h.me]
theorem few : ∀ (a c : List (List UInt8)), a.Nodup → (∀ x ∈ a, x ∈ c) → a.length ≤ c.length
  | [], _, _, _ => Nat.zero_le _
  | x :: t, c, hn, hs => by
    obtain ⟨h1, h2⟩ := List.nodup_cons.1 hn
    have hx := hs x (List.mem_cons_self ..)
    have h3 := few t (c.erase x) h2 (fun y hy => (List.mem_erase_of_ne (fun e => h1 (by rw [← e]; exact hy))).2 (hs y (List.mem_cons_of_mem _ hy)))
    rw [List.length_erase_of_mem hx] at h3
    have := List.length_pos_of_mem hx
    rw [List.length_cons]
    omega
theorem GD.nodup {w : World} {base G T m cap : Nat} {ho : Int} (h : GD w base G T m cap b mo ho l) : (l.map fun p => p.1).Nodup := by
  obtain ⟨xs, h1, rfl, _⟩ := h.tb
  have := h1.keys
  unfold tbs
  rw [List.map_map]
  exact this
theorem GI.room {w : World} {base G T m cap : Nat} {ho : Int} (hd : GD w base G T m cap b mo ho l) (h : GI ns l vm) (hn : ns.length ≤ 5) : l.length ≤ 6 := by
  have := few _ (sM :: ns) hd.nodup (fun x hx => by obtain ⟨p, hp, rfl⟩ := List.mem_map.1 hx; exact h.sub p hp)
  rw [List.length_map, List.length_cons] at this
  omega
end
end Go.Proofs.YtnfkkopegbeacaaDoor
