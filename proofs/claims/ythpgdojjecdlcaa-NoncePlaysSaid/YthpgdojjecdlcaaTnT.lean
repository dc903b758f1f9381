/- table: a Table by what it holds; New, Set, Get; what else is left alone. -/
import Derived.Test.YthpgdojjecdlcaaTnOps2
set_option maxRecDepth 100000
namespace Go.Proofs.Ythpgdojjecdlcaa
open Go.RowKit
section
variable {w w' : World} {T m cap : Nat} {xs : List Nd}
theorem Tb.xlt (h : Tb w T m cap xs) : ∀ x ∈ xs, x.b < w.heap.size := fun x hx => chn_lt xs none none h.chn x hx
theorem get_none (h : Tb w T m cap xs) (k : List UInt8) (hk : k.length ≤ 100000) (hf : fnd xs k = none) :
    Calls Try.prog 37 #[tP T, strT k] w fun e w' => e = .returned (.tuple #[.agg #[.string ⟨#[]⟩, .int .u64 0, .bool false, .int .u32 0], .bool false]) ∧ Below w.heap.size w w' := by
  have HC := Lib.hid (find_any (h.keep ((Below.refl _ w).alloc (Nat.le_refl _) (.cells #[.string ⟨#[]⟩, .int .u64 0, .bool false, .int .u32 0] 68))) k hk)
  rw [hf] at HC
  clear h
  go_enter Try.func37, Try.ntmps37
  go_wp2_with fail
  refine HC.out.mono ?_
  rintro e w1 ⟨rfl, rfl⟩
  simp only [Option.map_none, pt_none]
  go_wp2_with fail
  refine bodyPost_ret (v := .tuple #[.agg #[.string ⟨#[]⟩, .int .u64 0, .bool false, .int .u32 0], .bool false]) (by simp [results, Try.results37, go_sem]) rfl ⟨rfl, ?_⟩
  exact ((Below.refl _ w).alloc (Nat.le_refl _) _).alloc (by simp) _
theorem get_some (k : List UInt8) {x : Nd} {l r : List Nd} (h : Tb w T m cap (l ++ x :: r)) (hk : k.length ≤ 100000) (hf : fnd (l ++ x :: r) k = some x) :
    Calls Try.prog 37 #[tP T, strT k] w fun e w' => e = .returned (.tuple #[vv x.v, .bool true]) ∧ Below w.heap.size w w' := by
  have HC := Lib.hid (find_any (h.keep ((Below.refl _ w).alloc (Nat.le_refl _) (.cells #[.string ⟨#[]⟩, .int .u64 0, .bool false, .int .u32 0] 68))) k hk)
  rw [hf] at HC
  obtain ⟨_, hb, _⟩ := (chn_app (x :: r) none l none).1 h.chn
  have hlt := hb.lt
  have c1 : w.cell? ⟨x.b, 1, none⟩ = some (strT x.v.s) := hb.at rfl
  have c2 : w.cell? ⟨x.b, 2, none⟩ = some (.int .u64 x.v.a) := hb.at rfl
  have c3 : w.cell? ⟨x.b, 3, none⟩ = some (.bool x.v.sp) := hb.at rfl
  have c4 : w.cell? ⟨x.b, 4, none⟩ = some (.int .u32 x.v.ct) := hb.at rfl
  unfold vv
  obtain ⟨xb, xk, ⟨x1, x2, x3, x4⟩⟩ := x
  simp only at c1 c2 c3 c4 hlt ⊢
  clear h hb
  go_enter Try.func37, Try.ntmps37
  go_wp2_with fail
  refine HC.out.mono ?_
  rintro e w1 ⟨rfl, rfl⟩
  simp only [Option.map_some, pt_some]
  go_wp2_with fail
  refine bodyPost_ret (v := .tuple #[.agg #[strT x1, .int .u64 x2, .bool x3, .int .u32 x4], .bool true]) (by simp [results, Try.results37, go_sem]) rfl ⟨rfl, ?_⟩
  exact (Below.refl _ w).alloc (Nat.le_refl _) _
theorem get_any (h : Tb w T m cap xs) (k : List UInt8) (hk : k.length ≤ 100000) :
    Calls Try.prog 37 #[tP T, strT k] w fun e w' => e = .returned (match getL (tbs xs) k with | some v => .tuple #[vv v, .bool true] | none => .tuple #[.agg #[.string ⟨#[]⟩, .int .u64 0, .bool false, .int .u32 0], .bool false]) ∧ Below w.heap.size w w' := by
  unfold getL
  rw [find_tbs]
  cases hf : fnd xs k with
  | none => exact get_none h k hk hf
  | some x =>
    obtain ⟨l, r, rfl⟩ := fnd_split hf
    exact get_some k h hk hf
theorem set_none (h : Tb w T m cap xs) (k : List UInt8) (v : VT) (hk : k.length ≤ 100000) (hf : fnd xs k = none) :
    Calls Try.prog 30 #[tP T, strT k, vv v] w fun e w' => e = .returned (.int .i64 6) ∧ Below w.heap.size w w' := by
  have HC := Lib.hid (find_any (h.keep ((Below.refl _ w).alloc (Nat.le_refl _) (.cells #[strT v.s, .int .u64 v.a, .bool v.sp, .int .u32 v.ct] 68))) k hk)
  rw [hf] at HC
  unfold vv
  clear h
  go_enter Try.func30, Try.ntmps30
  go_wp2_with fail
  refine HC.out.mono ?_
  rintro e w1 ⟨rfl, rfl⟩
  simp only [Option.map_none, pt_none]
  go_wp2_with fail
  go_ret
  exact ⟨rfl, (Below.refl _ w).alloc (Nat.le_refl _) _⟩
theorem set_some (k : List UInt8) (v : VT) {x : Nd} {l r : List Nd} (h : Tb w T m cap (l ++ x :: r)) (hk : k.length ≤ 100000) (hf : fnd (l ++ x :: r) k = some x) :
    Calls Try.prog 30 #[tP T, strT k, vv v] w fun e w' => e = .returned (.int .i64 0) ∧ To w w' T m cap (l ++ x :: r) (tbs (l ++ ⟨x.b, x.key, v⟩ :: r)) := by
  have hw := h
  replace h := h.keep ((Below.refl _ w).alloc (Nat.le_refl _) (.cells #[strT v.s, .int .u64 v.a, .bool v.sp, .int .u32 v.ct] 68))
  obtain ⟨W, hW⟩ : ∃ W, W = w.alloc (.cells #[strT v.s, .int .u64 v.a, .bool v.sp, .int .u32 v.ct] 68) := ⟨_, rfl⟩
  have hBW : Below w.heap.size w W := by rw [hW]; exact (Below.refl _ w).alloc (Nat.le_refl _) _
  have hP : BlkT W w.heap.size 68 [strT v.s, .int .u64 v.a, .bool v.sp, .int .u32 v.ct] := by rw [hW]; exact heap_alloc_new w _
  have HZ := Lib.hid hw.xlt
  clear hw
  rw [← hW] at h
  have HC := Lib.hid (find_any h k hk)
  rw [hf] at HC
  have p0 : W.cell? ⟨w.heap.size, 0, none⟩ = some (strT v.s) := hP.at rfl
  have p1 : W.cell? ⟨w.heap.size, 1, none⟩ = some (.int .u64 v.a) := hP.at rfl
  have p2 : W.cell? ⟨w.heap.size, 2, none⟩ = some (.bool v.sp) := hP.at rfl
  have p3 : W.cell? ⟨w.heap.size, 3, none⟩ = some (.int .u32 v.ct) := hP.at rfl
  obtain ⟨hcl, hb, hcr⟩ := (chn_app (x :: r) none l none).1 h.chn
  have c1 : W.cell? ⟨x.b, 1, none⟩ = some (strT x.v.s) := hb.at rfl
  have c2 : W.cell? ⟨x.b, 2, none⟩ = some (.int .u64 x.v.a) := hb.at rfl
  have c3 : W.cell? ⟨x.b, 3, none⟩ = some (.bool x.v.sp) := hb.at rfl
  have c4 : W.cell? ⟨x.b, 4, none⟩ = some (.int .u32 x.v.ct) := hb.at rfl
  have f1 := hb.free 1
  have f2 := hb.free 2
  have f3 := hb.free 3
  have f4 := hb.free 4
  have hmap : ∀ (α : Type) (f : Nd → α), f ⟨x.b, x.key, v⟩ = f x → (l ++ ⟨x.b, x.key, v⟩ :: r).map f = (l ++ x :: r).map f := by
    intro α f hfx
    rw [List.map_append, List.map_append, List.map_cons, List.map_cons, hfx]
  have hfb := hmap Nat (fun q => q.b) rfl
  have hfk := hmap (List UInt8) (fun q => q.key) rfl
  have hnx : ∀ y ∈ l ++ r, y.b ≠ x.b := by
    have h1 := h.rg.nod
    rw [List.nodup_cons, List.map_append, List.map_cons] at h1
    obtain ⟨a1, a2, a3⟩ := List.nodup_append.1 h1.2
    intro y hy e
    rcases List.mem_append.1 hy with hy | hy
    · exact a3 y.b (List.mem_map.2 ⟨y, hy, rfl⟩) x.b (List.mem_cons_self ..) e
    · exact (List.nodup_cons.1 a2).1 (by rw [← e]; exact List.mem_map.2 ⟨y, hy, rfl⟩)
  have hTx : x.b ≠ T := fun e => (List.nodup_cons.1 h.rg.nod).1 (by rw [← e]; simp)
  have hmx : x.b ≠ m := fun e => h.nm (by rw [← e]; simp)
  have HP : Hid (To w ((((W.setCell ⟨x.b, 1, none⟩ (strT v.s)).setCell ⟨x.b, 2, none⟩ (.int .u64 v.a)).setCell ⟨x.b, 3, none⟩ (.bool v.sp)).setCell ⟨x.b, 4, none⟩ (.int .u32 v.ct)) T m cap (l ++ x :: r) (tbs (l ++ ⟨x.b, x.key, v⟩ :: r))) := by
    obtain ⟨D, hD, hI⟩ := h.map
    refine Lib.hid ⟨_, ⟨?_, ⟨D, ownsMap_at hD ((Below.heap_setCell _ _ _ m (fun e => hmx e.symm)).trans ((Below.heap_setCell _ _ _ m (fun e => hmx e.symm)).trans ((Below.heap_setCell _ _ _ m (fun e => hmx e.symm)).trans (Below.heap_setCell W _ _ m (fun e => hmx e.symm))))), ⟨fun q z => ?_, by rw [hI.size, List.length_append, List.length_append]; rfl⟩⟩, ?_, ?_, ?_, ?_, ?_, h.cap⟩, rfl, ((((Trn.of_below (S := T :: m :: (l ++ x :: r).map (·.b)) hBW).set (p := ⟨x.b, 1, none⟩) (by simp) _).set (p := ⟨x.b, 2, none⟩) (by simp) _).set (p := ⟨x.b, 3, none⟩) (by simp) _).set (p := ⟨x.b, 4, none⟩) (by simp) _, fun y hy => .inl ?_⟩
    · have h1 := (((h.tbl.setOther (a := ⟨x.b, 1, none⟩) hTx (strT v.s)).setOther (a := ⟨x.b, 2, none⟩) hTx (.int .u64 v.a)).setOther (a := ⟨x.b, 3, none⟩) hTx (.bool v.sp)).setOther (a := ⟨x.b, 4, none⟩) hTx (.int .u32 v.ct)
      have e1 : hd (l ++ ⟨x.b, x.key, v⟩ :: r) none = hd (l ++ x :: r) none := by rw [hd_app, hd_app]; rfl
      have e2 : la none (l ++ ⟨x.b, x.key, v⟩ :: r) = la none (l ++ x :: r) := by rw [la_app, la_app]; rfl
      rw [e1, e2]
      exact h1
    · rw [hI.at' q z]
      unfold fnd
      rw [List.find?_append, List.find?_append, List.find?_cons, List.find?_cons]
      cases List.find? (fun y => y.key == q) l with
      | some y => rfl
      | none => cases x.key == q <;> rfl
    · refine (chn_app _ none l none).2 ⟨?_, ?_, ?_⟩
      · exact chn_set (a := ⟨x.b, 4, none⟩) (chn_set (a := ⟨x.b, 3, none⟩) (chn_set (a := ⟨x.b, 2, none⟩) (chn_set (a := ⟨x.b, 1, none⟩) hcl (fun y hy => hnx y (List.mem_append_left _ hy)) _) (fun y hy => hnx y (List.mem_append_left _ hy)) _) (fun y hy => hnx y (List.mem_append_left _ hy)) _) (fun y hy => hnx y (List.mem_append_left _ hy)) _
      · exact (((hb.set 1 (strT v.s)).set 2 (.int .u64 v.a)).set 3 (.bool v.sp)).set 4 (.int .u32 v.ct)
      · exact chn_set (a := ⟨x.b, 4, none⟩) (chn_set (a := ⟨x.b, 3, none⟩) (chn_set (a := ⟨x.b, 2, none⟩) (chn_set (a := ⟨x.b, 1, none⟩) hcr (fun y hy => hnx y (List.mem_append_right _ hy)) _) (fun y hy => hnx y (List.mem_append_right _ hy)) _) (fun y hy => hnx y (List.mem_append_right _ hy)) _) (fun y hy => hnx y (List.mem_append_right _ hy)) _
    · show (T :: m :: (l ++ ⟨x.b, x.key, v⟩ :: r).map (fun q => q.b)).Nodup
      rw [hfb]; exact h.nod
    · show ((l ++ ⟨x.b, x.key, v⟩ :: r).map (fun q => q.key)).Nodup
      rw [hfk]; exact h.keys
    · intro y hy
      rcases List.mem_append.1 hy with hy | hy
      · exact h.len y (by simp [hy])
      · rcases List.mem_cons.1 hy with rfl | hy
        · exact h.len x (by simp)
        · exact h.len y (by simp [hy])
    · have := h.cnt
      rw [List.length_append, List.length_cons] at this ⊢
      exact this
    · have : y.b ∈ (l ++ ⟨x.b, x.key, v⟩ :: r).map (fun q => q.b) := List.mem_map.2 ⟨y, hy, rfl⟩
      rw [hfb] at this
      exact this
  unfold vv
  have hxb : x.b ≠ w.heap.size := fun e => by have := HZ.out x (by simp); omega
  have hxb' : w.heap.size ≠ x.b := fun e => hxb e.symm
  clear h hcl hb hcr hmap hfb hfk hnx hP hBW
  subst hW
  go_enter Try.func30, Try.ntmps30
  go_wp2_with fail
  refine HC.out.mono ?_
  rintro e w1 ⟨rfl, rfl⟩
  simp only [Option.map_some, pt_some]
  go_wp2_with fail
  go_ret
  exact ⟨rfl, HP.out⟩
theorem set_any (h : Tb w T m cap xs) (k : List UInt8) (v : VT) (hk : k.length ≤ 100000) :
    Calls Try.prog 30 #[tP T, strT k, vv v] w fun e w' => e = .returned (.int .i64 (setL (tbs xs) k v).1) ∧ To w w' T m cap xs (setL (tbs xs) k v).2 := by
  unfold setL
  rw [hasL_fnd]
  cases hf : fnd xs k with
  | none =>
    refine (set_none h k v hk hf).mono ?_
    rintro e w1 ⟨rfl, hB⟩
    exact ⟨rfl, h.to_self hB⟩
  | some x =>
    obtain ⟨l, r, rfl⟩ := fnd_split hf
    refine (set_some k v h hk hf).mono ?_
    rintro e w1 ⟨rfl, ht⟩
    refine ⟨rfl, ?_⟩
    have hkx := (fnd_some hf).2
    have hno : ∀ y ∈ l ++ r, y.key ≠ x.key := by
      have hk := h.keys
      rw [List.map_append, List.map_cons] at hk
      obtain ⟨h1, h2, h3⟩ := List.nodup_append.1 hk
      intro y hy e
      rcases List.mem_append.1 hy with hy | hy
      · exact h3 y.key (List.mem_map.2 ⟨y, hy, rfl⟩) x.key (List.mem_cons_self ..) e
      · exact (List.nodup_cons.1 h2).1 (by rw [← e]; exact List.mem_map.2 ⟨y, hy, rfl⟩)
    have key : ∀ z : List Nd, (∀ y ∈ z, y.key ≠ x.key) → (tbs z).map (fun p => if (p.1 == x.key) = true then (x.key, v) else p) = tbs z := by
      intro z hz
      unfold tbs
      rw [List.map_map]
      refine List.map_congr_left fun y hy => ?_
      show (if (y.key == x.key) = true then (x.key, v) else (y.key, y.v)) = (y.key, y.v)
      rw [if_neg (by simpa using hz y hy)]
    show To w w1 T m cap (l ++ x :: r) ((tbs (l ++ x :: r)).map fun p => if (p.1 == k) = true then (k, v) else p)
    have e1 : (tbs (l ++ x :: r)).map (fun p => if (p.1 == k) = true then (k, v) else p) = tbs (l ++ ⟨x.b, x.key, v⟩ :: r) := by
      rw [← hkx]
      have a1 := key l (fun y hy => hno y (List.mem_append_left _ hy))
      have a2 := key r (fun y hy => hno y (List.mem_append_right _ hy))
      unfold tbs at a1 a2 ⊢
      rw [List.map_append, List.map_append, List.map_append, List.map_cons, List.map_cons, List.map_cons, a1, a2, if_pos (by simp)]
    rw [e1]
    exact ht
end
end Go.Proofs.Ythpgdojjecdlcaa
