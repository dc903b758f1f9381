/- table: a Table by what it holds; New, Set, Get; what else is left alone. -/
import Derived.Test.YtipgjpmaflcpkaaTbOps2
set_option maxRecDepth 100000
namespace Go.Proofs.Ytipgjpmaflcpkaa
open Go.RowKit
section
variable {w w' : World} {T m cap : Nat} {xs : List Nd}
theorem renew_any (h : Tb w T m cap xs) (k : List UInt8) (hk : k.length ≤ 100000) :
    Calls Try.prog 12 #[tP T, strT k] w fun e w' => e = .returned (.int .i64 (renewL (tbs xs) k).1) ∧ To w w' T m cap xs (renewL (tbs xs) k).2 := by
  unfold renewL
  rw [find_tbs]
  cases hf : fnd xs k with
  | none =>
    refine (renew_none h k hk hf).mono ?_
    rintro e w1 ⟨rfl, rfl⟩
    exact ⟨rfl, h.to_self (Below.refl _ _)⟩
  | some x =>
    obtain ⟨l, r, rfl⟩ := fnd_split hf
    refine (renew_some k h hk hf).mono ?_
    rintro e w1 ⟨rfl, ht⟩
    refine ⟨rfl, ?_⟩
    have hkx := (fnd_some hf).2
    show To w w1 T m cap (l ++ x :: r) (((tbs (l ++ x :: r)).filter fun p => !(p.1 == k)) ++ [(x.key, x.v)])
    rw [← hkx, tbs_others h.keys]
    have e1 : tbs (l ++ r) ++ [(x.key, x.v)] = tbs (l ++ r ++ [x]) := by unfold tbs; rw [List.map_append (l₁ := l ++ r)]; rfl
    rw [e1]
    exact ht
theorem get_any (h : Tb w T m cap xs) (k : List UInt8) (hk : k.length ≤ 100000) :
    Calls Try.prog 26 #[tP T, strT k] w fun e w' => e = .returned (match getL (tbs xs) k with | some v => .tuple #[vv v, .bool true] | none => .tuple #[.int .i64 0, .bool false]) ∧ w = w' := by
  have HC := Lib.hid (find_any h k hk)
  unfold getL
  rw [find_tbs]
  cases hf : fnd xs k with
  | none =>
    rw [hf] at HC
    clear h
    show Calls _ _ _ _ fun e w' => e = .returned (.tuple #[.int .i64 0, .bool false]) ∧ w = w'
    go_enter Try.func26, Try.ntmps26
    go_wp2_with fail
    refine HC.out.mono ?_
    rintro e w1 ⟨rfl, rfl⟩
    simp only [Option.map_none, pt_none]
    go_wp2_with fail
    go_ret2
    exact ⟨rfl, rfl⟩
  | some x =>
    rw [hf] at HC
    obtain ⟨l, r, rfl⟩ := fnd_split hf
    obtain ⟨_, hb, _⟩ := (chn_app (x :: r) none l none).1 h.chn
    have c1 : w.cell? ⟨x.b, 1, none⟩ = some (vv x.v) := hb.at rfl
    show Calls _ _ _ _ fun e w' => e = .returned (.tuple #[vv x.v, .bool true]) ∧ w = w'
    unfold vv at c1 ⊢
    clear h hb
    go_enter Try.func26, Try.ntmps26
    go_wp2_with fail
    refine HC.out.mono ?_
    rintro e w1 ⟨rfl, rfl⟩
    simp only [Option.map_some, pt_some]
    go_wp2_with fail
    go_ret2
    exact ⟨rfl, rfl⟩
theorem set_none (h : Tb w T m cap xs) (k : List UInt8) (v : VT) (hk : k.length ≤ 100000) (hf : fnd xs k = none) :
    Calls Try.prog 14 #[tP T, strT k, vv v] w fun e w' => e = .returned (.int .i64 6) ∧ w = w' := by
  have HC := Lib.hid (find_any h k hk)
  rw [hf] at HC
  unfold vv
  clear h
  go_enter Try.func14, Try.ntmps14
  go_wp2_with fail
  refine HC.out.mono ?_
  rintro e w1 ⟨rfl, rfl⟩
  simp only [Option.map_none, pt_none]
  go_wp2_with fail
  go_ret
  exact ⟨rfl, rfl⟩
theorem set_some (k : List UInt8) (v : VT) {x : Nd} {l r : List Nd} (h : Tb w T m cap (l ++ x :: r)) (hk : k.length ≤ 100000) (hf : fnd (l ++ x :: r) k = some x) :
    Calls Try.prog 14 #[tP T, strT k, vv v] w fun e w' => e = .returned (.int .i64 0) ∧ To w w' T m cap (l ++ x :: r) (tbs (l ++ ⟨x.b, x.key, v⟩ :: r)) := by
  have HC := Lib.hid (find_any h k hk)
  rw [hf] at HC
  obtain ⟨hcl, hb, hcr⟩ := (chn_app (x :: r) none l none).1 h.chn
  have c1 : w.cell? ⟨x.b, 1, none⟩ = some (.int .i64 x.v) := hb.at rfl
  have f1 := hb.free 1
  have hmap : ∀ (α : Type) (f : Nd → α), f ⟨x.b, x.key, v⟩ = f x → (l ++ ⟨x.b, x.key, v⟩ :: r).map f = (l ++ x :: r).map f := by
    intro α f hfx
    rw [List.map_append, List.map_append, List.map_cons, List.map_cons, hfx]
  have hfb := hmap Nat (fun q => q.b) rfl
  have hfk := hmap (List UInt8) (fun q => q.key) rfl
  have hnx : ∀ y ∈ l ++ r, y.b ≠ x.b := by
    have h1 := h.rg.nod
    rw [List.nodup_cons, List.map_append, List.map_cons] at h1
    obtain ⟨a1, a2, a3⟩ := List.nodup_append.1 h1.2
    intro y hy e
    rcases List.mem_append.1 hy with hy | hy
    · exact a3 y.b (List.mem_map.2 ⟨y, hy, rfl⟩) x.b (List.mem_cons_self ..) e
    · exact (List.nodup_cons.1 a2).1 (by rw [← e]; exact List.mem_map.2 ⟨y, hy, rfl⟩)
  have hTx : x.b ≠ T := fun e => (List.nodup_cons.1 h.rg.nod).1 (by rw [← e]; simp)
  have hmx : x.b ≠ m := fun e => h.nm (by rw [← e]; simp)
  have HP : Hid (To w (w.setCell ⟨x.b, 1, none⟩ (.int .i64 v)) T m cap (l ++ x :: r) (tbs (l ++ ⟨x.b, x.key, v⟩ :: r))) := by
    obtain ⟨D, hD, hI⟩ := h.map
    refine Lib.hid ⟨_, ⟨?_, ⟨D, ownsMap_at hD (Below.heap_setCell w _ _ m (fun e => hmx e.symm)), ⟨fun q z => ?_, by rw [hI.size, List.length_append, List.length_append]; rfl⟩⟩, ?_, ?_, ?_, ?_, ?_, h.cap⟩, rfl, (Trn.refl _ w).set (p := ⟨x.b, 1, none⟩) (by simp) _, fun y hy => .inl ?_⟩
    · have h1 := h.tbl.setOther (a := ⟨x.b, 1, none⟩) hTx (.int .i64 v)
      have e1 : hd (l ++ ⟨x.b, x.key, v⟩ :: r) none = hd (l ++ x :: r) none := by rw [hd_app, hd_app]; rfl
      have e2 : la none (l ++ ⟨x.b, x.key, v⟩ :: r) = la none (l ++ x :: r) := by rw [la_app, la_app]; rfl
      rw [e1, e2]
      exact h1
    · rw [hI.at' q z]
      unfold fnd
      rw [List.find?_append, List.find?_append, List.find?_cons, List.find?_cons]
      cases List.find? (fun y => y.key == q) l with
      | some y => rfl
      | none => cases x.key == q <;> rfl
    · refine (chn_app _ none l none).2 ⟨?_, ?_, ?_⟩
      · exact chn_set (a := ⟨x.b, 1, none⟩) hcl (fun y hy => hnx y (List.mem_append_left _ hy)) _
      · exact hb.set 1 (.int .i64 v)
      · exact chn_set (a := ⟨x.b, 1, none⟩) hcr (fun y hy => hnx y (List.mem_append_right _ hy)) _
    · show (T :: m :: (l ++ ⟨x.b, x.key, v⟩ :: r).map (fun q => q.b)).Nodup
      rw [hfb]; exact h.nod
    · show ((l ++ ⟨x.b, x.key, v⟩ :: r).map (fun q => q.key)).Nodup
      rw [hfk]; exact h.keys
    · intro y hy
      rcases List.mem_append.1 hy with hy | hy
      · exact h.len y (by simp [hy])
      · rcases List.mem_cons.1 hy with rfl | hy
        · exact h.len x (by simp)
        · exact h.len y (by simp [hy])
    · have := h.cnt
      rw [List.length_append, List.length_cons] at this ⊢
      exact this
    · have : y.b ∈ (l ++ ⟨x.b, x.key, v⟩ :: r).map (fun q => q.b) := List.mem_map.2 ⟨y, hy, rfl⟩
      rw [hfb] at this
      exact this
  unfold vv
  clear h hcl hb hcr hmap hfb hfk hnx
  go_enter Try.func14, Try.ntmps14
  go_wp2_with fail
  refine HC.out.mono ?_
  rintro e w1 ⟨rfl, rfl⟩
  simp only [Option.map_some, pt_some]
  go_wp2_with fail
  go_ret
  exact ⟨rfl, HP.out⟩
theorem set_any (h : Tb w T m cap xs) (k : List UInt8) (v : VT) (hk : k.length ≤ 100000) :
    Calls Try.prog 14 #[tP T, strT k, vv v] w fun e w' => e = .returned (.int .i64 (setL (tbs xs) k v).1) ∧ To w w' T m cap xs (setL (tbs xs) k v).2 := by
  unfold setL
  rw [hasL_fnd]
  cases hf : fnd xs k with
  | none =>
    refine (set_none h k v hk hf).mono ?_
    rintro e w1 ⟨rfl, rfl⟩
    exact ⟨rfl, h.to_self (Below.refl _ _)⟩
  | some x =>
    obtain ⟨l, r, rfl⟩ := fnd_split hf
    refine (set_some k v h hk hf).mono ?_
    rintro e w1 ⟨rfl, ht⟩
    refine ⟨rfl, ?_⟩
    have hkx := (fnd_some hf).2
    have hno : ∀ y ∈ l ++ r, y.key ≠ x.key := by
      have hk := h.keys
      rw [List.map_append, List.map_cons] at hk
      obtain ⟨h1, h2, h3⟩ := List.nodup_append.1 hk
      intro y hy e
      rcases List.mem_append.1 hy with hy | hy
      · exact h3 y.key (List.mem_map.2 ⟨y, hy, rfl⟩) x.key (List.mem_cons_self ..) e
      · exact (List.nodup_cons.1 h2).1 (by rw [← e]; exact List.mem_map.2 ⟨y, hy, rfl⟩)
    have key : ∀ z : List Nd, (∀ y ∈ z, y.key ≠ x.key) → (tbs z).map (fun p => if (p.1 == x.key) = true then (x.key, v) else p) = tbs z := by
      intro z hz
      unfold tbs
      rw [List.map_map]
      refine List.map_congr_left fun y hy => ?_
      show (if (y.key == x.key) = true then (x.key, v) else (y.key, y.v)) = (y.key, y.v)
      rw [if_neg (by simpa using hz y hy)]
    show To w w1 T m cap (l ++ x :: r) ((tbs (l ++ x :: r)).map fun p => if (p.1 == k) = true then (k, v) else p)
    have e1 : (tbs (l ++ x :: r)).map (fun p => if (p.1 == k) = true then (k, v) else p) = tbs (l ++ ⟨x.b, x.key, v⟩ :: r) := by
      rw [← hkx]
      have a1 := key l (fun y hy => hno y (List.mem_append_left _ hy))
      have a2 := key r (fun y hy => hno y (List.mem_append_right _ hy))
      unfold tbs at a1 a2 ⊢
      rw [List.map_append, List.map_append, List.map_append, List.map_cons, List.map_cons, List.map_cons, a1, a2, if_pos (by simp)]
    rw [e1]
    exact ht
end
end Go.Proofs.Ytipgjpmaflcpkaa
