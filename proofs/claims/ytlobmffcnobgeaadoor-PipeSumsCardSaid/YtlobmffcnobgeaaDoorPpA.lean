/- The library's Delete of the first bytes of a slice of one's own, and its Clone. pipe: a Pipe in memory; one of its directions; Shut, Room, Over. pipe: Write, Read. -/
import Derived.Test.YtlobmffcnobgeaaDoorFrDel
import Derived.Test.YtlobmffcnobgeaaDoorHashS
import Derived.Test.YtlobmffcnobgeaaDoorTrs
import Derived.OwnWalk
import Derived.Test.YtlobmffcnobgeaaDoorStepSl
import Derived.Test.YtlobmffcnobgeaaDoorCut2
set_option maxRecDepth 100000
namespace Go.Proofs.YtlobmffcnobgeaaDoor
open Go.RowKit
attribute [local go_sem] Oper.semAt_some
theorem clone_nil (w : World) : Calls Tryd.prog 37 #[.slice none 0 0] w fun e w' => e = .returned (.slice none 0 0) ∧ w' = w := by
  have hnil := Lib.run_eql_slice_nil (P := Tryd.prog) w 29 5 none 0 0 0 0 Tryd.underlying29
  go_enter Tryd.func37, Tryd.ntmps37
  go_wp2_with fail
  go_ret
  exact ⟨rfl, rfl⟩
theorem clone_all (B : Nat) (v : Value) (l : List UInt8) (w : World) (hv : Sl w B v l) (hB : B ≤ w.heap.size) (hl : l.length ≤ 1000000) :
    Calls Tryd.prog 37 #[v] w fun e w' => ∃ v', e = .returned v' ∧ OwnB w' w.heap.size v' l ∧ Below w.heap.size w w' := by
  obtain ⟨A, c, rfl, h0, h1, h2, h3⟩ := id hv
  cases A with
  | some a => exact clone_any B a _ c l w hv hB hl
  | none =>
    obtain rfl := h0 rfl
    obtain rfl : l = [] := List.eq_nil_of_length_eq_zero (by omega)
    refine (clone_nil w).mono ?_
    rintro e w' ⟨rfl, rfl⟩
    exact ⟨_, rfl, OwnB.nil _ _, Below.refl _ _⟩
theorem del_first (base : Nat) (v : Value) (l : List UInt8) (n : Nat) (w : World) (h : OwnB w base v l) (hn : n ≤ l.length) (hl : l.length ≤ 1000000) :
    Calls Tryd.prog 38 #[v, .int .i64 0, .int .i64 (n : Int)] w fun e w' => ∃ v', e = .returned v' ∧ OwnB w' base v' (l.drop n) ∧ v'.ownBlock = v.ownBlock ∧ w.grownBy w' v.ownBlock := by
  rcases h.parts with ⟨rfl, rfl⟩ | ⟨g, cap, rfl, _, hg, hc, hm, _, _⟩
  · obtain rfl : n = 0 := by simp at hn; exact hn
    have HO := Lib.hid h; clear h
    go_enter Tryd.func38, Tryd.ntmps38
    go_wp2_with fail
    go_ret
    exact ⟨_, rfl, HO.out, rfl, World.grownBy.refl _ _⟩
  · by_cases h0 : n = 0
    · subst h0
      have HO := Lib.hid h; clear h
      unfold maxLen at hm
      obtain ⟨N, hN⟩ : ∃ N, N = l.length := ⟨_, rfl⟩
      rw [← hN] at hc HO ⊢
      clear hN
      go_enter Tryd.func38, Tryd.ntmps38
      go_wp2_with fail
      go_ret
      exact ⟨_, rfl, HO.out, rfl, World.grownBy.refl _ _⟩
    · refine (delete_any base g cap l n w h hn (by omega) hl).mono ?_
      rintro e w' ⟨rfl, h1, h2⟩
      exact ⟨_, rfl, h1, rfl, h2⟩
end Go.Proofs.YtlobmffcnobgeaaDoor
set_option maxRecDepth 100000
namespace Go.Proofs.YtlobmffcnobgeaaDoor
open Go.RowKit
attribute [local go_sem] Oper.semAt_some
abbrev tP (b : Nat) : Value := .pointer (some ⟨b, 0, none⟩)
/-- A direction: what waits, is it shut, how many were taken, what was read. -/
structure WayL where
  buf : List UInt8
  shut : Bool
  wrote : Nat
  read : List UInt8
def upd {α : Type} (f : Nat → α) (i : Nat) (x : α) : Nat → α := fun j => if j = i then x else f j
theorem upd_same {α : Type} (f : Nat → α) (i : Nat) (x : α) : upd f i x i = x := by simp [upd]
theorem upd_other {α : Type} (f : Nat → α) (i j : Nat) (x : α) (h : j ≠ i) : upd f i x j = f j := by simp [upd, h]
def ppc (room : Nat) (V : Nat → Value) (H : Nat → Nat) (X : Nat → WayL) : List Value :=
  [.int .i64 (room : Int), V 0, .bool (X 0).shut, .int .u64 (un (X 0).wrote), tP (H 0), V 1, .bool (X 1).shut, .int .u64 (un (X 1).wrote), tP (H 1)]
/-- The blocks of a Pipe. -/
def ppS (b : Nat) (V : Nat → Value) (H : Nat → Nat) : List Nat := [b, H 0, H 1] ++ ((V 0).ownBlock.toList ++ (V 1).ownBlock.toList)
structure PP (w : World) (base b room : Nat) (V : Nat → Value) (H : Nat → Nat) (X : Nat → WayL) : Prop where
  blk : Blk w b (ppc room V H X)
  own : ∀ i, i < 2 → OwnB w base (V i) (X i).buf
  hash : ∀ i, i < 2 → HashM w (H i) (X i).read
  geb : base ≤ b
  geh : ∀ i, i < 2 → base ≤ H i
  aph : ∀ i j, i < 2 → j < 2 → (V i).ownBlock ≠ some (H j)
  apb : ∀ i, i < 2 → (V i).ownBlock ≠ some b ∧ H i ≠ b
  apv : ∀ k, (V 0).ownBlock = some k → (V 1).ownBlock ≠ some k
  app : H 0 ≠ H 1
  r1 : 1 ≤ room
  r2 : room ≤ 4096
  len : ∀ i, i < 2 → (X i).buf.length ≤ room
  tab : TabA w
  glob : 1 < base
theorem HashM.trs {S : List Nat} {w w' : World} {b : Nat} {m : List UInt8} (h : HashM w b m) (ht : Trs S w w') (hb : b ∉ S) : HashM w' b m := by
  obtain ⟨t, h1, h2⟩ := h
  exact ⟨t, ⟨ht.blk h1.blk hb, h1.len⟩, h2⟩
theorem OwnB.trs {S : List Nat} {w w' : World} {base : Nat} {v : Value} {l : List UInt8} (h : OwnB w base v l) (ht : Trs S w w') (hb : ∀ k, v.ownBlock = some k → k ∉ S) : OwnB w' base v l := by
  obtain ⟨h1, h2 | ⟨g, cap, cur, rfl, hb', hg, h3⟩⟩ := h
  · exact ⟨h1, .inl h2⟩
  · exact ⟨h1, .inr ⟨g, cap, cur, rfl, hb', (ht.block g (Array.getElem?_eq_some_iff.1 hg).1 (hb g rfl)).trans hg, h3⟩⟩
theorem OwnB.ownLt {w : World} {base : Nat} {v : Value} {l : List UInt8} (h : OwnB w base v l) {k : Nat} (hk : v.ownBlock = some k) : base ≤ k ∧ k < w.heap.size := h.lt k hk
section
variable {w w' : World} {base b room : Nat} {V : Nat → Value} {H : Nat → Nat} {X : Nat → WayL}
theorem PP.size (h : PP w base b room V H X) : base ≤ w.heap.size := Nat.le_trans h.geb (Nat.le_of_lt h.blk.lt)
theorem PP.inS (h : PP w base b room V H X) : ∀ k ∈ ppS b V H, base ≤ k ∧ k < w.heap.size := by
  intro k hk
  simp only [ppS, List.mem_append, List.mem_cons, List.not_mem_nil, or_false, Option.mem_toList] at hk
  rcases hk with (rfl | rfl | rfl) | hk | hk
  · exact ⟨h.geb, h.blk.lt⟩
  · exact ⟨h.geh 0 (by omega), (h.hash 0 (by omega)).lt⟩
  · exact ⟨h.geh 1 (by omega), (h.hash 1 (by omega)).lt⟩
  · exact (h.own 0 (by omega)).lt k hk
  · exact (h.own 1 (by omega)).lt k hk
/-- What doesn't turn a Pipe's blocks keeps it. -/
theorem PP.trs {S : List Nat} (h : PP w base b room V H X) (ht : Trs S w w') (hS : ∀ k ∈ ppS b V H, k ∉ S) (hg : 1 ∉ S) : PP w' base b room V H X := by
  have i0 : ∀ i, i < 2 → H i ∉ S := fun i hi => hS _ (by rcases (show i = 0 ∨ i = 1 by omega) with rfl | rfl <;> simp [ppS])
  refine ⟨ht.blk h.blk (hS _ (by simp [ppS])), fun i hi => (h.own i hi).trs ht (fun k hk => hS _ ?_), fun i hi => (h.hash i hi).trs ht (i0 i hi), h.geb, h.geh, h.aph, h.apb, h.apv, h.app, h.r1, h.r2, h.len, fun j hj => ?_, h.glob⟩
  · rcases (show i = 0 ∨ i = 1 by omega) with rfl | rfl <;> simp [ppS, hk]
  · have hc := h.tab j hj
    have hl : 1 < w.heap.size := Nat.lt_of_lt_of_le h.glob h.size
    rw [← hc]
    simp only [World.cell?, ht.block _ hl hg]
theorem PP.below (h : PP w base b room V H X) (hb : Below w.heap.size w w') : PP w' base b room V H X :=
  h.trs (S := []) (Trs.of_below hb) (fun _ _ => by simp) (by simp)
/-- One direction has turned. -/
theorem PP.turn (h : PP w base b room V H X) (i : Nat) (hi : i < 2) (v' : Value) (x' : WayL) (S : List Nat) (ht : Trs S w w') (hS : ∀ k ∈ S, k = b ∨ k = H i ∨ (V i).ownBlock = some k)
    (hk : Blk w' b (ppc room (upd V i v') H (upd X i x'))) (ho : OwnB w' base v' x'.buf) (hh : HashM w' (H i) x'.read) (hv : ∀ k, v'.ownBlock = some k → (V i).ownBlock = some k ∨ w.heap.size ≤ k) (hl : x'.buf.length ≤ room) :
    PP w' base b room (upd V i v') H (upd X i x') ∧ Trs (ppS b V H) w w' ∧ (∀ k ∈ ppS b (upd V i v') H, k ∈ ppS b V H ∨ w.heap.size ≤ k) := by
  have hSin : ∀ k ∈ S, k ∈ ppS b V H := by
    intro k hk
    rcases hS k hk with rfl | rfl | hk
    · simp [ppS]
    · rcases (show i = 0 ∨ i = 1 by omega) with rfl | rfl <;> simp [ppS]
    · rcases (show i = 0 ∨ i = 1 by omega) with rfl | rfl <;> simp [ppS, hk]
  have hb0 := h.apb
  have hvj : ∀ j k, j < 2 → j ≠ i → (V j).ownBlock = some k → k ∉ S := by
    intro j k hj hne hq hm
    rcases hS k hm with hk' | hk' | hk'
    · exact (hb0 j hj).1 (hk' ▸ hq)
    · exact h.aph j i hj hi (hk' ▸ hq)
    · rcases (show i = 0 ∨ i = 1 by omega) with rfl | rfl
      · obtain rfl : j = 1 := by omega
        exact h.apv k hk' hq
      · obtain rfl : j = 0 := by omega
        exact h.apv k hq hk'
  have hhj : ∀ j, j < 2 → j ≠ i → H j ∉ S := by
    intro j hj hne hm
    rcases hS _ hm with hk | hk | hk
    · exact (hb0 j hj).2 hk
    · rcases (show i = 0 ∨ i = 1 by omega) with rfl | rfl
      · obtain rfl : j = 1 := by omega
        exact h.app hk.symm
      · obtain rfl : j = 0 := by omega
        exact h.app hk
    · exact h.aph i j hi hj hk
  have hlt : ∀ j, j < 2 → H j < w.heap.size := fun j hj => (h.hash j hj).lt
  have hvn : ∀ k, v'.ownBlock = some k → (∀ j, j < 2 → k ≠ H j) ∧ k ≠ b ∧ (∀ j, j < 2 → j ≠ i → (V j).ownBlock ≠ some k) := by
    intro k hk
    rcases hv k hk with h1 | h1
    · refine ⟨fun j hj e => h.aph i j hi hj (by rw [← e]; exact h1), fun e => (hb0 i hi).1 (by rw [← e]; exact h1), fun j hj hne e => ?_⟩
      rcases (show i = 0 ∨ i = 1 by omega) with rfl | rfl
      · obtain rfl : j = 1 := by omega
        exact h.apv k h1 e
      · obtain rfl : j = 0 := by omega
        exact h.apv k e h1
    · refine ⟨fun j hj e => by have := hlt j hj; omega, fun e => by have := h.blk.lt; omega, fun j hj hne e => by have := (h.own j hj).lt k e; omega⟩
  refine ⟨⟨hk, fun j hj => ?_, fun j hj => ?_, h.geb, h.geh, fun j m hj hm => ?_, fun j hj => ?_, fun k => ?_, h.app, h.r1, h.r2, fun j hj => ?_, fun j hj => ?_, h.glob⟩, ht.mono hSin, fun k hk => ?_⟩
  · by_cases hj' : j = i
    · subst hj'; rw [upd_same, upd_same]; exact ho
    · rw [upd_other _ _ _ _ hj', upd_other _ _ _ _ hj']; exact (h.own j hj).trs ht (fun k hk => hvj j k hj hj' hk)
  · by_cases hj' : j = i
    · subst hj'; rw [upd_same]; exact hh
    · rw [upd_other _ _ _ _ hj']; exact (h.hash j hj).trs ht (hhj j hj hj')
  · by_cases hj' : j = i
    · subst hj'; rw [upd_same]; exact fun e => (hvn _ e).1 m hm rfl
    · rw [upd_other _ _ _ _ hj']; exact h.aph j m hj hm
  · by_cases hj' : j = i
    · subst hj'; rw [upd_same]; exact ⟨fun e => (hvn _ e).2.1 rfl, (hb0 j hj).2⟩
    · rw [upd_other _ _ _ _ hj']; exact hb0 j hj
  · rcases (show i = 0 ∨ i = 1 by omega) with rfl | rfl
    · rw [upd_same, upd_other _ _ _ _ (by omega)]
      exact fun e => (hvn k e).2.2 1 (by omega) (by omega)
    · rw [upd_same, upd_other _ _ _ _ (by omega)]
      exact fun e e2 => (hvn k e2).2.2 0 (by omega) (by omega) e
  · by_cases hj' : j = i
    · subst hj'; rw [upd_same]; exact hl
    · rw [upd_other _ _ _ _ hj']; exact h.len j hj
  · have hc := h.tab j hj
    have hl : 1 < w.heap.size := Nat.lt_of_lt_of_le h.glob h.size
    rw [← hc]
    simp only [World.cell?, ht.block _ hl (fun hm => by have := (h.inS _ (hSin _ hm)).1; have := h.glob; omega)]
  · simp only [ppS, List.mem_append, List.mem_cons, List.not_mem_nil, or_false, Option.mem_toList] at hk ⊢
    rcases (show i = 0 ∨ i = 1 by omega) with rfl | rfl
    · rw [upd_same, upd_other _ _ _ _ (by omega)] at hk
      rcases hk with hk | hk | hk
      · exact .inl (.inl hk)
      · rcases hv k hk with h1 | h1
        · exact .inl (.inr (.inl h1))
        · exact .inr h1
      · exact .inl (.inr (.inr hk))
    · rw [upd_same, upd_other _ _ _ _ (by omega)] at hk
      rcases hk with hk | hk | hk
      · exact .inl (.inl hk)
      · exact .inl (.inr (.inl hk))
      · rcases hv k hk with h1 | h1
        · exact .inl (.inr (.inr h1))
        · exact .inr h1
end
/-- The address of a direction. -/
abbrev dirP (b i : Nat) : Value := .pointer (some ⟨b, 1 + 4 * i, none⟩)
theorem dir_nil (k : Int) (w : World) : Calls Tryd.prog 30 #[.pointer none, .int .i64 k] w fun e w' => e = .returned (.tuple #[.pointer none, .int .i64 6]) ∧ w' = w := by
  go_enter Tryd.func30, Tryd.ntmps30
  go_wp2_with fail
  go_ret2
  exact ⟨rfl, rfl⟩
theorem dir_bad (b : Nat) (k : Int) (hk : k ≠ 0 ∧ k ≠ 1) (w : World) : Calls Tryd.prog 30 #[tP b, .int .i64 k] w fun e w' => e = .returned (.tuple #[.pointer none, .int .i64 1]) ∧ w' = w := by
  have h0 : (k != 0) = true := bne_iff_ne.2 hk.1
  have h1 : (k != 1) = true := bne_iff_ne.2 hk.2
  clear hk
  go_enter Tryd.func30, Tryd.ntmps30
  go_wp2_with fail
  go_ret2
  exact ⟨rfl, rfl⟩
theorem dir_ok (b i : Nat) (hi : i < 2) (w : World) : Calls Tryd.prog 30 #[tP b, .int .i64 (i : Int)] w fun e w' => e = .returned (.tuple #[dirP b i, .int .i64 0]) ∧ w' = w := by
  rcases (show i = 0 ∨ i = 1 by omega) with rfl | rfl
  all_goals
    go_enter Tryd.func30, Tryd.ntmps30
    go_wp2_with fail
    go_ret2
    exact ⟨rfl, rfl⟩
/-- Shut. -/
theorem shut_nil (k : Int) (w : World) : Calls Tryd.prog 15 #[.pointer none, .int .i64 k] w fun e w' => e = .returned (.int .i64 6) ∧ w' = w := by
  have HD := Lib.hid (dir_nil k w)
  go_enter Tryd.func15, Tryd.ntmps15
  go_wp2_with fail
  refine HD.out.mono ?_
  rintro e w' ⟨rfl, rfl⟩
  go_wp2_with fail
  go_ret
  exact ⟨rfl, rfl⟩
theorem shut_bad (b : Nat) (k : Int) (hk : k ≠ 0 ∧ k ≠ 1) (w : World) : Calls Tryd.prog 15 #[tP b, .int .i64 k] w fun e w' => e = .returned (.int .i64 1) ∧ w' = w := by
  have HD := Lib.hid (dir_bad b k hk w)
  clear hk
  go_enter Tryd.func15, Tryd.ntmps15
  go_wp2_with fail
  refine HD.out.mono ?_
  rintro e w' ⟨rfl, rfl⟩
  go_wp2_with fail
  go_ret
  exact ⟨rfl, rfl⟩
section
variable {w w' : World} {base b room : Nat} {V : Nat → Value} {H : Nat → Nat} {X : Nat → WayL}
theorem upd_id {α : Type} (f : Nat → α) (i : Nat) : upd f i (f i) = f := by
  funext j; unfold upd; split
  · next h => rw [h]
  · rfl
/-- A store into the Pipe's own block. -/
theorem PP.store (h : PP w base b room V H X) (i : Nat) (hi : i < 2) (x' : WayL) (hb : x'.buf = (X i).buf) (hr : x'.read = (X i).read) (ht : Trs [b] w w') (hk : Blk w' b (ppc room V H (upd X i x'))) :
    PP w' base b room V H (upd X i x') ∧ Trs (ppS b V H) w w' := by
  have hh := h.turn i hi (V i) x' [b] ht (by simp) (by rw [upd_id]; exact hk) (by rw [hb]; exact (h.own i hi).trs ht (fun k hk => by have := (h.apb i hi).1; rw [hk] at this; simpa using fun e => this (by rw [e]))) (by rw [hr]; exact (h.hash i hi).trs ht (by simpa using (h.apb i hi).2)) (fun k hk => .inl hk) (by rw [hb]; exact h.len i hi)
  rw [upd_id] at hh
  exact ⟨hh.1, hh.2.1⟩
/-- What Shut answers and leaves. -/
def shutN (x : WayL) : Int := if x.shut then 14 else 0
def shutX (x : WayL) : WayL := { x with shut := true }
theorem shut_0 (h : PP w base b room V H X) :
    Calls Tryd.prog 15 #[tP b, .int .i64 0] w fun e w' => e = .returned (.int .i64 (shutN (X 0))) ∧ PP w' base b room V H (upd X 0 (shutX (X 0))) ∧ Trs (ppS b V H) w w' := by
  have HD := Lib.hid (dir_ok b 0 (by omega) w)
  have k1 : w.cell? ⟨b, 2, none⟩ = some (.bool (X 0).shut) := h.blk.at (o := 2) rfl
  have f1 : w.frozen? ⟨b, 2, none⟩ = false := h.blk.free _
  have HP := Lib.hid h
  unfold shutN
  cases hs : (X 0).shut with
  | true =>
    rw [hs] at k1
    have HU := Lib.hid (show upd X 0 (shutX (X 0)) = X from by
      have e : shutX (X 0) = X 0 := by unfold shutX; rw [← hs]
      rw [e, upd_id])
    clear h hs
    go_enter Tryd.func15, Tryd.ntmps15
    go_wp2_with fail
    refine HD.out.mono ?_
    rintro e w' ⟨rfl, rfl⟩
    go_wp2_with fail
    go_ret
    exact ⟨rfl, by rw [HU.out]; exact HP.out, Trs.refl _ _⟩
  | false =>
    rw [hs] at k1
    have HT := Lib.hid (h.store 0 (by omega) (shutX (X 0)) rfl rfl ((Trs.refl _ _).set (p := ⟨b, 2, none⟩) (by simp) (.bool true)) (h.blk.set 2 (.bool true)))
    clear h hs
    go_enter Tryd.func15, Tryd.ntmps15
    go_wp2_with fail
    refine HD.out.mono ?_
    rintro e w' ⟨rfl, rfl⟩
    go_wp2_with fail
    go_ret
    exact ⟨rfl, HT.out⟩
theorem shut_1 (h : PP w base b room V H X) :
    Calls Tryd.prog 15 #[tP b, .int .i64 1] w fun e w' => e = .returned (.int .i64 (shutN (X 1))) ∧ PP w' base b room V H (upd X 1 (shutX (X 1))) ∧ Trs (ppS b V H) w w' := by
  have HD := Lib.hid (dir_ok b 1 (by omega) w)
  have k1 : w.cell? ⟨b, 6, none⟩ = some (.bool (X 1).shut) := h.blk.at (o := 6) rfl
  have f1 : w.frozen? ⟨b, 6, none⟩ = false := h.blk.free _
  have HP := Lib.hid h
  unfold shutN
  cases hs : (X 1).shut with
  | true =>
    rw [hs] at k1
    have HU := Lib.hid (show upd X 1 (shutX (X 1)) = X from by
      have e : shutX (X 1) = X 1 := by unfold shutX; rw [← hs]
      rw [e, upd_id])
    clear h hs
    go_enter Tryd.func15, Tryd.ntmps15
    go_wp2_with fail
    refine HD.out.mono ?_
    rintro e w' ⟨rfl, rfl⟩
    go_wp2_with fail
    go_ret
    exact ⟨rfl, by rw [HU.out]; exact HP.out, Trs.refl _ _⟩
  | false =>
    rw [hs] at k1
    have HT := Lib.hid (h.store 1 (by omega) (shutX (X 1)) rfl rfl ((Trs.refl _ _).set (p := ⟨b, 6, none⟩) (by simp) (.bool true)) (h.blk.set 6 (.bool true)))
    clear h hs
    go_enter Tryd.func15, Tryd.ntmps15
    go_wp2_with fail
    refine HD.out.mono ?_
    rintro e w' ⟨rfl, rfl⟩
    go_wp2_with fail
    go_ret
    exact ⟨rfl, HT.out⟩
/-- How much more a direction takes. -/
def roomL (room : Nat) (x : WayL) : Int := if x.shut then 0 else (room : Int) - (x.buf.length : Int)
theorem room_nil (k : Int) (w : World) : Calls Tryd.prog 17 #[.pointer none, .int .i64 k] w fun e w' => e = .returned (.int .i64 0) ∧ w' = w := by
  have HD := Lib.hid (dir_nil k w)
  go_enter Tryd.func17, Tryd.ntmps17
  go_wp2_with fail
  refine HD.out.mono ?_
  rintro e w' ⟨rfl, rfl⟩
  go_wp2_with fail
  go_ret
  exact ⟨rfl, rfl⟩
theorem room_bad (b : Nat) (k : Int) (hk : k ≠ 0 ∧ k ≠ 1) (w : World) : Calls Tryd.prog 17 #[tP b, .int .i64 k] w fun e w' => e = .returned (.int .i64 0) ∧ w' = w := by
  have HD := Lib.hid (dir_bad b k hk w)
  clear hk
  go_enter Tryd.func17, Tryd.ntmps17
  go_wp2_with fail
  refine HD.out.mono ?_
  rintro e w' ⟨rfl, rfl⟩
  go_wp2_with fail
  go_ret
  exact ⟨rfl, rfl⟩
theorem room_0 (h : PP w base b room V H X) :
    Calls Tryd.prog 17 #[tP b, .int .i64 0] w fun e w' => e = .returned (.int .i64 (roomL room (X 0))) ∧ ∃ q, w' = w.drewN q := by
  have HD := Lib.hid (dir_ok b 0 (by omega) w)
  have k1 : w.cell? ⟨b, 2, none⟩ = some (.bool (X 0).shut) := h.blk.at (o := 2) rfl
  have k0 : w.cell? ⟨b, 1, none⟩ = some (V 0) := h.blk.at (o := 1) rfl
  have kr : w.cell? ⟨b, 0, none⟩ = some (.int .i64 (room : Int)) := h.blk.at (o := 0) rfl
  obtain ⟨A, c, hV, _, _, _, _⟩ := (h.own 0 (by omega)).sl
  rw [hV] at k0
  have hr2 := h.r2
  have hln := h.len 0 (by omega)
  unfold roomL
  clear h hV
  cases hs : (X 0).shut with
  | true =>
    rw [hs] at k1
    clear hs
    go_enter Tryd.func17, Tryd.ntmps17
    go_wp2_with fail
    refine HD.out.mono ?_
    rintro e w' ⟨rfl, rfl⟩
    go_wp2_with fail
    go_ret
    exact ⟨rfl, 0, rfl⟩
  | false =>
    rw [hs] at k1
    obtain ⟨N, hN⟩ : ∃ N, N = (X 0).buf.length := ⟨_, rfl⟩
    rw [← hN] at k0 hln ⊢
    clear hs hN
    go_enter Tryd.func17, Tryd.ntmps17
    go_wp2_with fail
    refine HD.out.mono ?_
    rintro e w' ⟨rfl, rfl⟩
    go_wp2_with fail
    go_quiet (fail)
    go_wp2_with fail
    go_ret
    exact ⟨rfl, _, rfl⟩
theorem room_1 (h : PP w base b room V H X) :
    Calls Tryd.prog 17 #[tP b, .int .i64 1] w fun e w' => e = .returned (.int .i64 (roomL room (X 1))) ∧ ∃ q, w' = w.drewN q := by
  have HD := Lib.hid (dir_ok b 1 (by omega) w)
  have k1 : w.cell? ⟨b, 6, none⟩ = some (.bool (X 1).shut) := h.blk.at (o := 6) rfl
  have k0 : w.cell? ⟨b, 5, none⟩ = some (V 1) := h.blk.at (o := 5) rfl
  have kr : w.cell? ⟨b, 0, none⟩ = some (.int .i64 (room : Int)) := h.blk.at (o := 0) rfl
  obtain ⟨A, c, hV, _, _, _, _⟩ := (h.own 1 (by omega)).sl
  rw [hV] at k0
  have hr2 := h.r2
  have hln := h.len 1 (by omega)
  unfold roomL
  clear h hV
  cases hs : (X 1).shut with
  | true =>
    rw [hs] at k1
    clear hs
    go_enter Tryd.func17, Tryd.ntmps17
    go_wp2_with fail
    refine HD.out.mono ?_
    rintro e w' ⟨rfl, rfl⟩
    go_wp2_with fail
    go_ret
    exact ⟨rfl, 0, rfl⟩
  | false =>
    rw [hs] at k1
    obtain ⟨N, hN⟩ : ∃ N, N = (X 1).buf.length := ⟨_, rfl⟩
    rw [← hN] at k0 hln ⊢
    clear hs hN
    go_enter Tryd.func17, Tryd.ntmps17
    go_wp2_with fail
    refine HD.out.mono ?_
    rintro e w' ⟨rfl, rfl⟩
    go_wp2_with fail
    go_quiet (fail)
    go_wp2_with fail
    go_ret
    exact ⟨rfl, _, rfl⟩
end
theorem over_nil (w : World) : Calls Tryd.prog 16 #[.pointer none] w fun e w' => e = .returned (.bool true) ∧ w' = w := by
  go_enter Tryd.func16, Tryd.ntmps16
  go_wp2_with fail
  go_ret
  exact ⟨rfl, rfl⟩
end Go.Proofs.YtlobmffcnobgeaaDoor
set_option maxRecDepth 100000
namespace Go.Proofs.YtlobmffcnobgeaaDoor
open Go.RowKit
attribute [local go_sem] Oper.semAt_some
section
variable {w w' : World} {base b room : Nat} {V : Nat → Value} {H : Nat → Nat} {X : Nat → WayL}
theorem write_nil (k : Int) (v : Value) (w : World) : Calls Tryd.prog 14 #[.pointer none, .int .i64 k, v] w fun e w' => e = .returned (.tuple #[.int .i64 0, .int .i64 6]) ∧ w' = w := by
  have HD := Lib.hid (dir_nil k w)
  go_enter Tryd.func14, Tryd.ntmps14
  go_wp2_with fail
  refine HD.out.mono ?_
  rintro e w' ⟨rfl, rfl⟩
  go_wp2_with fail
  go_ret2
  exact ⟨rfl, rfl⟩
theorem write_bad (b : Nat) (k : Int) (hk : k ≠ 0 ∧ k ≠ 1) (v : Value) (w : World) : Calls Tryd.prog 14 #[tP b, .int .i64 k, v] w fun e w' => e = .returned (.tuple #[.int .i64 0, .int .i64 1]) ∧ w' = w := by
  have HD := Lib.hid (dir_bad b k hk w)
  clear hk
  go_enter Tryd.func14, Tryd.ntmps14
  go_wp2_with fail
  refine HD.out.mono ?_
  rintro e w' ⟨rfl, rfl⟩
  go_wp2_with fail
  go_ret2
  exact ⟨rfl, rfl⟩
/-- How many bytes are taken, and what is then. -/
def wrN (room : Nat) (x : WayL) (p : List UInt8) : Nat := min p.length (room - x.buf.length)
def wrX (room : Nat) (x : WayL) (p : List UInt8) : WayL := { x with buf := x.buf ++ p.take (wrN room x p), wrote := x.wrote + wrN room x p }
theorem un_cast (n : Nat) (h : n ≤ 4096) : (n : Int) = un n := by unfold un; omega
theorem Trs.ofGrown {w w' : World} {row : Option Nat} (h : w.grownBy w' row) : Trs row.toList w w' :=
  ⟨h.os, h.tape, h.output, h.size, fun k hk hn => h.block k hk (fun e => hn (by rw [← e]; simp))⟩
theorem grown_drew_pp {w w2 : World} {q : Nat} {r : Option Nat} (h : (w.drewN q).grownBy w2 r) : w.grownBy w2 r := ⟨h.os, h.tape, h.output, h.size, h.block⟩
theorem write_fin (h : PP w base b room V H X) (i : Nat) (hi : i < 2) {w2 W : World} {v' : Value} {x' : WayL} (hg : w.grownBy w2 (V i).ownBlock) (hO : OwnB w2 base v' x'.buf) (ho : v'.ownBlock = (V i).ownBlock ∨ v'.ownBlock = some w.heap.size)
    (hsh : x'.shut = (X i).shut) (hr : x'.read = (X i).read) (hl : x'.buf.length ≤ room) (hW : W = (w2.setCell ⟨b, 1 + 4 * i, none⟩ v').setCell ⟨b, 3 + 4 * i, none⟩ (.int .u64 (un x'.wrote))) :
    PP W base b room (upd V i v') H (upd X i x') ∧ Trs (ppS b V H) w W ∧ (∀ k ∈ ppS b (upd V i v') H, k ∈ ppS b V H ∨ w.heap.size ≤ k) := by
  subst hW
  have ht0 : Trs (b :: (V i).ownBlock.toList) w w2 := (Trs.ofGrown hg).mono (fun k hk => List.mem_cons_of_mem _ hk)
  have ht : Trs (b :: (V i).ownBlock.toList) w ((w2.setCell ⟨b, 1 + 4 * i, none⟩ v').setCell ⟨b, 3 + 4 * i, none⟩ (.int .u64 (un x'.wrote))) := (ht0.set (by simp) _).set (by simp) _
  have hb2 : Blk w2 b (ppc room V H X) := h.blk.grown hg (h.apb i hi).1.symm
  have hvb : v'.ownBlock ≠ some b := by
    rcases ho with e | e
    · rw [e]; exact (h.apb i hi).1
    · rw [e]; intro e'; have := Option.some.inj e'; have := h.blk.lt; omega
  refine h.turn i hi v' x' _ ht (fun k hk => ?_) ?_ ?_ ?_ (fun k hk => ?_) hl
  · rcases List.mem_cons.1 hk with e | e
    · exact .inl e
    · exact .inr (.inr (by simpa using e))
  · have := (hb2.set (1 + 4 * i) v').set (3 + 4 * i) (.int .u64 (un x'.wrote))
    rcases (show i = 0 ∨ i = 1 by omega) with rfl | rfl
    · have e : ((ppc room V H X).set 1 v').set 3 (.int .u64 (un x'.wrote)) = ppc room (upd V 0 v') H (upd X 0 x') := by
        show [_, v', .bool (X 0).shut, _, _, _, _, _, _] = [_, v', .bool x'.shut, _, _, _, _, _, _]
        rw [hsh]; rfl
      rw [← e]; exact this
    · have e : ((ppc room V H X).set 5 v').set 7 (.int .u64 (un x'.wrote)) = ppc room (upd V 1 v') H (upd X 1 x') := by
        show [_, _, _, _, _, v', .bool (X 1).shut, _, _] = [_, _, _, _, _, v', .bool x'.shut, _, _]
        rw [hsh]; rfl
      rw [← e]; exact this
  · exact ((hO.kept (grown_set w2 ⟨b, 1 + 4 * i, none⟩ v') (.inr hvb)).kept (grown_set _ ⟨b, 3 + 4 * i, none⟩ _) (.inr hvb))
  · rw [hr]
    refine (h.hash i hi).trs ht (fun hm => ?_)
    rcases List.mem_cons.1 hm with e | e
    · exact (h.apb i hi).2 e
    · exact h.aph i i hi hi (by simpa using e)
  · rcases ho with e | e
    · exact .inl (by rw [← e]; exact hk)
    · right; rw [e] at hk; have := Option.some.inj hk; omega
theorem wshut_0 (h : PP w base b room V H X) (hs : (X 0).shut = true) (v : Value) :
    Calls Tryd.prog 14 #[tP b, .int .i64 0, v] w fun e w' => e = .returned (.tuple #[.int .i64 0, .int .i64 14]) ∧ w' = w := by
  have HD := Lib.hid (dir_ok b 0 (by omega) w)
  have k1 : w.cell? ⟨b, 2, none⟩ = some (.bool (X 0).shut) := h.blk.at (o := 2) rfl
  rw [hs] at k1
  clear h hs
  go_enter Tryd.func14, Tryd.ntmps14
  go_wp2_with fail
  refine HD.out.mono ?_
  rintro e w' ⟨rfl, rfl⟩
  go_wp2_with fail
  go_ret2
  exact ⟨rfl, rfl⟩
set_option maxHeartbeats 1000000 in
theorem write_0 (h : PP w base b room V H X) (hs : (X 0).shut = false) (B : Nat) (v : Value) (p : List UInt8) (hv : Sl w B v p) :
    Calls Tryd.prog 14 #[tP b, .int .i64 0, v] w fun e w' => e = .returned (.tuple #[.int .i64 (wrN room (X 0) p : Int), .int .i64 0]) ∧ ∃ v', PP w' base b room (upd V 0 v') H (upd X 0 (wrX room (X 0) p)) ∧ Trs (ppS b V H) w w' ∧ (∀ k ∈ ppS b (upd V 0 v') H, k ∈ ppS b V H ∨ w.heap.size ≤ k) := by
  have HD := Lib.hid (dir_ok b 0 (by omega) w)
  have HRm := Lib.hid (room_0 h)
  have HP := Lib.hid h
  have HV := Lib.hid hv
  have k1 : w.cell? ⟨b, 2, none⟩ = some (.bool (X 0).shut) := h.blk.at (o := 2) rfl
  rw [hs] at k1
  have hln := h.len 0 (by omega)
  have hr2 := h.r2
  have hrm : roomL room (X 0) = (room : Int) - ((X 0).buf.length : Int) := by unfold roomL; rw [hs]; rfl
  rw [hrm] at HRm
  obtain ⟨A, c, rfl, _, q1, q2, _⟩ := hv
  obtain ⟨n, hn⟩ : ∃ n, n = wrN room (X 0) p := ⟨_, rfl⟩
  obtain ⟨x2, hx2⟩ : ∃ x, x = wrX room (X 0) p := ⟨_, rfl⟩
  rw [← hn, ← hx2]
  have hx3 : x2 = { X 0 with buf := (X 0).buf ++ p.take n, wrote := (X 0).wrote + n } := by rw [hx2, hn]; rfl
  have hnle : n ≤ p.length := by rw [hn]; unfold wrN; omega
  have hnr : n + (X 0).buf.length ≤ room := by rw [hn]; unfold wrN; omega
  have HN := Lib.hid (show (((p.length : Int) ≤ (room : Int) - ((X 0).buf.length : Int) ∧ (n : Int) = (p.length : Int)) ∨ (¬ (p.length : Int) ≤ (room : Int) - ((X 0).buf.length : Int) ∧ (n : Int) = (room : Int) - ((X 0).buf.length : Int))) from by rw [hn]; unfold wrN; omega)
  obtain ⟨VA, VC, hV, _, _, _, _⟩ := (h.own 0 (by omega)).sl
  have HV1 := Lib.hid hV; clear hV
  have HX3 := Lib.hid hx3
  have hbs := h.size
  clear hrm hs hn hx2 hx3 h
  obtain ⟨L, hL⟩ : ∃ L, L = (X 0).buf := ⟨_, rfl⟩
  rw [← hL] at hln HRm hnr HN HV1 HX3
  have HL := Lib.hid hL; clear hL
  have HSL := Lib.hid (show Sl w B (.slice A n c) (p.take n) from by
    obtain ⟨A2, c2, e2, _, _, _, hsl⟩ := HV.out.take n hnle
    injection e2 with e3 _ e4
    subst e3; subst e4
    exact hsl)
  have Hq : Hid ((p.take n).length = n) := Lib.hid (by rw [List.length_take]; omega)
  have Hlq : Hid ((L ++ p.take n).length = L.length + n) := Lib.hid (by rw [List.length_append, List.length_take]; omega)
  have hun := un_cast n (by omega)
  obtain ⟨N, hNN⟩ : ∃ N : Int, N = (n : Int) := ⟨_, rfl⟩
  have hrun : ∀ w, (Instr.slice 29 (.slice A p.length c) none (some (.int .i64 N)) none).run Tryd.prog w = .ok (.slice A n c) w := by rw [hNN]; exact slice_h A p.length c n (by omega)
  rw [← hNN] at HN ⊢
  have HNN := Lib.hid hNN; clear hNN hun
  have hadd := un_add (X 0).wrote n
  obtain ⟨T, hT⟩ : ∃ T, T = (X 0).wrote := ⟨_, rfl⟩
  rw [← hT] at hadd HX3
  rcases HN.out with ⟨hc, rfl⟩ | ⟨hc, rfl⟩
  all_goals
    go_enter Tryd.func14, Tryd.ntmps14
    go_wp2_with fail
    refine HD.out.mono ?_
    rintro e w' ⟨rfl, rfl⟩
    go_wp2_with fail
    refine HRm.out.mono ?_
    rintro e w1 ⟨rfl, q, rfl⟩
    have c0 : w'.cell? ⟨b, 1, none⟩ = some (.slice VA L.length VC) := by rw [← HV1.out]; exact HP.out.blk.at (o := 1) rfl
    have f0 : w'.frozen? ⟨b, 1, none⟩ = false := HP.out.blk.free _
    have HO0 : Hid (OwnB w' base (.slice VA L.length VC) L) := Lib.hid (by rw [← HV1.out, HL.out]; exact HP.out.own 0 (by omega))
    go_wp2_with fail
    go_region_law ((refine step_app_sl rfl (.tmp 34) (.tmp 37) rfl base (.slice VA L.length VC) L (p.take n) (by go_simp) (by exact HO0.out) B (.slice A n c) (by go_simp) (by exact HSL.out) (by rw [Hq.out]; omega) (by exact hbs) ?_; intro V' w2 hO hg ho; obtain ⟨VA', VC', rfl, _, _, _, _⟩ := hO.sl; rw [Hlq.out] at hO ho; have hne : some b ≠ (Value.slice VA L.length VC).ownBlock := (by rw [← HV1.out]; exact (HP.out.apb 0 (by omega)).1.symm); have hb2 := ((HP.out.blk.drewN q).drew).grown hg hne; have hc2 := hb2.at (o := 1) rfl; have hf2 := hb2.free 1; have hc3 := hb2.at (o := 3) rfl; have hf3 := hb2.free 3; rw [← hT] at hc3; have HO := Lib.hid hO; clear hO; have Hg := Lib.hid hg; clear hg; have Ho := Lib.hid ho; clear ho; have HB2 := Lib.hid hb2; clear hb2))
    go_wp2_with fail
    go_ret2
    refine ⟨rfl, _, write_fin HP.out 0 (by omega) (w2 := w2) (by have := grown_drew_pp Hg.out; rw [← HV1.out] at this; exact this) ?_ (by have := Ho.out; rw [← HV1.out] at this; exact this) ?_ ?_ ?_ ?_⟩
    · rw [HX3.out]; exact HO.out
    · rw [HX3.out]
    · rw [HX3.out]
    · rw [HX3.out]; show (L ++ p.take n).length ≤ room; rw [Hlq.out]; omega
    · rw [HX3.out]; show _ = (w2.setCell ⟨b, 1, none⟩ _).setCell ⟨b, 3, none⟩ (.int .u64 (un (T + n))); rw [← hadd, ← HNN.out, hT]
theorem wshut_1 (h : PP w base b room V H X) (hs : (X 1).shut = true) (v : Value) :
    Calls Tryd.prog 14 #[tP b, .int .i64 1, v] w fun e w' => e = .returned (.tuple #[.int .i64 0, .int .i64 14]) ∧ w' = w := by
  have HD := Lib.hid (dir_ok b 1 (by omega) w)
  have k1 : w.cell? ⟨b, 6, none⟩ = some (.bool (X 1).shut) := h.blk.at (o := 6) rfl
  rw [hs] at k1
  clear h hs
  go_enter Tryd.func14, Tryd.ntmps14
  go_wp2_with fail
  refine HD.out.mono ?_
  rintro e w' ⟨rfl, rfl⟩
  go_wp2_with fail
  go_ret2
  exact ⟨rfl, rfl⟩
set_option maxHeartbeats 1000000 in
theorem write_1 (h : PP w base b room V H X) (hs : (X 1).shut = false) (B : Nat) (v : Value) (p : List UInt8) (hv : Sl w B v p) :
    Calls Tryd.prog 14 #[tP b, .int .i64 1, v] w fun e w' => e = .returned (.tuple #[.int .i64 (wrN room (X 1) p : Int), .int .i64 0]) ∧ ∃ v', PP w' base b room (upd V 1 v') H (upd X 1 (wrX room (X 1) p)) ∧ Trs (ppS b V H) w w' ∧ (∀ k ∈ ppS b (upd V 1 v') H, k ∈ ppS b V H ∨ w.heap.size ≤ k) := by
  have HD := Lib.hid (dir_ok b 1 (by omega) w)
  have HRm := Lib.hid (room_1 h)
  have HP := Lib.hid h
  have HV := Lib.hid hv
  have k1 : w.cell? ⟨b, 6, none⟩ = some (.bool (X 1).shut) := h.blk.at (o := 6) rfl
  rw [hs] at k1
  have hln := h.len 1 (by omega)
  have hr2 := h.r2
  have hrm : roomL room (X 1) = (room : Int) - ((X 1).buf.length : Int) := by unfold roomL; rw [hs]; rfl
  rw [hrm] at HRm
  obtain ⟨A, c, rfl, _, q1, q2, _⟩ := hv
  obtain ⟨n, hn⟩ : ∃ n, n = wrN room (X 1) p := ⟨_, rfl⟩
  obtain ⟨x2, hx2⟩ : ∃ x, x = wrX room (X 1) p := ⟨_, rfl⟩
  rw [← hn, ← hx2]
  have hx3 : x2 = { X 1 with buf := (X 1).buf ++ p.take n, wrote := (X 1).wrote + n } := by rw [hx2, hn]; rfl
  have hnle : n ≤ p.length := by rw [hn]; unfold wrN; omega
  have hnr : n + (X 1).buf.length ≤ room := by rw [hn]; unfold wrN; omega
  have HN := Lib.hid (show (((p.length : Int) ≤ (room : Int) - ((X 1).buf.length : Int) ∧ (n : Int) = (p.length : Int)) ∨ (¬ (p.length : Int) ≤ (room : Int) - ((X 1).buf.length : Int) ∧ (n : Int) = (room : Int) - ((X 1).buf.length : Int))) from by rw [hn]; unfold wrN; omega)
  obtain ⟨VA, VC, hV, _, _, _, _⟩ := (h.own 1 (by omega)).sl
  have HV1 := Lib.hid hV; clear hV
  have HX3 := Lib.hid hx3
  have hbs := h.size
  clear hrm hs hn hx2 hx3 h
  obtain ⟨L, hL⟩ : ∃ L, L = (X 1).buf := ⟨_, rfl⟩
  rw [← hL] at hln HRm hnr HN HV1 HX3
  have HL := Lib.hid hL; clear hL
  have HSL := Lib.hid (show Sl w B (.slice A n c) (p.take n) from by
    obtain ⟨A2, c2, e2, _, _, _, hsl⟩ := HV.out.take n hnle
    injection e2 with e3 _ e4
    subst e3; subst e4
    exact hsl)
  have Hq : Hid ((p.take n).length = n) := Lib.hid (by rw [List.length_take]; omega)
  have Hlq : Hid ((L ++ p.take n).length = L.length + n) := Lib.hid (by rw [List.length_append, List.length_take]; omega)
  have hun := un_cast n (by omega)
  obtain ⟨N, hNN⟩ : ∃ N : Int, N = (n : Int) := ⟨_, rfl⟩
  have hrun : ∀ w, (Instr.slice 29 (.slice A p.length c) none (some (.int .i64 N)) none).run Tryd.prog w = .ok (.slice A n c) w := by rw [hNN]; exact slice_h A p.length c n (by omega)
  rw [← hNN] at HN ⊢
  have HNN := Lib.hid hNN; clear hNN hun
  have hadd := un_add (X 1).wrote n
  obtain ⟨T, hT⟩ : ∃ T, T = (X 1).wrote := ⟨_, rfl⟩
  rw [← hT] at hadd HX3
  rcases HN.out with ⟨hc, rfl⟩ | ⟨hc, rfl⟩
  all_goals
    go_enter Tryd.func14, Tryd.ntmps14
    go_wp2_with fail
    refine HD.out.mono ?_
    rintro e w' ⟨rfl, rfl⟩
    go_wp2_with fail
    refine HRm.out.mono ?_
    rintro e w1 ⟨rfl, q, rfl⟩
    have c0 : w'.cell? ⟨b, 5, none⟩ = some (.slice VA L.length VC) := by rw [← HV1.out]; exact HP.out.blk.at (o := 5) rfl
    have f0 : w'.frozen? ⟨b, 5, none⟩ = false := HP.out.blk.free _
    have HO0 : Hid (OwnB w' base (.slice VA L.length VC) L) := Lib.hid (by rw [← HV1.out, HL.out]; exact HP.out.own 1 (by omega))
    go_wp2_with fail
    go_region_law ((refine step_app_sl rfl (.tmp 34) (.tmp 37) rfl base (.slice VA L.length VC) L (p.take n) (by go_simp) (by exact HO0.out) B (.slice A n c) (by go_simp) (by exact HSL.out) (by rw [Hq.out]; omega) (by exact hbs) ?_; intro V' w2 hO hg ho; obtain ⟨VA', VC', rfl, _, _, _, _⟩ := hO.sl; rw [Hlq.out] at hO ho; have hne : some b ≠ (Value.slice VA L.length VC).ownBlock := (by rw [← HV1.out]; exact (HP.out.apb 1 (by omega)).1.symm); have hb2 := ((HP.out.blk.drewN q).drew).grown hg hne; have hc2 := hb2.at (o := 5) rfl; have hf2 := hb2.free 5; have hc3 := hb2.at (o := 7) rfl; have hf3 := hb2.free 7; rw [← hT] at hc3; have HO := Lib.hid hO; clear hO; have Hg := Lib.hid hg; clear hg; have Ho := Lib.hid ho; clear ho; have HB2 := Lib.hid hb2; clear hb2))
    go_wp2_with fail
    go_ret2
    refine ⟨rfl, _, write_fin HP.out 1 (by omega) (w2 := w2) (by have := grown_drew_pp Hg.out; rw [← HV1.out] at this; exact this) ?_ (by have := Ho.out; rw [← HV1.out] at this; exact this) ?_ ?_ ?_ ?_⟩
    · rw [HX3.out]; exact HO.out
    · rw [HX3.out]
    · rw [HX3.out]
    · rw [HX3.out]; show (L ++ p.take n).length ≤ room; rw [Hlq.out]; omega
    · rw [HX3.out]; show _ = (w2.setCell ⟨b, 5, none⟩ _).setCell ⟨b, 7, none⟩ (.int .u64 (un (T + n))); rw [← hadd, ← HNN.out, hT]
end
end Go.Proofs.YtlobmffcnobgeaaDoor
