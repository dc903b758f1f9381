/- box's laws: lists for BoxTurns: turned by itself, by another one twice, either way. box's laws: pick where there is a tag. BoxTurns: a Turn beside both Boxes. BoxTurns' law: turned twice, by itself, either way. -/
import Derived.Test.YtlnjpmpddomjiaaGreatDoorGmTmI
import Derived.Test.YtlnjpmpddomjiaaGreatDoorGmBeP
import Derived.Test.YtlnjpmpddomjiaaGreatDoorGmCutE
import Derived.Deep.RegionHeld3
import Derived.Test.YtlnjpmpddomjiaaGreatDoorGmBwG
import Derived.Test.YtlnjpmpddomjiaaGreatDoorGmMgD
set_option maxRecDepth 100000
namespace Go.Proofs.YtlnjpmpddomjiaaGreatDoor
open Go.RowKit
theorem pickN_comm (x y : List Nat) (k : Nat) : pickN x y k = pickN y x k := by
  refine lt_ext (pickN_lt _ _ _) (pickN_lt _ _ _) (fun n => ?_)
  rw [pickN_mem, pickN_mem, bne_comm]
theorem pickN_self (x : List Nat) (k : Nat) : pickN x x k = [] := by
  rw [List.eq_nil_iff_forall_not_mem]
  intro n hn
  have h := ((pickN_mem _ _ _ _).1 hn).2
  simp at h
theorem pickN_twice {x : List Nat} (y : List Nat) (k : Nat) (hx : x.Pairwise (· < ·)) (hk : ∀ n ∈ x, 1 ≤ n ∧ n ≤ k) : pickN (pickN x y k) y k = x := by
  refine lt_ext (pickN_lt _ _ _) hx (fun n => ?_)
  rw [pickN_mem]
  by_cases hn : 1 ≤ n ∧ n ≤ k
  · have h2 : decide (n ∈ pickN x y k) = (decide (n ∈ x) != decide (n ∈ y)) := by
      rw [Bool.eq_iff_iff, decide_eq_true_iff, pickN_mem]
      exact ⟨fun h => h.2, fun h => ⟨hn, h⟩⟩
    rw [h2]
    by_cases h3 : n ∈ x <;> by_cases h4 : n ∈ y <;> simp [h3, h4, hn]
  · constructor
    · intro h; exact absurd h.1 hn
    · intro h; exact absurd (hk n h) hn
theorem xorL_comm (a b : List UInt8) : xorL a b = xorL b a := by
  unfold xorL
  rw [List.zipWith_comm]
  congr 1
  funext x y
  exact UInt8.xor_comm _ _
theorem xorL_self (a : List UInt8) : xorL a a = List.replicate a.length 0 := by
  unfold xorL
  induction a with
  | nil => rfl
  | cons x l ih => rw [List.zipWith_cons_cons, ih, UInt8.xor_self]; rfl
theorem xorL_twice : ∀ (a b : List UInt8), a.length = b.length → xorL (xorL a b) b = a
  | [], [], _ => rfl
  | [], _ :: _, h => by simp at h
  | _ :: _, [], h => by simp at h
  | x :: a, y :: b, h => by
    unfold xorL
    rw [List.zipWith_cons_cons, List.zipWith_cons_cons, UInt8.xor_assoc, UInt8.xor_self, UInt8.xor_zero]
    have := xorL_twice a b (by simpa using h)
    unfold xorL at this
    rw [this]
theorem tuL_comm (sym : Bool) (es : List EnL) (x y : List UInt8) : tuL sym es x y = tuL sym es y x := pickN_comm _ _ _
theorem tuM_comm (sym : Bool) (es : List EnL) (x y : List UInt8) : tuM sym es x y = tuM sym es y x := xorL_comm _ _
theorem tuL_self (sym : Bool) (es : List EnL) (x : List UInt8) : tuL sym es x x = [] := pickN_self _ _
theorem tuM_self {sym : Bool} {es : List EnL} {x : List UInt8} (h : GE es) (ht : isTagL sym es.length x = true) : tuM sym es x x = noughtsL := by
  unfold tuM
  rw [xorL_self, (opL_ok h ht).1]
  rfl
/-- Turned by itself: noughts, told as they are. -/
theorem tgS_self {sym : Bool} {es : List EnL} {x : List UInt8} (h : GE es) (ht : isTagL sym es.length x = true) : tgS sym es (tuL sym es x x) (tuM sym es x x) = noughtsL ∧ esS sym es (tuL sym es x x) (tuM sym es x x) = es := by
  rw [tuL_self, tuM_self h ht]
  have hr : rawS sym [] noughtsL = true := by
    unfold rawS
    have : looks noughtsL = false := by decide +kernel
    rw [this]
    simp
  unfold tgS esS
  rw [if_pos hr, if_pos hr]
  exact ⟨rfl, rfl⟩
theorem suL_at {es : List EnL} {l : List UInt8} {k : Nat} {e : EnL} (h : tagN l = k + 1) (he : es[k]? = some e) : suL es l = if e.kind = 4 then (numsL e.lst, e.mask) else ([k + 1], noughtsL) := by
  unfold suL
  cases hn : tagN l with
  | zero => rw [h] at hn; cases hn
  | succ m =>
    rw [h] at hn
    obtain rfl : k = m := Nat.succ.inj hn
    simp only [he]
theorem suL_raw {es : List EnL} {l : List UInt8} (h : tagN l = 0) : suL es l = ([], l) := by
  unfold suL
  cases hn : tagN l with
  | zero => rfl
  | succ m => rw [h] at hn; cases hn
theorem tagN_han {n : Nat} (h : n ≤ 4097) : ∃ l, l = fro ++ len4 n ∧ tagN l = n := ⟨_, rfl, (tagN_handle n (by omega)).2⟩
theorem suL_turn {es : List EnL} {L : List Nat} {M : List UInt8} (hn : ∀ n ∈ L, n ≤ 4096) (k : Nat) (hk : k ≤ 4096) (he : es[k]? = some (turnE L M)) : suL es (fro ++ len4 (k + 1)) = (L, M) := by
  obtain ⟨l, hl, ht⟩ := tagN_han (n := k + 1) (by omega)
  rw [← hl, suL_at ht he]
  have h4 : (turnE L M).kind = 4 := rfl
  have hm : (turnE L M).mask = M := rfl
  rw [if_pos h4, turnE_nums hn, hm]
/-- What Turn tells opens to the sum that it is of. -/
theorem tgS_open {sym : Bool} {es : List EnL} {L : List Nat} {M : List UInt8} (hn : ∀ n ∈ L, 1 ≤ n ∧ n ≤ es.length) (hs : sym = false → L = []) (hnt : ∀ n ∈ L, ∀ e, es[n - 1]? = some e → e.kind ≠ 4) (hf : es.length < 4096) :
    opL sym (esS sym es L M) (tgS sym es L M) = (L, M) := by
  have hn' : ∀ n ∈ L, n ≤ 4096 := fun n hx => by have := (hn n hx).2; omega
  unfold tgS esS
  by_cases hr : rawS sym L M = true
  · rw [if_pos hr, if_pos hr]
    unfold rawS at hr
    simp only [Bool.and_eq_true, decide_eq_true_eq, Bool.not_eq_true', Bool.and_eq_false_iff] at hr
    obtain ⟨rfl, hr⟩ := hr
    unfold opL
    cases sym with
    | false => rw [if_neg (by simp)]
    | true =>
      rw [if_pos rfl]
      exact suL_raw (tagN_no (by rcases hr with h | h; cases h; exact h))
  · rw [if_neg hr, if_neg hr]
    have hsym : sym = true := by
      cases sym with
      | true => rfl
      | false => exact absurd (by unfold rawS; rw [hs rfl]; rfl) hr
    subst hsym
    unfold opL
    rw [if_pos rfl]
    by_cases ho : oneS L M = true
    · rw [if_pos ho, if_pos ho]
      unfold oneS at ho
      simp only [Bool.and_eq_true, decide_eq_true_eq] at ho
      obtain ⟨h1, rfl⟩ := ho
      obtain ⟨n, rfl⟩ : ∃ n, L = [n] := by
        match L, h1 with
        | [n], _ => exact ⟨n, rfl⟩
      have h2 := hn n (by simp)
      obtain ⟨m, rfl⟩ : ∃ m, n = m + 1 := ⟨n - 1, by omega⟩
      have hlt : m < es.length := by omega
      have h3 := hnt (m + 1) (by simp) (es[m]'hlt) (by rw [Nat.add_sub_cancel]; exact List.getElem?_eq_getElem hlt)
      obtain ⟨l, hl2, ht⟩ := tagN_han (n := m + 1) (by omega)
      have hd : [m + 1].headD 0 = m + 1 := rfl
      rw [hd, ← hl2, suL_at ht (List.getElem?_eq_getElem hlt), if_neg h3]
    · rw [if_neg ho, if_neg ho]
      unfold tagE esE
      by_cases hm : turnE L M ∈ es
      · rw [if_pos hm, if_pos hm]
        have hle := numE_le es (turnE L M)
        unfold numE at hle ⊢
        rw [if_pos hm] at hle ⊢
        refine suL_turn hn' _ (by omega) ?_
        rw [List.getElem?_eq_getElem (List.idxOf_lt_length_of_mem hm), List.getElem_idxOf]
      · rw [if_neg hm, if_neg hm, if_neg (by omega), if_neg (by omega)]
        refine suL_turn hn' _ (by omega) ?_
        rw [List.getElem?_append_right (Nat.le_refl _), Nat.sub_self]
        rfl
/-- Told once more: the same, and nothing new. -/
theorem tgS_again {sym : Bool} {es : List EnL} {L : List Nat} {M : List UInt8} (hf : es.length < 4096) :
    tgS sym (esS sym es L M) L M = tgS sym es L M ∧ esS sym (esS sym es L M) L M = esS sym es L M := by
  unfold tgS esS
  by_cases hr : rawS sym L M = true
  · simp only [hr, if_true, and_self]
  · by_cases ho : oneS L M = true
    · simp only [hr, ho, if_true, if_false, and_self, Bool.false_eq_true]
    · simp only [hr, ho, if_false, Bool.false_eq_true]
      unfold tagE esE
      by_cases hm : turnE L M ∈ es
      · simp only [hm, if_true, and_self]
      · have h1 : ¬ 4096 ≤ es.length := by omega
        have h2 : turnE L M ∈ es ++ [turnE L M] := by simp
        simp only [hm, h1, if_false, h2, if_true, and_true]
        rw [numE_new hm]
theorem looks_form {l : List UInt8} (h : looks l = true) : l.length = 32 ∧ l.take 28 = fro := by
  unfold looks at h
  rw [Bool.and_eq_true] at h
  exact ⟨by simpa using h.1, by simpa using h.2⟩
/-- A later Box opens elder tags to the same sums. -/
theorem opL_more {sym : Bool} {es : List EnL} {E : EnL} {l : List UInt8} (ht : isTagL sym es.length l = true) : opL sym (es ++ [E]) l = opL sym es l := by
  unfold opL
  cases sym with
  | false => rfl
  | true =>
    rw [if_pos rfl, if_pos rfl]
    cases hn : tagN l with
    | zero => rw [suL_raw hn, suL_raw hn]
    | succ k =>
      have hk : k < es.length := by
        unfold isTagL at ht
        rw [Bool.and_eq_true] at ht
        have h2 := ht.2
        cases hl : looks l with
        | false => rw [tagN_no hl] at hn; cases hn
        | true =>
          rw [hl, hn] at h2
          simp only [Bool.not_true, Bool.false_or, Bool.and_eq_true, decide_eq_true_eq] at h2
          omega
      rw [suL_at hn (List.getElem?_eq_getElem hk), suL_at hn (e := es[k]) (by rw [List.getElem?_append_left hk]; exact List.getElem?_eq_getElem hk)]
theorem opL_esS {sym : Bool} {es : List EnL} {L : List Nat} {M l : List UInt8} (ht : isTagL sym es.length l = true) : opL sym (esS sym es L M) l = opL sym es l := by
  unfold esS
  split
  · rfl
  · split
    · rfl
    · rcases esE_cases es (turnE L M) with h | ⟨_, _, h⟩
      · rw [h]
      · rw [h]; exact opL_more ht
theorem pickN_more {x y : List Nat} {k k' : Nat} (hk : k ≤ k') (hx : ∀ n ∈ x, 1 ≤ n ∧ n ≤ k) (hy : ∀ n ∈ y, 1 ≤ n ∧ n ≤ k) : pickN x y k' = pickN x y k := by
  refine lt_ext (pickN_lt _ _ _) (pickN_lt _ _ _) (fun n => ?_)
  rw [pickN_mem, pickN_mem]
  constructor
  · rintro ⟨h1, h2⟩
    refine ⟨?_, h2⟩
    by_cases h3 : n ∈ x
    · exact hx n h3
    · by_cases h4 : n ∈ y
      · exact hy n h4
      · simp [h3, h4] at h2
  · rintro ⟨h1, h2⟩
    exact ⟨by omega, h2⟩
/-- The sum of two elder tags, in a later Box. -/
theorem tu_esS {sym : Bool} {es : List EnL} {L : List Nat} {M x y : List UInt8} (hg : GE es) (h1 : isTagL sym es.length x = true) (h2 : isTagL sym es.length y = true) : tuL sym (esS sym es L M) x y = tuL sym es x y ∧ tuM sym (esS sym es L M) x y = tuM sym es x y := by
  unfold tuL tuM
  rw [opL_esS h1, opL_esS h2]
  exact ⟨pickN_more (esS_len _ _ _ _) (opL_ok hg h1).2.2 (opL_ok hg h2).2.2, rfl⟩
theorem len4_num4 (a b c d : UInt8) : len4 (num4 a b c d) = [a, b, c, d] := by
  have ha := a.toNat_lt
  have hb := b.toNat_lt
  have hc := c.toNat_lt
  have hd := d.toNat_lt
  unfold len4 num4
  congr 1
  · apply UInt8.toNat_inj.1; rw [UInt8.toNat_ofNat']; omega
  · congr 1
    · apply UInt8.toNat_inj.1; rw [UInt8.toNat_ofNat']; omega
    · congr 1
      · apply UInt8.toNat_inj.1; rw [UInt8.toNat_ofNat']; omega
      · congr 1
        apply UInt8.toNat_inj.1; rw [UInt8.toNat_ofNat']; omega
theorem handle_form {l : List UInt8} (h : looks l = true) : l = fro ++ len4 (tagN l) := by
  obtain ⟨h1, h2⟩ := looks_form h
  have h3 : (l.drop 28).length = 4 := by rw [List.length_drop, h1]
  obtain ⟨a, b, c, d, h4⟩ : ∃ a b c d, l.drop 28 = [a, b, c, d] := by
    match l.drop 28, h3 with
    | [a, b, c, d], _ => exact ⟨a, b, c, d, rfl⟩
  have h5 : tagN l = num4 a b c d := by unfold tagN; rw [if_pos h, h4]
  rw [h5, len4_num4, ← h4, ← h2, List.take_append_drop]
/-- What a tag opens to is told as that tag. -/
theorem tgS_close {sym : Bool} {es es1 : List EnL} {x : List UInt8} (hnt : NT es) (hnd : es1.Nodup) (he : ∃ t, es1 = es ++ t) (hx : isTagL sym es.length x = true) : tgS sym es1 (opL sym es x).1 (opL sym es x).2 = x := by
  unfold isTagL at hx
  rw [Bool.and_eq_true] at hx
  have h2 := hx.2
  unfold opL
  cases sym with
  | false =>
    rw [if_neg (by simp)]
    unfold tgS rawS
    rw [if_pos (by simp)]
  | true =>
    rw [if_pos rfl]
    cases hl : looks x with
    | false =>
      rw [suL_raw (tagN_no hl)]
      unfold tgS rawS
      rw [hl, if_pos (by simp)]
    | true =>
      have hf := handle_form hl
      rw [hl] at h2
      simp only [Bool.not_true, Bool.false_or, Bool.and_eq_true, decide_eq_true_eq] at h2
      obtain ⟨k, hk⟩ : ∃ k, tagN x = k + 1 := ⟨tagN x - 1, by omega⟩
      have hlt : k < es.length := by omega
      obtain ⟨t, ht⟩ := he
      have hlt1 : k < es1.length := by rw [ht, List.length_append]; omega
      have hget : es1[k]'hlt1 = es[k]'hlt := by subst ht; rw [List.getElem_append_left hlt]
      rw [suL_at hk (List.getElem?_eq_getElem hlt)]
      rw [hk] at hf
      by_cases h4 : (es[k]'hlt).kind = 4
      · rw [if_pos h4]
        obtain ⟨hs1, hs2, hs3⟩ := (hnt _ (List.getElem_mem hlt) h4).2
        unfold tgS
        simp only [hs2, hs3, if_false, Bool.false_eq_true]
        rw [← hs1]
        have hm : es[k]'hlt ∈ es1 := by rw [← hget]; exact List.getElem_mem hlt1
        unfold tagE numE
        rw [if_pos hm, if_pos hm, ← hget, hnd.idxOf_getElem k hlt1]
        exact hf.symm
      · rw [if_neg h4]
        unfold tgS
        have h5 : rawS true [k + 1] noughtsL = false := by unfold rawS; simp
        have h6 : oneS [k + 1] noughtsL = true := by unfold oneS; simp
        simp only [h5, h6, if_false, if_true, Bool.false_eq_true]
        exact hf.symm
end Go.Proofs.YtlnjpmpddomjiaaGreatDoor
set_option maxRecDepth 100000
namespace Go.Proofs.YtlnjpmpddomjiaaGreatDoor
open Go.RowKit
attribute [local go_sem] Oper.semAt_some
set_option maxHeartbeats 4000000 in
/-- What pick tells where there is a tag: one of the tags, in bytes of its own. -/
theorem pick_pos {w : World} {base tb b x : Nat} {tv : Value} {vals : List Value} {tags : List (List UInt8)} (h : LT w base tb b x tv vals tags) (n : Int) (hl : tags.length ≤ 100000) (hn0 : 0 ≤ n) (htp : 0 < tags.length) :
    Calls Tryz.prog 16 #[.pointer (some ⟨tb, 0, none⟩), .int .i64 n] w fun e w' => ∃ v t, e = .returned v ∧ OwnB w' w.heap.size v t ∧ t ∈ tags ∧ Below w.heap.size w w' := by
  obtain ⟨A, c, rfl, hx⟩ := h.form
  have k2 : w.cell? ⟨tb, 2, none⟩ = some (.slice A tags.length c) := h.blk.at (o := 2) rfl
  have HL := Lib.hid h
  have H3 := Lib.hid hx
  clear h hx
  have HTP := Lib.hid (And.intro hn0 htp)
  have h0 : ¬ tags.length = 0 := by omega
  have hn : ¬ n < 0 := by omega
  clear hn0 htp
  have e0 : ((tags.length : Int) == 0) = false := by rw [beq_eq_false_iff_ne]; omega
  obtain ⟨g, rfl, hc⟩ := H3.out HTP.out.2
  obtain ⟨N, rfl⟩ := Int.eq_ofNat_of_zero_le (Int.not_lt.1 hn)
  obtain ⟨k, hk⟩ : ∃ k, k = N % tags.length := ⟨_, rfl⟩
  have hkl : k < tags.length := by rw [hk]; exact Nat.mod_lt _ (by omega)
  have hrem : Int.tmod (N : Int) (tags.length : Int) = (k : Int) := by rw [hk]; rfl
  obtain ⟨vk, hvk, hsk⟩ := hc k hkl
  have HSK := Lib.hid hsk
  have HMEM := Lib.hid (show tags[k] ∈ tags from List.getElem_mem hkl)
  have hki : (k : Int) < (tags.length : Int) := by omega
  have HTL := Lib.hid (show tags[k].length ≤ 32 from by rw [HL.out.t32 _ (List.getElem_mem hkl)]; exact Nat.le_refl _)
  obtain ⟨tk, htk⟩ : ∃ t, t = tags[k] := ⟨_, rfl⟩
  rw [← htk] at HSK HMEM HTL
  have hkn := hn
  clear hc hsk hk htk
  go_enter Tryz.func16, Tryz.ntmps16
  go_wp2_with fail
  refine wp_region_noPanic ?_
  refine wp_region_held (S := fun W' => W'.cell? ⟨tb, 2, none⟩ = some (.slice (some ⟨g, 0, none⟩) tags.length c) ∧ W'.cell? ⟨g, k, none⟩ = some vk) (by kernel_rfl) ?_
  change wpAnyH _ _ _ _ _ _ _ _ (World.drew _)
  obtain ⟨X0, hX0⟩ : ∃ X, X = World.drew w := ⟨_, rfl⟩
  have HB0 := Lib.hid (show Below w.heap.size w X0 from by rw [hX0]; exact (Below.refl _ _).drew)
  have HX := Lib.hid (show X0.cell? ⟨tb, 2, none⟩ = some (.slice (some ⟨g, 0, none⟩) tags.length c) ∧ X0.cell? ⟨g, k, none⟩ = some vk from by rw [hX0]; exact ⟨k2, hvk⟩)
  rw [← hX0]
  clear hX0
  refine takeH 0 15 (.pointer (some ⟨tb, 0, none⟩)) rfl rfl (by kernel_rfl) (by kernel_rfl) (by kernel_rfl) (fun _ _ _ h => h) rfl (fun w' h => by obtain ⟨h0, h1⟩ := h; go_simp) HX.out ?_
  go_frame
  refine takeH 1 16 (.pointer (some ⟨tb, 0, none⟩)) rfl rfl (by kernel_rfl) (by kernel_rfl) (by kernel_rfl) (fun _ _ _ h => h) rfl (fun w' h => by obtain ⟨h0, h1⟩ := h; go_simp) HX.out ?_
  go_frame
  refine takeH 2 17 (.pointer (some ⟨tb, 2, none⟩)) rfl rfl (by kernel_rfl) (by kernel_rfl) (by kernel_rfl) (fun _ _ _ h => h) rfl (fun w' h => by obtain ⟨h0, h1⟩ := h; go_simp) HX.out ?_
  go_frame
  refine takeH 3 18 (.slice (some ⟨g, 0, none⟩) tags.length c) rfl rfl (by kernel_rfl) (by kernel_rfl) (by kernel_rfl) (fun _ _ _ h => h) rfl (fun w' h => by obtain ⟨h0, h1⟩ := h; go_simp) HX.out ?_
  go_frame
  refine takeH 4 19 (.int .i64 (N : Int)) rfl rfl (by kernel_rfl) (by kernel_rfl) (by kernel_rfl) (fun _ _ _ h => h) rfl (fun w' h => by obtain ⟨h0, h1⟩ := h; go_simp) HX.out ?_
  go_frame
  refine takeH 5 20 (.pointer (some ⟨tb, 0, none⟩)) rfl rfl (by kernel_rfl) (by kernel_rfl) (by kernel_rfl) (fun _ _ _ h => h) rfl (fun w' h => by obtain ⟨h0, h1⟩ := h; go_simp) HX.out ?_
  go_frame
  refine takeH 6 21 (.pointer (some ⟨tb, 0, none⟩)) rfl rfl (by kernel_rfl) (by kernel_rfl) (by kernel_rfl) (fun _ _ _ h => h) rfl (fun w' h => by obtain ⟨h0, h1⟩ := h; go_simp) HX.out ?_
  go_frame
  refine takeH 7 22 (.pointer (some ⟨tb, 2, none⟩)) rfl rfl (by kernel_rfl) (by kernel_rfl) (by kernel_rfl) (fun _ _ _ h => h) rfl (fun w' h => by obtain ⟨h0, h1⟩ := h; go_simp) HX.out ?_
  go_frame
  refine takeH 8 23 (.slice (some ⟨g, 0, none⟩) tags.length c) rfl rfl (by kernel_rfl) (by kernel_rfl) (by kernel_rfl) (fun _ _ _ h => h) rfl (fun w' h => by obtain ⟨h0, h1⟩ := h; go_simp) HX.out ?_
  go_frame
  refine takeH 9 24 (.int .i64 (tags.length : Int)) rfl rfl (by kernel_rfl) (by kernel_rfl) (by kernel_rfl) (fun _ _ _ h => h) rfl (fun w' h => by obtain ⟨h0, h1⟩ := h; go_simp) HX.out ?_
  go_frame
  refine takeH 10 25 (.int .i64 (k : Int)) rfl rfl (by kernel_rfl) (by kernel_rfl) (by kernel_rfl) (fun _ _ _ h => h) rfl (fun w' h => by obtain ⟨h0, h1⟩ := h; go_simp) HX.out ?_
  go_frame
  refine takeH 11 26 (.pointer (some ⟨g, k, none⟩)) rfl rfl (by kernel_rfl) (by kernel_rfl) (by kernel_rfl) (fun _ _ _ h => h) rfl (fun w' h => by obtain ⟨h0, h1⟩ := h; go_simp) HX.out ?_
  go_frame
  refine takeH 12 27 (vk) rfl rfl (by kernel_rfl) (by kernel_rfl) (by kernel_rfl) (fun _ _ _ h => h) rfl (fun w' h => by obtain ⟨h0, h1⟩ := h; go_simp) HX.out ?_
  go_frame
  refine wpAnyH_all (rs := [13]) (by kernel_rfl) (by simp) ?_
  simp only [List.mem_singleton, forall_eq]
  refine wpOp_callD 28 rfl rfl rfl 27 #[vk] (by go_simp) ?_
  refine (copy_any w.heap.size vk tk X0 (HSK.out.below HB0.out (Nat.le_refl _)) HB0.out.size (by have := HTL.out; omega)).mono ?_
  rintro e X1 ⟨v1, rfl, hO, hb1⟩
  have HO := Lib.hid (hO.lower HB0.out.size)
  have HB1 := Lib.hid (HB0.out.trans (hb1.mono HB0.out.size))
  have HX1 := Lib.hid (show X1.cell? ⟨tb, 2, none⟩ = some (.slice (some ⟨g, 0, none⟩) tags.length c) ∧ X1.cell? ⟨g, k, none⟩ = some vk from ⟨(HB1.out.cell (p := ⟨tb, 2, none⟩) (World.block_lt_of_cell? _ _ k2)).trans k2, (HB1.out.cell (p := ⟨g, k, none⟩) (World.block_lt_of_cell? _ _ hvk)).trans hvk⟩)
  refine ⟨_, rfl, HX1.out, ?_⟩
  go_frame
  clear HX hO hb1
  refine takeH 14 4 (v1) rfl rfl (by kernel_rfl) (by kernel_rfl) (by kernel_rfl) (fun _ _ _ h => h) rfl (fun w' h => by obtain ⟨h0, h1⟩ := h; go_simp) HX1.out ?_
  go_frame
  refine wpAnyH_done (by kernel_rfl) ?_ _
  refine NoPanic.normal ?_
  go_wp2_with fail
  go_ret
  exact ⟨v1, tk, rfl, HO.out, HMEM.out, HB1.out⟩
end Go.Proofs.YtlnjpmpddomjiaaGreatDoor
set_option maxRecDepth 100000
namespace Go.Proofs.YtlnjpmpddomjiaaGreatDoor
open Go.RowKit
/-- What a Turn of the program leaves beside: the Box, elder tags, what it told. -/
theorem turn_step {W : World} {base tb b m x : Nat} {rv V : Value} {T : List TmL} {tv : Value} {vals : List Value} {sym fP fR : Bool} {eP eR : List EnL} {tags : List (List UInt8)} {B1 B2 : Nat} {vx vy : Value} {p q : List UInt8}
    (h : TD W base tb b m x rv V T tv vals sym fP fR eP eR tags) (hx : OwnB W B1 vx p) (hy : OwnB W B2 vy q) (ht1 : isTagL sym eP.length p = true) (ht2 : isTagL sym eP.length q = true) (hby : base ≤ W.heap.size) :
    Calls Tryz.prog 17 #[tP b, vx, vy] W fun e W' => ∃ v rv' f', e = .returned (.tuple #[v, .int .i64 0]) ∧ TD W' base tb b m x rv' V T tv vals sym f' fR (esS sym eP (tuL sym eP p q) (tuM sym eP p q)) eR tags ∧
      OwnB W' W.heap.size v (tgS sym eP (tuL sym eP p q) (tuM sym eP p q)) ∧ (∀ k, v.ownBlock = some k → k ∉ tdB tb b m x rv' V T tv vals) ∧ Below base W W' ∧
      ∀ (B : Nat) (u : Value) (l : List UInt8), OwnB W B u l → (∀ k, u.ownBlock = some k → k ∉ tdB tb b m x rv V T tv vals) → OwnB W' B u l ∧ ∀ k, u.ownBlock = some k → k ∉ tdB tb b m x rv' V T tv vals := by
  obtain ⟨a1, a2, a3, a4⟩ := tu_facts h.gp ht1 ht2
  have hgn := h.gp.esS (sym := sym) a1 a2 a3 a4
  refine (turn_P h.bx h.gp hx.sl hy.sl ht1 ht2 hby).mono ?_
  rintro e W' ⟨v, rfl, hR⟩
  obtain ⟨rv', h1, hO, hn, ha, ht⟩ := h.prog hR hgn
  have hbase := h.base
  exact ⟨v, rv', _, rfl, h1, hO, ha, ht.toBelow hby (fun k hk => hbase k hk), fun B u l hu hd => ⟨hu.trsV ht hd, fun k e hk => by
    rcases hn k hk with q | q
    · exact hd k e q
    · have := (hu.lt k e).2; omega⟩⟩
end Go.Proofs.YtlnjpmpddomjiaaGreatDoor
set_option maxRecDepth 100000
namespace Go.Proofs.YtlnjpmpddomjiaaGreatDoor
open Go.RowKit
attribute [local go_sem] Oper.semAt_some
/-- What the four Turns tell. -/
theorem turns_facts {sy : Bool} {es E1 E3 : List EnL} {tx ty TA M MX : List UInt8} {L X : List Nat} (hg : GE es) (hnt : NT es) (hf : es.length < 4096) (h1 : isTagL sy es.length tx = true) (h2 : isTagL sy es.length ty = true)
    (hL : L = tuL sy es tx ty) (hM : M = tuM sy es tx ty) (hE1 : E1 = esS sy es L M) (hTA : TA = tgS sy es L M) (hX : X = (opL sy es tx).1) (hMX : MX = (opL sy es tx).2) (hE3 : E3 = esS sy E1 X MX) :
    isTagL sy E1.length ty = true ∧ isTagL sy E1.length tx = true ∧ tuL sy E1 ty tx = L ∧ tuM sy E1 ty tx = M ∧ esS sy E1 L M = E1 ∧ tgS sy E1 L M = TA ∧ isTagL sy E1.length TA = true ∧ tuL sy E1 TA ty = X ∧ tuM sy E1 TA ty = MX ∧ esS sy E1 X MX = E3 ∧ tgS sy E1 X MX = tx ∧ isTagL sy E3.length tx = true := by
  obtain ⟨a1, a2, a3, a4⟩ := tu_facts hg h1 h2
  have hgn := hg.esS (sym := sy) a1 a2 a3 a4
  have hl1 : es.length ≤ E1.length := by rw [hE1]; exact esS_len _ _ _ _
  have hl3 : E1.length ≤ E3.length := by rw [hE3]; exact esS_len _ _ _ _
  have hsy : sy = false → L = [] := fun h => by rw [hL]; subst h; exact tuL_plain _ _ _
  rw [← hL, ← hM, ← hE1] at hgn
  have hb := tu_esS (sym := sy) (L := L) (M := M) hg h1 h2
  rw [← hE1, ← hL, ← hM] at hb
  have hag := tgS_again (sym := sy) (L := L) (M := M) hf
  rw [← hE1, ← hTA] at hag
  have hop := tgS_open (sym := sy) (L := L) (M := M) (by rw [hL]; exact a3) hsy (by rw [hL]; exact tuL_nt hnt) hf
  rw [← hE1, ← hTA] at hop
  have hoy : opL sy E1 ty = opL sy es ty := by rw [hE1]; exact opL_esS h2
  obtain ⟨x1, x2, x3⟩ := opL_ok hg h1
  obtain ⟨y1, y2, y3⟩ := opL_ok hg h2
  have hLk : L = pickN X (opL sy es ty).1 E1.length := by
    rw [hL, hX]
    exact (pickN_more hl1 x3 y3).symm
  have hpre : ∃ t, E1 = es ++ t := by
    rw [hE1]
    unfold esS
    split
    · exact ⟨[], by simp⟩
    · split
      · exact ⟨[], by simp⟩
      · rcases esE_cases es (turnE L M) with h | ⟨_, _, h⟩
        · exact ⟨[], by rw [h]; simp⟩
        · exact ⟨_, h⟩
  refine ⟨isTag_more h2 hl1, isTag_more h1 hl1, by rw [tuL_comm]; exact hb.1, by rw [tuM_comm]; exact hb.2, hag.2, hag.1, ?_, ?_, ?_, hE3.symm, ?_, isTag_more h1 (Nat.le_trans hl1 hl3)⟩
  · have := (tgS_tag (sym := sy) (es := es) (L := L) (M := M) (by rw [hM]; exact a1) (by rw [hL]; exact a3) hsy (by rw [← hE1]; exact hgn.le)).2
    rw [← hE1, ← hTA] at this
    exact this
  · unfold tuL
    rw [hop, hoy]
    show pickN L (opL sy es ty).1 E1.length = X
    rw [hLk, pickN_twice _ _ (by rw [hX]; exact x2) (fun n hn => by rw [hX] at hn; have := x3 n hn; omega)]
  · unfold tuM
    rw [hop, hoy, hM, hMX]
    exact xorL_twice _ _ (by rw [x1, y1])
  · rw [hX, hMX]
    exact tgS_close hnt hgn.nd hpre h1
set_option maxHeartbeats 8000000 in
theorem boxTurns_law (B : Nat) (sy : Bool) (v : Value) (ls : List OpX) (i j : Int) (w : World) (hv : OpsX w B v ls) (_ : (Lit.int .i64 i).wf = true) (_ : (Lit.int .i64 j).wf = true) (hB : B ≤ w.heap.size) (hT : TabA w) (hU : TabB w) :
    Calls Tryz.prog 5 #[.bool sy, v, .int .i64 i, .int .i64 j] w fun e w' => e = .returned (.bool true) ∧ Below w.heap.size w w' := by
  have HGA := Lib.hid (And.intro (tabA_lt hT) (tabB_lt hU))
  have HV := Lib.hid hv
  have HT := Lib.hid hT
  have HU := Lib.hid hU
  have HBW := Lib.hid hB
  obtain ⟨SA, SC, rfl, hn1, hn2, _⟩ := hv
  clear hT hU hB
  go_enter Tryz.func5, Tryz.ntmps5
  go_wp2_with fail
  refine (awake5 w).mono ?_
  rintro e W1 ⟨rfl, hB1⟩
  have HB1 := Lib.hid hB1
  clear hB1
  go_wp2_with fail
  refine (new_box sy W1).mono ?_
  rintro e W2 ⟨b, m, rfl, hX, hB2⟩
  have HX2 := Lib.hid hX
  have HB2 := Lib.hid hB2
  clear hX hB2
  go_wp2_with fail
  obtain ⟨W3, hW3⟩ : ∃ W, W = (W2.alloc (.cells #[.bool sy, .slice none 0 0, .bool false] 30)).alloc (.cells #[tP b, tP W2.heap.size, .slice none 0 0] 33) := ⟨_, rfl⟩
  have hnew := td_new HX2.out HB2.out.size hW3
  have HTE3 := Lib.hid (show TE W3 W1.heap.size (W2.heap.size + 1) b W2.heap.size sy 0 from ⟨_, _, _, _, _, _, _, _, _, hnew.1, by simp, by simp, by simp, NT.nil⟩)
  have HB3 := Lib.hid (HB2.out.trans (hnew.2.mono HB2.out.size))
  rw [← hW3]
  clear hW3 hnew
  have HGB := Lib.hid (show 0 < W1.heap.size ∧ 2 < W1.heap.size ∧ B ≤ W1.heap.size from by have h1 := HGA.out; have h2 := HB1.out.size; have h3 := HBW.out; omega)
  have HKP := Lib.hid (fun (W : World) (hb : Below W1.heap.size W1 W) => (show TabA W ∧ TabB W ∧ Below w.heap.size w W ∧ W1.heap.size ≤ W.heap.size from ⟨(HT.out.below HB1.out HGA.out.1).below hb HGB.out.1, (HU.out.below HB1.out HGA.out.2).below hb HGB.out.2.1, HB1.out.trans (hb.mono HB1.out.size), hb.size⟩))
  go_loopw [10, 11, 33] (fun _ _ i wr => ∃ k : Nat, k ≤ ls.length ∧ i = .int .i64 (k : Int) ∧ TE wr W1.heap.size (W2.heap.size + 1) b W2.heap.size sy (min k 15) ∧ Below W1.heap.size W1 wr) (fun _ _ i _ => ls.length - (intOf i).toNat)
  case atStart => exact ⟨0, by omega, rfl, HTE3.out, HB3.out⟩
  case round =>
    obtain ⟨k, hk, rfl, hte, hbl⟩ := hrel
    have HTE := Lib.hid hte
    have HBl := Lib.hid hbl
    clear hte hbl
    by_cases hlt : k < ls.length
    · have hlt' : (k : Int) < (ls.length : Int) := by omega
      obtain ⟨A2, C2, hv2, _, _, hx⟩ := HV.out
      injection hv2 with hv21 hv22 hv23
      subst hv21; subst hv23
      obtain ⟨sb, so, rfl, hsb, hx⟩ := hx (by omega)
      obtain ⟨hc0, hok⟩ := hx k hlt
      have HOK := Lib.hid (hok.below (HKP.out _ HBl.out).2.2.1 HBW.out)
      have hc : ∀ j v, (opC ls[k])[j]? = some v → wr.cell? ⟨sb, so + k * 7 + j, none⟩ = some v := fun j v hv => ((HKP.out _ HBl.out).2.2.1.cell (p := ⟨sb, so + k * 7 + j, none⟩) (by have := HBW.out; show sb < w.heap.size; omega)).trans (hc0 j v hv)
      clear hc0 hok
      obtain ⟨o, ho⟩ : ∃ o, o = ls[k] := ⟨_, rfl⟩
      rw [← ho] at hc HOK
      clear hx ho hv22
      obtain ⟨dd, p, q, A1, c1, l1, A2, c2, l2, r, raw⟩ := o
      have k0 := hc 0 _ rfl
      have k1 := hc 1 _ rfl
      have k2 := hc 2 _ rfl
      have k3 := hc 3 _ rfl
      have k4 := hc 4 _ rfl
      have k5 := hc 5 _ rfl
      have k6 := hc 6 _ rfl
      rw [Nat.add_zero] at k0
      clear hc
      by_cases hk20 : k < 15
      · have hk2 : (k : Int) < 15 := by omega
        have HDO := Lib.hid (fun W (hb : Below wr.heap.size wr W) => do_te (HTE.out.below hb) (by omega) ⟨dd, p, q, A1, c1, l1, A2, c2, l2, r, raw⟩ B (HOK.out.below hb (Nat.le_trans HGB.out.2.2 HBl.out.size)) (Nat.le_trans HGB.out.2.2 (Nat.le_trans HBl.out.size hb.size)) (HKP.out W (HBl.out.trans (hb.mono HBl.out.size))).1 (HKP.out W (HBl.out.trans (hb.mono HBl.out.size))).2.1 (Nat.le_trans HBl.out.size hb.size) HGB.out.1 HGB.out.2.1)
        have HBN := Lib.hid (fun (W W' : World) (hb : Below wr.heap.size wr W) (hb' : Below W1.heap.size W W') => (show Below W1.heap.size W1 W' from (HBl.out.trans (hb.mono HBl.out.size)).trans hb'))
        go_wp2_with fail
        refine (HDO.out _ ((Below.refl _ _).alloc (Nat.le_refl _) _)).mono ?_
        rintro e W5 ⟨rfl, hte5, hb5⟩
        have HTE5 := Lib.hid (hte5.more (n' := min (k + 1) 15) (by omega))
        have HB5 := Lib.hid (HBN.out _ _ ((Below.refl _ _).alloc (Nat.le_refl _) _) hb5)
        clear hte5 hb5
        go_wp2_with fail
        exact ⟨⟨k + 1, by omega, by go_num, HTE5.out, HB5.out⟩, by simp [intOf]; omega⟩
      · have hk2 : ¬ (k : Int) < 15 := by omega
        have HBo := Lib.hid (fun (o : Obj) => (show TE (wr.alloc o) W1.heap.size (W2.heap.size + 1) b W2.heap.size sy (min (k + 1) 15) ∧ Below W1.heap.size W1 (wr.alloc o) from ⟨(HTE.out.below ((Below.refl _ _).alloc (Nat.le_refl _) _)).more (by omega), HBl.out.alloc HBl.out.size o⟩))
        go_wp2_with fail
        exact ⟨⟨k + 1, by omega, by go_num, (HBo.out _).1, (HBo.out _).2⟩, by simp [intOf]; omega⟩
    · obtain rfl : k = ls.length := by omega
      obtain ⟨wA, rfl⟩ : ∃ W, W = wr := ⟨_, rfl⟩
      obtain ⟨m', rv, V, T, tv, vals, f, es, tags, htd, hok, htl, hel, hnt⟩ := HTE.out
      have HTD := Lib.hid htd
      have HOK := Lib.hid hok
      have HFA := Lib.hid (show tags.length ≤ 15 ∧ es.length ≤ 15 ∧ NT es from ⟨by omega, by omega, hnt⟩)
      obtain ⟨I, hI, hI0⟩ : ∃ I, max i 0 = I ∧ 0 ≤ I := ⟨_, rfl, by omega⟩
      obtain ⟨J, hJ, hJ0⟩ : ∃ J, max j 0 = J ∧ 0 ≤ J := ⟨_, rfl, by omega⟩
      have HIJ := Lib.hid (And.intro hI0 hJ0)
      clear htd hok htl hel hnt hI0 hJ0
      by_cases h0 : tags.length = 0
      · have HT0 := Lib.hid h0
        clear h0
        go_wp2_with fail
        refine (pick_any HTD.out.lt I (by have := HFA.out.1; omega)).mono ?_
        rintro e Y1 ⟨vx, tx, rfl, hO1, hm1, hb1⟩
        obtain rfl : tx = [] := by
          rcases hm1 with e | e
          · exact e
          · have := List.length_pos_of_mem e; have := HT0.out; omega
        obtain ⟨AX, cx, rfl, -⟩ := hO1.sl
        have HY1 := Lib.hid hb1
        clear hO1 hm1 hb1
        go_wp2_with fail
        refine (pick_any (HTD.out.below HY1.out).lt J (by have := HFA.out.1; omega)).mono ?_
        rintro e Y2 ⟨vy, ty, rfl, -, -, hb2⟩
        have HF := Lib.hid ((HKP.out _ (HBl.out.trans ((HY1.out.trans (hb2.mono HY1.out.size)).mono HBl.out.size))).2.2.1)
        clear hb2
        go_wp2_with fail
        go_ret
        exact ⟨rfl, HF.out⟩
      · have HT0 := Lib.hid h0
        clear h0
        go_wp2_with fail
        refine (pick_pos HTD.out.lt I (by have := HFA.out.1; omega) HIJ.out.1 (by have := HT0.out; omega)).mono ?_
        rintro e Y1 ⟨vx, tx, rfl, hO1, hm1, hb1⟩
        have HOX := Lib.hid hO1
        have HMX := Lib.hid hm1
        have HY1 := Lib.hid hb1
        clear hO1 hm1 hb1
        go_wp2_with fail
        refine (pick_pos (HTD.out.below HY1.out).lt J (by have := HFA.out.1; omega) HIJ.out.2 (by have := HT0.out; omega)).mono ?_
        rintro e Y2 ⟨vy, ty, rfl, hO2, hm2, hb2⟩
        have HOY := Lib.hid hO2
        have HMY := Lib.hid hm2
        have HOX2 := Lib.hid (HOX.out.below hb2)
        have HB2 := Lib.hid (HY1.out.trans (hb2.mono HY1.out.size))
        have HYZ := Lib.hid (show wA.heap.size ≤ Y1.heap.size ∧ Y1.heap.size ≤ Y2.heap.size from ⟨HY1.out.size, hb2.size⟩)
        clear hO2 hm2 hb2
        have HQX := Lib.hid (show ∀ k, vx.ownBlock = some k → k ∉ tdB (W2.heap.size + 1) b m' W2.heap.size rv V T tv vals from fun k e hk => by have h1 := (HOX.out.lt k e).1; have h2 := HTD.out.lts k hk; omega)
        have HQY := Lib.hid (show ∀ k, vy.ownBlock = some k → k ∉ tdB (W2.heap.size + 1) b m' W2.heap.size rv V T tv vals from fun k e hk => by have h1 := (HOY.out.lt k e).1; have h2 := HTD.out.lts k hk; have h3 := HYZ.out.1; omega)
        have HD2 := Lib.hid (HTD.out.below HB2.out)
        have HTX := Lib.hid (HOK.out _ HMX.out)
        have HTY := Lib.hid (HOK.out _ HMY.out)
        have HZ2 := Lib.hid (show W1.heap.size ≤ Y2.heap.size from Nat.le_trans HBl.out.size HB2.out.size)
        have HW2 := Lib.hid ((HKP.out _ (HBl.out.trans (HB2.out.mono HBl.out.size))).2.2.1)
        have h32 : tx.length = 32 := HTD.out.lt.t32 _ HMX.out
        obtain ⟨AX, cx, rfl, -⟩ := HOX.out.sl
        have e0 : ((tx.length : Int) == 0) = false := by rw [beq_eq_false_iff_ne]; omega
        clear h32
        have q0 := HD2.out.lt.blk.at (o := 0) rfl
        have HGE := Lib.hid HD2.out.gp
        obtain ⟨L, hL⟩ : ∃ L, L = tuL sy es tx ty := ⟨_, rfl⟩
        obtain ⟨M, hM⟩ : ∃ M, M = tuM sy es tx ty := ⟨_, rfl⟩
        obtain ⟨E1, hE1⟩ : ∃ E, E = esS sy es L M := ⟨_, rfl⟩
        obtain ⟨TA, hTA⟩ : ∃ t, t = tgS sy es L M := ⟨_, rfl⟩
        obtain ⟨X, hX⟩ : ∃ X, X = (opL sy es tx).1 := ⟨_, rfl⟩
        obtain ⟨MX, hMX⟩ : ∃ X, X = (opL sy es tx).2 := ⟨_, rfl⟩
        obtain ⟨E3, hE3⟩ : ∃ E, E = esS sy E1 X MX := ⟨_, rfl⟩
        have HE := Lib.hid (turns_facts HGE.out HFA.out.2.2 (by have := HFA.out.2.1; omega) HTX.out HTY.out hL hM hE1 hTA hX hMX hE3)
        have hS1 := turn_step HD2.out HOX2.out HOY.out HTX.out HTY.out HZ2.out
        rw [← hL, ← hM, ← hE1, ← hTA] at hS1
        have HS1 := Lib.hid hS1
        clear hL hM hE1 hTA hX hMX hE3 hS1
        go_wp2_with fail
        refine HS1.out.mono ?_
        rintro e Y3 ⟨va, rv1, f1, rfl, hd3, hoa, haa, hb3, hk3⟩
        have HD3 := Lib.hid hd3
        have HOA3 := Lib.hid hoa
        have HAA3 := Lib.hid haa
        have HX3 := Lib.hid (hk3 _ _ _ HOX2.out HQX.out)
        have HY3 := Lib.hid (hk3 _ _ _ HOY.out HQY.out)
        have HW3 := Lib.hid (HW2.out.trans (hb3.mono (Nat.le_trans HB1.out.size (Nat.le_refl _))))
        have HZ3 := Lib.hid (Nat.le_trans HZ2.out hb3.size)
        have q0' := hd3.lt.blk.at (o := 0) rfl
        have hS2 := turn_step HD3.out HY3.out.1 HX3.out.1 HE.out.1 HE.out.2.1 HZ3.out
        rw [HE.out.2.2.1, HE.out.2.2.2.1, HE.out.2.2.2.2.1, HE.out.2.2.2.2.2.1] at hS2
        have HS2 := Lib.hid hS2
        clear hd3 hoa haa hb3 hk3 hS2 q0
        go_wp2_with fail
        refine HS2.out.mono ?_
        rintro e Y4 ⟨vb_, rv2, f2, rfl, hd4, hob, hab, hb4, hk4⟩
        have HD4 := Lib.hid hd4
        have HOB4 := Lib.hid hob
        have HAB4 := Lib.hid hab
        have HX4 := Lib.hid (hk4 _ _ _ HX3.out.1 HX3.out.2)
        have HY4 := Lib.hid (hk4 _ _ _ HY3.out.1 HY3.out.2)
        have HA4 := Lib.hid (hk4 _ _ _ HOA3.out HAA3.out)
        have HW4 := Lib.hid (HW3.out.trans (hb4.mono HB1.out.size))
        have HZ4 := Lib.hid (Nat.le_trans HZ3.out hb4.size)
        have q1 := hd4.lt.blk.at (o := 0) rfl
        have hS3 := turn_step HD4.out HA4.out.1 HY4.out.1 HE.out.2.2.2.2.2.2.1 HE.out.1 HZ4.out
        rw [HE.out.2.2.2.2.2.2.2.1, HE.out.2.2.2.2.2.2.2.2.1, HE.out.2.2.2.2.2.2.2.2.2.1, HE.out.2.2.2.2.2.2.2.2.2.2.1] at hS3
        have HS3 := Lib.hid hS3
        clear hd4 hob hab hb4 hk4 hS3 q0'
        go_wp2_with fail
        refine HS3.out.mono ?_
        rintro e Y5 ⟨vc, rv3, f3, rfl, hd5, hoc, hac, hb5, hk5⟩
        have HD5 := Lib.hid hd5
        have HOC5 := Lib.hid hoc
        have HAC5 := Lib.hid hac
        have HX5 := Lib.hid (hk5 _ _ _ HX4.out.1 HX4.out.2)
        have HA5 := Lib.hid (hk5 _ _ _ HA4.out.1 HA4.out.2)
        have HB5 := Lib.hid (hk5 _ _ _ HOB4.out HAB4.out)
        have HW5 := Lib.hid (HW4.out.trans (hb5.mono HB1.out.size))
        have HZ5 := Lib.hid (Nat.le_trans HZ4.out hb5.size)
        have q2 := hd5.lt.blk.at (o := 0) rfl
        have hS4 := turn_step HD5.out HX5.out.1 HX5.out.1 HE.out.2.2.2.2.2.2.2.2.2.2.2 HE.out.2.2.2.2.2.2.2.2.2.2.2 HZ5.out
        rw [(tgS_self HD5.out.gp HE.out.2.2.2.2.2.2.2.2.2.2.2).1] at hS4
        have HS4 := Lib.hid hS4
        clear hd5 hoc hac hb5 hk5 hS4 q1
        go_wp2_with fail
        refine HS4.out.mono ?_
        rintro e Y6 ⟨vd, rv4, f4, rfl, -, hod, -, hb6, hk6⟩
        have HOD6 := Lib.hid hod
        have HX6 := Lib.hid (hk6 _ _ _ HX5.out.1 HX5.out.2)
        have HA6 := Lib.hid (hk6 _ _ _ HA5.out.1 HA5.out.2)
        have HB6 := Lib.hid (hk6 _ _ _ HB5.out.1 HB5.out.2)
        have HC6 := Lib.hid (hk6 _ _ _ HOC5.out HAC5.out)
        have HW6 := Lib.hid (HW5.out.trans (hb6.mono HB1.out.size))
        clear hod hb6 hk6 q2
        go_wp2_with fail
        refine (same_true _ _ _ _ TA Y6 HA6.out.1.sl HB6.out.1.sl).mono ?_
        rintro e Z1 ⟨rfl, rfl⟩
        go_wp2_with fail
        refine (same_true _ _ _ _ tx Y6 HC6.out.1.sl HX6.out.1.sl).mono ?_
        rintro e Z1 ⟨rfl, rfl⟩
        have hmk : (Instr.makeSlice 34 (.int .i64 32) (.int .i64 32)).run Tryz.prog Y6 = .ok (.slice (some ⟨Y6.heap.size, 0, none⟩) 32 32) (Y6.alloc (.cells (noughts 32) 5)) := make_bytes 32 32 (by omega) (by omega) Y6
        have HB7 := Lib.hid (show Below Y6.heap.size Y6 (Y6.alloc (.cells (noughts 32) 5)) from (Below.refl _ _).alloc (Nat.le_refl _) _)
        have HN7 := Lib.hid (show Sl (Y6.alloc (.cells (noughts 32) 5)) (Y6.heap.size + 1) (.slice (some ⟨Y6.heap.size, 0, none⟩) 32 32) noughtsL from Sl.newA Y6 (noughts 32) 5 noughtsL (by rw [noughts_list]; unfold noughtsL; rw [List.map_replicate]) rfl (show 32 = noughtsL.length by decide) (Nat.lt_succ_self _) (by decide))
        go_wp2_with fail
        refine (same_true _ _ _ _ noughtsL _ (HOD6.out.below HB7.out).sl HN7.out).mono ?_
        rintro e Z1 ⟨rfl, rfl⟩
        have HF := Lib.hid (HW6.out.trans (HB7.out.mono (HW6.out.size)))
        go_wp2_with fail
        go_ret
        exact ⟨rfl, HF.out⟩
end Go.Proofs.YtlnjpmpddomjiaaGreatDoor
