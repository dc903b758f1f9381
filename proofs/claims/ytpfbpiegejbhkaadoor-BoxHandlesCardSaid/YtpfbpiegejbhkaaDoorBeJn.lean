/- box's join: bytes.Join without a separator, as a text. -/
import Derived.Test.YtpfbpiegejbhkaaDoorBeNew
import Derived.Test.YtpfbpiegejbhkaaDoorSls
import Derived.Test.YtpfbpiegejbhkaaDoorShelf
set_option maxRecDepth 100000
namespace Go.Proofs.YtpfbpiegejbhkaaDoor
open Go.RowKit
attribute [local go_sem] Oper.semAt_some
theorem sl_fresh {B : Nat} {w : World} {v : Value} {l : List UInt8} (h : Lib.FreshBytes B w v l) : Sl w w.heap.size v l := by
  obtain ⟨g, cap, zs, rfl, _, h1, h2, h3, h4, h5, h6, _⟩ := h
  refine ⟨some ⟨g, 0, none⟩, cap, rfl, (fun e => by cases e), h1, by unfold maxLen at h2; omega, fun h0 => ⟨g, 0, rfl, World.block_lt_of_cell? w ⟨g, 0, none⟩ (h6 0 (by omega)), fun j hj => ?_⟩⟩
  rw [Nat.zero_add, h6 j (by omega)]
  have e1 : zs.getD j 0 = zs[j]'(by omega) := by simp [List.getD, List.getElem?_eq_getElem (show j < zs.length by omega)]
  have e2 : l[j]? = ((Lib.bytesOf (zs.take l.length)))[j]? := by rw [h5]
  have e3 : l[j]'hj = UInt8.ofNat (zs[j]'(by omega)).toNat := by
    have hjl : j < (Lib.bytesOf (zs.take l.length)).length := by rw [h5]; exact hj
    rw [List.getElem?_eq_getElem hj, List.getElem?_eq_getElem hjl] at e2
    injection e2 with e2
    rw [e2]
    simp [Lib.bytesOf]
  have hb := h4 (zs[j]'(by omega)) (List.getElem_mem _)
  rw [e1, e3, vb]
  congr 2
  unfold bn
  rw [UInt8.toNat_ofNat']
  omega
theorem parts_at {w : World} {B b o : Nat} : ∀ (ls : List (List UInt8)) (_ : ∀ j (h : j < ls.length), ∃ vj, w.cell? ⟨b, o + j, none⟩ = some vj ∧ Sl w B vj ls[j]), ∃ vs, Lib.PartsAt w ⟨b, o, none⟩ vs ls := by
  intro ls h
  obtain ⟨vs, h1, h2⟩ := choose_list ls.length (fun j vj => w.cell? ⟨b, o + j, none⟩ = some vj ∧ ∀ hj : j < ls.length, Sl w B vj ls[j]) (fun j hj => by
    obtain ⟨vj, q1, q2⟩ := h j hj
    exact ⟨vj, q1, fun _ => q2⟩)
  refine ⟨vs, h1, fun i v hv => ?_, fun i v l hv hl => ?_⟩
  · obtain ⟨hi, rfl⟩ := List.getElem?_eq_some_iff.1 hv
    rw [Lib.add_plain2]
    exact (h2 i hi).1
  · obtain ⟨hi, rfl⟩ := List.getElem?_eq_some_iff.1 hv
    obtain ⟨hj, rfl⟩ := List.getElem?_eq_some_iff.1 hl
    obtain ⟨A, c, hA, h3, h4, h5, h6⟩ := (h2 i hi).2 hj
    refine ⟨A, c, hA, fun e => ?_, fun a ha k x hx => ?_⟩
    · by_cases h0 : 0 < (ls[i]).length
      · obtain ⟨b', o', e', _⟩ := h6 h0
        rw [e] at e'; cases e'
      · exact List.eq_nil_of_length_eq_zero (by omega)
    · obtain ⟨hk, rfl⟩ := List.getElem?_eq_some_iff.1 hx
      obtain ⟨b', o', e', _, hbs⟩ := h6 (by omega)
      rw [e'] at ha
      injection ha with ha
      subst ha
      rw [Lib.add_plain2]
      exact hbs k hk
theorem bjoin_any {w : World} {B : Nat} {v : Value} {ls : List (List UInt8)} (h : Sls w B v ls) (hn : ls.length ≤ 100000) (hl : Lib.lens ls ≤ 1000000) :
    Calls Tryd.prog 39 #[v, .slice none 0 0] w fun e w' => ∃ v', e = .returned v' ∧ Sl w' w'.heap.size v' ls.flatten ∧ Below w.heap.size w w' := by
  obtain ⟨A, c, rfl, h1, h2, h3⟩ := h
  match ls, h1, h3, hn, hl with
  | [], h1, h3, hn, hl =>
    refine (Tryd.bytes_Join_none A c _ w).mono ?_
    rintro e w' ⟨rfl, rfl⟩
    exact ⟨_, rfl, ⟨_, _, rfl, (fun e => by cases e), by simp, by omega, fun h => by simp at h⟩, (Below.refl _ _).alloc (Nat.le_refl _) _⟩
  | [l0], h1, h3, hn, hl =>
    obtain ⟨b, o, rfl, hb, hj⟩ := h3 (by simp)
    obtain ⟨vj, hc, hs⟩ := hj 0 (by simp)
    obtain ⟨A0, c0, rfl, g1, g2, g3, g4⟩ := hs
    simp only [List.getElem_cons_zero, Nat.add_zero] at hc g2 g4 g1
    by_cases h0 : 0 < l0.length
    · obtain ⟨b0, o0, rfl, hb0, hbs⟩ := g4 h0
      refine (Tryd.bytes_Join_one b o c ⟨b0, o0, none⟩ c0 l0 _ w hc (fun i x hx => ?_) h0 (by simp [Lib.lens] at hl; omega)).mono ?_
      · obtain ⟨hi, rfl⟩ := List.getElem?_eq_some_iff.1 hx
        rw [Lib.add_plain2]
        exact hbs i hi
      · rintro e w' ⟨v', rfl, hf, hB⟩
        refine ⟨v', rfl, ?_, hB⟩
        simpa using sl_fresh hf
    · obtain rfl : l0 = [] := List.eq_nil_of_length_eq_zero (by omega)
      refine (Tryd.bytes_Join_one_empty b o c A0 c0 _ w hc).mono ?_
      rintro e w' ⟨rfl, rfl⟩
      exact ⟨_, rfl, ⟨_, _, rfl, (fun e => rfl), by simp, by omega, fun h => by simp at h⟩, Below.refl _ _⟩
  | l0 :: l1 :: r, h1, h3, hn, hl =>
    obtain ⟨b, o, rfl, hb, hj⟩ := h3 (by simp)
    obtain ⟨vs, hvs⟩ := parts_at _ hj
    refine (Tryd.bytes_Join_many b o _ c vs (l0 :: l1 :: r) (.slice none 0 0) [] w rfl (by simp) hvs h1 ⟨none, 0, rfl, fun _ => rfl, fun a ha => by cases ha⟩ (by omega) (by simp; omega)).mono ?_
    rintro e w' ⟨v', rfl, hf, hB⟩
    refine ⟨v', rfl, ?_, hB⟩
    have := sl_fresh hf
    rwa [show Lib.join (l0 :: l1 :: r) [] = (l0 :: l1 :: r).flatten from by rw [Lib.join_cons]; simp [Lib.joinTail]] at this
theorem join_any {w : World} {B : Nat} {v : Value} {ls : List (List UInt8)} (h : Sls w B v ls) (hn : ls.length ≤ 100000) (hl : Lib.lens ls ≤ 1000000) :
    Calls Tryd.prog 27 #[v] w fun e w' => e = .returned (str ls.flatten) ∧ Below w.heap.size w w' := by
  have HH := Lib.hid (bjoin_any h hn hl)
  obtain ⟨L, hL⟩ : ∃ L, L = ls.flatten := ⟨_, rfl⟩
  rw [← hL] at HH ⊢
  clear hL
  obtain ⟨A, c, rfl, _⟩ := h
  go_enter Tryd.func27, Tryd.ntmps27
  go_wp2_with fail
  refine HH.out.mono ?_
  rintro e w1 ⟨v', rfl, hS, hB⟩
  have hcv := conv_sl hS
  obtain ⟨A', c', rfl, _⟩ := hS
  go_wp2_with fail
  go_ret
  exact ⟨rfl, hB⟩
end Go.Proofs.YtpfbpiegejbhkaaDoor
