/- The reference's Wrap. -/
import Derived.Test.YtbjhaihfkncdoaaDoorRefGroups
namespace Go.Proofs.YtbjhaihfkncdoaaDoor
open Go.RowKit

/-- Texts joined by newlines, one behind the other, as long as what is there is not empty. -/
def wrapT (ps : List (List UInt8)) : List UInt8 := ps.foldl (fun o p => if o.length = 0 then o ++ p else o ++ [10] ++ p) []
theorem wrapT_nil : wrapT [] = [] := rfl
theorem wrapT_snoc (ps : List (List UInt8)) (p : List UInt8) : wrapT (ps ++ [p]) = if (wrapT ps).length = 0 then wrapT ps ++ p else wrapT ps ++ [10] ++ p := by unfold wrapT; rw [List.foldl_append]; rfl
theorem pieces_ne {n : Nat} {l : List UInt8} {k : Nat} (hn : 1 ≤ n) (h : ∀ j, j < k → j * n < l.length) : ∀ p ∈ pieces n l k, p.length ≠ 0 ∧ p.length ≤ l.length := by
  intro p hp
  unfold pieces at hp
  obtain ⟨i, hi, rfl⟩ := List.mem_map.1 hp
  have := h i (by simpa using hi)
  rw [List.length_take, List.length_drop]
  omega
theorem wrapT_pieces_ne {n : Nat} {l : List UInt8} (hn : 1 ≤ n) (k : Nat) (h : ∀ j, j < k → j * n < l.length) (hk : 0 < k) : 0 < (wrapT (pieces n l k)).length := by
  match k, hk with
  | k + 1, _ =>
    have := (pieces_ne hn h _ (by rw [pieces_succ]; exact List.mem_append_right _ (List.mem_singleton.2 rfl))).1
    rw [pieces_succ, wrapT_snoc]
    split <;> simp only [List.length_append] <;> omega
theorem wrapT_pieces_len {n : Nat} {l : List UInt8} (hn : 1 ≤ n) (k : Nat) (h : ∀ j, j < k → j * n < l.length) : (wrapT (pieces n l k)).length ≤ k * (l.length + 1) := by
  induction k with
  | zero => simp [pieces_zero, wrapT_nil]
  | succ k ih =>
    have ih := ih (fun j hj => h j (by omega))
    have := (pieces_ne hn h _ (by rw [pieces_succ]; exact List.mem_append_right _ (List.mem_singleton.2 rfl))).2
    rw [pieces_succ, wrapT_snoc, Nat.succ_mul]
    split <;> simp only [List.length_append, List.length_singleton] <;> omega
theorem has_le {n : Nat} {l : List UInt8} {k : Nat} (hn : 1 ≤ n) (h : ∀ j, j < k → j * n < l.length) : k ≤ l.length := by
  match k with
  | 0 => omega
  | k + 1 =>
    have := h k (by omega)
    have : k * 1 ≤ k * n := Nat.mul_le_mul_left k hn
    omega
theorem OwnT.pcs {w : World} {base : Nat} {v : Value} {n K : Nat} {l : List UInt8} (h : OwnT w base v (pieces n l K)) :
    (v = .slice none 0 0 ∧ K = 0) ∨ ∃ g cap, v = .slice (some ⟨g, 0, none⟩) K cap ∧ base ≤ g ∧ g < w.heap.size ∧ K ≤ cap ∧ cap ≤ maxLen ∧ ∀ j, j < K → w.cell? ⟨g, j, none⟩ = some (str ((l.drop (j * n)).take n)) := by
  have hK := pieces_len n l K
  rcases h.form with ⟨e, h0⟩ | ⟨g, c, e, h1, h2, h3, h4, h5⟩
  · rw [h0] at hK; exact .inl ⟨e, hK.symm⟩
  · refine .inr ⟨g, c, by rw [e, hK], h1, h2, by omega, h4, fun j hj => ?_⟩
    have := h5 j (by omega)
    rw [this]
    simp [pieces]
set_option maxRecDepth 100000 in
set_option maxHeartbeats 1000000 in
theorem refWrap_any (sz : Int) (l : List UInt8) (w : World) (hl : l.length ≤ 1000) (h1 : sz ≤ 9223372036854775807) (h2 : -9223372036854775808 ≤ sz) :
    Calls Tryd.prog 14 #[str l, .int .i64 sz] w fun e w' => ∃ k, Has (npc sz l) l k ∧ e = .returned (str (wrapT (pieces (npc sz l) l k))) ∧ Below w.heap.size w w' := by
  have hn1 := npc_pos sz l
  obtain ⟨n, hn⟩ : ∃ n, n = npc sz l := ⟨_, rfl⟩
  rw [← hn] at hn1 ⊢
  have Hn := Lib.hid hn; clear hn
  go_enter Tryd.func14, Tryd.ntmps14
  go_wp2_with fail
  refine (refGroups_any sz l w hl h1 h2).mono ?_
  rintro e w1 ⟨v, K, rfl, hO, hH, hb⟩
  have HB := Lib.hid hb; clear hb
  rw [← Hn.out] at hO hH
  have hKl : K ≤ l.length := has_le hn1 hH.2
  have HH := Lib.hid hH; clear hH
  have hform := hO.pcs
  have HC : Hid (∀ j, j < K → ∃ g, (∃ A c, v = .slice A K c ∧ A = some ⟨g, 0, none⟩) ∧ w1.cell? ⟨g, j, none⟩ = some (str ((l.drop (j * n)).take n))) := Lib.hid (fun j hj => by
    rcases hform with ⟨_, h0⟩ | ⟨g, c, e, _, _, _, _, hc⟩
    · omega
    · exact ⟨g, ⟨_, c, e, rfl⟩, hc j hj⟩)
  obtain ⟨A, c, ev⟩ : ∃ A c, v = .slice A K c := by
    rcases hform with ⟨e, h0⟩ | ⟨g, c, e, _⟩
    · subst h0; exact ⟨_, _, e⟩
    · exact ⟨_, _, e⟩
  subst ev
  clear hform hO
  go_wp2_with fail
  go_loop [5, 12] (fun o i => ∃ k : Nat, k ≤ K ∧ i = .int .i64 (k : Int) ∧ o = str (wrapT (pieces n l k))) (fun _ i => K - (intOf i).toNat)
  case atStart => exact ⟨0, by omega, rfl, rfl⟩
  case round =>
    obtain ⟨k, hk, rfl, rfl⟩ := hrel
    by_cases hlt : k < K
    · obtain ⟨g, ⟨A', c', e1, e2⟩, hc⟩ := HC.out k hlt
      injection e1 with e1 _ e3
      subst e1; subst e2; subst e3
      have hj := fun a b : List UInt8 => (ByteArray.mk_append_mk a b : ByteArray.mk a.toArray ++ ByteArray.mk b.toArray = ByteArray.mk (a ++ b).toArray)
      have hs := wrapT_snoc (pieces n l k) ((l.drop (k * n)).take n)
      rw [← pieces_succ] at hs
      have hln := wrapT_pieces_len hn1 k (fun j hj => HH.out.2 j (by omega))
      have hpl : ((l.drop (k * n)).take n).length ≤ l.length := by rw [List.length_take, List.length_drop]; omega
      have hkk : k * (l.length + 1) ≤ 1000 * 1001 := Nat.mul_le_mul (by omega) (by omega)
      obtain ⟨p, hp⟩ : ∃ p, p = (l.drop (k * n)).take n := ⟨_, rfl⟩
      obtain ⟨o, ho⟩ : ∃ o, o = wrapT (pieces n l k) := ⟨_, rfl⟩
      have h0 : 0 < k → 0 < o.length := fun h => by rw [ho]; exact wrapT_pieces_ne hn1 k (fun j hj => HH.out.2 j (by omega)) h
      have h00 : k = 0 → o.length = 0 := fun h => by rw [ho]; subst h; rfl
      rw [← hp] at hc hs hpl
      rw [← ho] at hs hln ⊢
      clear ho hp
      have Hs := Lib.hid hs; clear hs
      by_cases hk0 : 0 < k
      · have := h0 hk0
        clear h0 h00
        go_wp2_with fail
        go_round
        case rel => exact ⟨k + 1, by omega, by go_num, by rw [Hs.out, if_neg (by omega), List.append_assoc]; rfl⟩
        case measure => simp [intOf]; omega
      · have := h00 (by omega)
        clear h0 h00
        go_wp2_with fail
        go_round
        case rel => exact ⟨k + 1, by omega, by go_num, by rw [Hs.out, if_pos this]⟩
        case measure => simp [intOf]; omega
    · obtain rfl : k = K := by omega
      go_wp2_with fail
      go_ret
      exact ⟨k, HH.out, rfl, HB.out⟩
end Go.Proofs.YtbjhaihfkncdoaaDoor
