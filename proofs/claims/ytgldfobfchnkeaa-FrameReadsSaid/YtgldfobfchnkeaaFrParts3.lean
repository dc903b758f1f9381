/- FrameParts: the third loop's words. -/
import Derived.Test.YtgldfobfchnkeaaFrParts2
namespace Go.Proofs.Ytgldfobfchnkeaa
open Go.RowKit

theorem fcells_at : ∀ (gs : List Told) (k : Nat) (h : k < gs.length), (fcells gs)[2 * k]? = some (vb gs[k].1) ∧ (fcells gs)[2 * k + 1]? = some gs[k].2.1
  | x :: gs, 0, _ => ⟨rfl, rfl⟩
  | x :: gs, k + 1, h => by
    have ih := fcells_at gs k (by simpa using h)
    have e : fcells (x :: gs) = vb x.1 :: x.2.1 :: fcells gs := by unfold fcells; simp
    rw [e, show 2 * (k + 1) = 2 * k + 1 + 1 by omega]
    simpa using ih
theorem row_at {W : World} {base : Nat} {e : TypeId} {v : Value} {gs : List Told} (h : W.ownsRow base e 2 v gs.length (fcells gs)) (k : Nat) (hk : k < gs.length) :
    ∃ g cap, v = .slice (some ⟨g, 0, none⟩) gs.length cap ∧ g < W.heap.size ∧ W.cell? ⟨g, k * 2, none⟩ = some (vb gs[k].1) ∧ W.cell? ⟨g, k * 2 + 1, none⟩ = some gs[k].2.1 := by
  rcases h.2 with ⟨_, h0⟩ | ⟨g, cap, cur, rfl, hb, hg, hc, hm, hsz, htk⟩
  · omega
  · obtain ⟨c0, c1⟩ := fcells_at gs k hk
    rw [Nat.mul_comm] at c0 c1
    have key : ∀ (j : Nat) (u : Value), (fcells gs)[j]? = some u → cur[j]? = some u := by
      intro j u hu
      rw [← htk, List.getElem?_take] at hu
      split at hu
      · simpa using hu
      · cases hu
    exact ⟨g, cap, rfl, (Array.getElem?_eq_some_iff.1 hg).1, by simp [World.cell?, hg, key _ _ c0], by simp [World.cell?, hg, key _ _ c1]⟩
theorem row_form {W : World} {base : Nat} {e : TypeId} {size n : Nat} {v : Value} {xs : List Value} (h : W.ownsRow base e size v n xs) : ∃ A c, v = .slice A n c ∧ n ≤ c ∧ c ≤ maxLen := by
  rcases h.2 with ⟨rfl, rfl⟩ | ⟨g, cap, cur, rfl, _, _, h1, h2, _⟩
  · exact ⟨_, _, rfl, by simp, by unfold maxLen; omega⟩
  · exact ⟨_, _, rfl, h1, h2⟩
theorem keys_at {a b : List Told} (h : keys a = keys b) (k : Nat) (ha : k < a.length) (hb : k < b.length) : a[k].1 = b[k].1 ∧ a[k].2.2 = b[k].2.2 := by
  have := congrArg (fun l => l[k]?) h
  unfold keys at this
  simp only [List.getElem?_map, List.getElem?_eq_getElem ha, List.getElem?_eq_getElem hb, Option.map_some, Option.some.injEq, Prod.mk.injEq] at this
  exact this
/-- All came. -/
theorem Inv2.all {wc W : World} {P A l : List UInt8} {V s5 s13 : Value} {gs ws : List Told} (h : Inv2 wc P V s5 s13 A [] l gs W) (hP : P = packs (keys ws)) (hg : Good (keys ws)) : keys gs = keys ws ∧ l = [] := by
  obtain ⟨F2, hF, hl⟩ := eats_packs (F := keys ws) (R := []) hg h.eat (by rw [h.sum, hP])
  rw [List.append_nil] at hl
  have h0 := end_packs (F := F2) (fun x hx => hg x (by rw [hF]; exact List.mem_append_right _ hx)) hl h.un
  subst h0
  exact ⟨by rw [hF, List.append_nil], hl⟩
end Go.Proofs.Ytgldfobfchnkeaa
