/- Pieces of slices of bytes; the reference's Same. box: a handle's number, read. -/
import Derived.Test.YtlnjpmpddomjiaaGreatDoorGmCutE
import Derived.Deep.QuietTactic
import Derived.BigQuiet
import Derived.Outline
import Derived.Test.YtlnjpmpddomjiaaGreatDoorGmBxNumA
set_option maxRecDepth 100000
namespace Go.Proofs.YtlnjpmpddomjiaaGreatDoor
open Go.RowKit

/-- Two slices of bytes are alike just if their bytes are. -/
theorem same_any (B1 B2 : Nat) (v1 v2 : Value) (l1 l2 : List UInt8) (w : World) (h1 : Sl w B1 v1 l1) (h2 : Sl w B2 v2 l2) :
    Calls Tryz.prog 18 #[v1, v2] w fun e w' => e = .returned (.bool (l1 == l2)) ∧ w = w' := by
  have c1 := conv_sl h1
  have c2 := conv_sl h2
  clear h1 h2
  go_enter Tryz.func18, Tryz.ntmps18
  go_wp2_with fail
  go_ret
  exact ⟨by simp, rfl⟩
theorem same_true (B1 B2 : Nat) (v1 v2 : Value) (l : List UInt8) (w : World) (h1 : Sl w B1 v1 l) (h2 : Sl w B2 v2 l) :
    Calls Tryz.prog 18 #[v1, v2] w fun e w' => e = .returned (.bool true) ∧ w = w' :=
  (same_any B1 B2 v1 v2 l l w h1 h2).mono fun e w' ⟨he, hw⟩ => ⟨by rw [he]; simp, hw⟩
/-- What stands behind the first k bytes. -/
theorem slice_from (A : Option Addr) (n c k : Nat) (K : Int) (hK : K = (k : Int)) (hk : k ≤ n) (hn : n ≤ c) : ∃ V, (∀ w, (Instr.slice 34 (.slice A n c) (some (.int .i64 K)) none none).run Tryz.prog w = .ok V w) ∧
    ∀ w B l, Sl w B (.slice A n c) l → l.length = n → Sl w B V (l.drop k) := by
  subst hK
  refine ⟨sliced A k n c 1, fun w => ?_, fun w B l h hl => ?_⟩
  · rw [run_slice_l w 34 A n c Tryz.underlying34 .i64 k (by omega) (by omega)]
    simp [go_sem]
  · obtain ⟨A', c', e, h0, h1, h2, h3⟩ := h
    injection e with e1 e2 e3
    subst e1; subst e3
    have e4 : (l.drop k).length = n - k := by rw [List.length_drop]; omega
    unfold sliced
    refine ⟨_, c - k, by rw [e4], ?_, by omega, by omega, fun hp => ?_⟩
    · intro hz
      by_cases hck : c = k
      · omega
      · rw [if_neg hck] at hz
        have := h0 (by simpa using hz)
        omega
    · obtain ⟨b, o, rfl, hb, hbs⟩ := h3 (by omega)
      rw [if_neg (by omega)]
      refine ⟨b, o + k, ?_, hb, hbs.drop k⟩
      simp [Addr.add_mid]
/-- The bytes from lo up to hi. -/
theorem slice_mid (A : Option Addr) (n c lo hi : Nat) (L H : Int) (hL : L = (lo : Int)) (hH : H = (hi : Int)) (h1 : lo ≤ hi) (h2 : hi ≤ n) (hn : n ≤ c) : ∃ V, (∀ w, (Instr.slice 34 (.slice A n c) (some (.int .i64 L)) (some (.int .i64 H)) none).run Tryz.prog w = .ok V w) ∧
    (∀ w B l, Sl w B (.slice A n c) l → l.length = n → Sl w B V ((l.drop lo).take (hi - lo))) ∧ (∀ a, A = some a → ∃ a' n' c', V = .slice (some a') n' c') := by
  subst hL; subst hH
  refine ⟨sliced A lo hi c 1, fun w => ?_, fun w B l h hl => ?_, ?_⟩
  · rw [run_slice_lh w 34 A n c Tryz.underlying34 .i64 .i64 lo hi (by omega) (by omega) (by omega)]
    simp [go_sem]
  · obtain ⟨A', c', e, h0, h1', h2', h3⟩ := h
    injection e with e1 e2 e3
    subst e1; subst e3
    have e4 : ((l.drop lo).take (hi - lo)).length = hi - lo := by rw [List.length_take, List.length_drop]; omega
    unfold sliced
    refine ⟨_, c - lo, by rw [e4], ?_, by omega, by omega, fun hp => ?_⟩
    · intro hz
      by_cases hck : c = lo
      · omega
      · rw [if_neg hck] at hz
        have := h0 (by simpa using hz)
        omega
    · obtain ⟨b, o, rfl, hb, hbs⟩ := h3 (by omega)
      rw [if_neg (by omega)]
      refine ⟨b, o + lo, ?_, hb, (hbs.drop lo).take _⟩
      simp [Addr.add_mid]
  · rintro a rfl
    unfold sliced
    by_cases hck : c = lo
    · rw [if_pos hck]; exact ⟨_, _, _, rfl⟩
    · rw [if_neg hck]; exact ⟨_, _, _, rfl⟩
end Go.Proofs.YtlnjpmpddomjiaaGreatDoor
namespace Go.Proofs.YtlnjpmpddomjiaaGreatDoor
open Go.RowKit
set_option maxRecDepth 100000 in
set_option maxHeartbeats 1000000 in
theorem readNumber_any (B : Nat) (v : Value) (a b c d : UInt8) (w : World) (hv : Sl w B v [a, b, c, d]) :
    Calls Tryz.prog 46 #[v] w fun e w' => e = .returned (.int .i64 (num4 a b c d : Int)) ∧ ∃ q, w' = w.drewN q := by
  obtain ⟨A, cp, rfl, _, k1, k2, h3⟩ := hv
  obtain ⟨g, o, rfl, _, hbs⟩ := h3 (by simp)
  have c0 : w.cell? ⟨g, o, none⟩ = some (vb a) := hbs 0 (by simp)
  have c1 : w.cell? ⟨g, o + 1, none⟩ = some (vb b) := hbs 1 (by simp)
  have c2 : w.cell? ⟨g, o + 2, none⟩ = some (vb c) := hbs 2 (by simp)
  have c3 : w.cell? ⟨g, o + 3, none⟩ = some (vb d) := hbs 3 (by simp)
  clear hbs h3
  have hra := bn_range a
  have hrb := bn_range b
  have hrc := bn_range c
  have hrd := bn_range d
  obtain ⟨n1, n2, hn1, hn2, e1, e2, e3⟩ := or_three a b c d
  show Calls Tryz.prog 46 #[.slice (some ⟨g, o, none⟩) 4 cp] w _
  go_enter Tryz.func46, Tryz.ntmps46
  go_wp2_with fail
  go_quiet (fail)
  go_wp2_with fail
  go_ret
  exact ⟨rfl, _, rfl⟩
end Go.Proofs.YtlnjpmpddomjiaaGreatDoor
