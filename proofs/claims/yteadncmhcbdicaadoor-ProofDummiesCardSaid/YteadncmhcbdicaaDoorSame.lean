/- Pieces of slices of bytes; the reference's Same. -/
import Derived.Test.YteadncmhcbdicaaDoorSlNew
import Derived.Deep.QuietTactic
import Derived.BigQuiet
import Derived.Outline
set_option maxRecDepth 100000
namespace Go.Proofs.YteadncmhcbdicaaDoor
open Go.RowKit

/-- Two slices of bytes are alike just if their bytes are. -/
theorem same_any (B1 B2 : Nat) (v1 v2 : Value) (l1 l2 : List UInt8) (w : World) (h1 : Sl w B1 v1 l1) (h2 : Sl w B2 v2 l2) :
    Calls Tryd.prog 16 #[v1, v2] w fun e w' => e = .returned (.bool (l1 == l2)) ∧ w = w' := by
  have c1 := conv_sl h1
  have c2 := conv_sl h2
  clear h1 h2
  go_enter Tryd.func16, Tryd.ntmps16
  go_wp2_with fail
  go_ret
  exact ⟨by simp, rfl⟩
theorem same_true (B1 B2 : Nat) (v1 v2 : Value) (l : List UInt8) (w : World) (h1 : Sl w B1 v1 l) (h2 : Sl w B2 v2 l) :
    Calls Tryd.prog 16 #[v1, v2] w fun e w' => e = .returned (.bool true) ∧ w = w' :=
  (same_any B1 B2 v1 v2 l l w h1 h2).mono fun e w' ⟨he, hw⟩ => ⟨by rw [he]; simp, hw⟩
/-- What stands behind the first k bytes. -/
theorem slice_from (A : Option Addr) (n c k : Nat) (K : Int) (hK : K = (k : Int)) (hk : k ≤ n) (hn : n ≤ c) : ∃ V, (∀ w, (Instr.slice 26 (.slice A n c) (some (.int .i64 K)) none none).run Tryd.prog w = .ok V w) ∧
    ∀ w B l, Sl w B (.slice A n c) l → l.length = n → Sl w B V (l.drop k) := by
  subst hK
  refine ⟨sliced A k n c 1, fun w => ?_, fun w B l h hl => ?_⟩
  · rw [run_slice_l w 26 A n c Tryd.underlying26 .i64 k (by omega) (by omega)]
    simp [go_sem]
  · obtain ⟨A', c', e, h0, h1, h2, h3⟩ := h
    injection e with e1 e2 e3
    subst e1; subst e3
    have e4 : (l.drop k).length = n - k := by rw [List.length_drop]; omega
    unfold sliced
    refine ⟨_, c - k, by rw [e4], ?_, by omega, by omega, fun hp => ?_⟩
    · intro hz
      by_cases hck : c = k
      · omega
      · rw [if_neg hck] at hz
        have := h0 (by simpa using hz)
        omega
    · obtain ⟨b, o, rfl, hb, hbs⟩ := h3 (by omega)
      rw [if_neg (by omega)]
      refine ⟨b, o + k, ?_, hb, hbs.drop k⟩
      simp [Addr.add_mid]
/-- The bytes from lo up to hi. -/
theorem slice_mid (A : Option Addr) (n c lo hi : Nat) (L H : Int) (hL : L = (lo : Int)) (hH : H = (hi : Int)) (h1 : lo ≤ hi) (h2 : hi ≤ n) (hn : n ≤ c) : ∃ V, (∀ w, (Instr.slice 26 (.slice A n c) (some (.int .i64 L)) (some (.int .i64 H)) none).run Tryd.prog w = .ok V w) ∧
    (∀ w B l, Sl w B (.slice A n c) l → l.length = n → Sl w B V ((l.drop lo).take (hi - lo))) ∧ (∀ a, A = some a → ∃ a' n' c', V = .slice (some a') n' c') := by
  subst hL; subst hH
  refine ⟨sliced A lo hi c 1, fun w => ?_, fun w B l h hl => ?_, ?_⟩
  · rw [run_slice_lh w 26 A n c Tryd.underlying26 .i64 .i64 lo hi (by omega) (by omega) (by omega)]
    simp [go_sem]
  · obtain ⟨A', c', e, h0, h1', h2', h3⟩ := h
    injection e with e1 e2 e3
    subst e1; subst e3
    have e4 : ((l.drop lo).take (hi - lo)).length = hi - lo := by rw [List.length_take, List.length_drop]; omega
    unfold sliced
    refine ⟨_, c - lo, by rw [e4], ?_, by omega, by omega, fun hp => ?_⟩
    · intro hz
      by_cases hck : c = lo
      · omega
      · rw [if_neg hck] at hz
        have := h0 (by simpa using hz)
        omega
    · obtain ⟨b, o, rfl, hb, hbs⟩ := h3 (by omega)
      rw [if_neg (by omega)]
      refine ⟨b, o + lo, ?_, hb, (hbs.drop lo).take _⟩
      simp [Addr.add_mid]
  · rintro a rfl
    unfold sliced
    by_cases hck : c = lo
    · rw [if_pos hck]; exact ⟨_, _, _, rfl⟩
    · rw [if_neg hck]; exact ⟨_, _, _, rfl⟩
end Go.Proofs.YteadncmhcbdicaaDoor
