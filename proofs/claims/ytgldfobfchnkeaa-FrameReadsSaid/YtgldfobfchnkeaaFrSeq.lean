/- frame.Reader.Frames: the iterator, over whatever a Next does. -/
import Derived.Test.YtgldfobfchnkeaaFrNext
import Derived.Test.YtgldfobfchnkeaaRangeSt
namespace Go.Proofs.Ytgldfobfchnkeaa
open Go.RowKit Go.Shelf
attribute [local go_sem] Oper.semAt_some
/-- The closure of Frames. -/
abbrev gFr : Nat := 32
/-- A frame that was told: its kind, the slice of its body, and the body's bytes. -/
abbrev Told : Type := UInt8 × Value × List UInt8
abbrev toldV (x : Told) : Value := .agg #[vb x.1, x.2.1]
set_option maxRecDepth 100000 in
set_option maxHeartbeats 2000000 in
theorem frames_in (d : Nat) (hd : 3 ≤ d) (l bx b : Nat) (ptr : Value) (I : List Told → World → Prop) (Iy : List Told → Told → World → Prop) (Id : List Told → World → Prop) (ms : World → Nat) (μ : List Told → Nat) (R : World → Prop) (Jx : List Told → World → Prop)
    (hbx : ∀ pre W, I pre W → W.cell? ⟨bx, 0, none⟩ = some ptr)
    (hms : ∀ pre W, I pre W → ms W = μ pre)
    (hN : ∀ pre W, I pre W → Calls Try.prog 18 #[ptr] W fun e W' => KeepsAt b W W' ∧ ((∃ c : Int, (c != 0) = true ∧ e = .returned (.tuple #[.agg #[.int .u8 0, .slice none 0 0], .int .i64 c]) ∧ Id pre W') ∨ (∃ x : Told, (∃ A n c, x.2.1 = .slice A n c) ∧ e = .returned (.tuple #[toldV x, .int .i64 0]) ∧ Iy pre x W' ∧ μ (pre ++ [x]) < μ pre)))
    (hIyA : ∀ pre x W o, Iy pre x W → Iy pre x (W.alloc o)) (hIdA : ∀ pre W o, Id pre W → Id pre (W.alloc o))
    (hR : ∀ A B, R A → KeepsAt b A B → R B)
    (hY : ∀ pre x W1, Iy pre x W1 → R W1 → YieldAt Fence.wide (d - 1) Try.prog l #[toldV x] W1 fun e W' => (e = .returned (.bool true) ∧ I (pre ++ [x]) W' ∧ R W') ∨ (e = .returned (.bool false) ∧ Jx (pre ++ [x]) W'))
    (W : World) (h0 : I [] W) (hR0 : R W) :
    CallsIn Fence.wide d Try.prog gFr #[.func (.yield l) #[] #[], .pointer (some ⟨bx, 0, none⟩)] W fun e W' => (∃ v, e = .returned v) ∧ ((∃ xs, Id xs W' ∧ R W') ∨ (∃ pre, Jx pre W')) := by
  have h1 : 1 ≤ d := by omega
  have h1' : 1 ≤ d - 1 := by omega
  refine callsIn_of_wp Try.func32 rfl trivial ?_ rfl
  simp only [Try.ntmps32, List.size_toArray, List.length_cons, List.length_nil, Nat.reduceAdd, Nat.reduceSub, Array.replicate_succ, Array.replicate_zero, List.push_toArray, List.append_toArray, List.nil_append, List.cons_append]
  gi_wp2
  gi_loopw [] (fun wr => ∃ pre, I pre wr ∧ R wr) (fun wr => ms wr)
  case atStart => exact ⟨[], h0, hR0⟩
  case round =>
    obtain ⟨pre, hI, hRr⟩ := hrel
    have hc := hbx pre wr hI
    have hm := Lib.hid (hms pre wr hI)
    have hn := Lib.hid (hN pre wr hI)
    gi_wp2
    refine ⟨trivial, (callsIn_wide.2 hn.out).mono ?_⟩
    clear hn
    rintro e w2 ⟨hka, ⟨c, hc0, rfl, hid⟩ | ⟨⟨k, v, bd⟩, ⟨A, m, cp, hxv⟩, rfl, hiy, hlt⟩⟩
    · have hR2 := hR _ _ (hR _ _ hRr hka) ((KeepsAt.refl b w2).alloc (.cells #[.int .u8 0, .slice none 0 0] 27))
      have hI2 := hIdA _ _ (.cells #[.int .u8 0, .slice none 0 0] 27) hid
      clear hY hN hka hid
      gi_wp2
      refine ⟨fun _ h => (by cases h), ?_⟩
      gi_wp2
      refine bodyPost_ret (results_none rfl _ _ _) rfl ?_
      exact ⟨⟨_, rfl⟩, .inl ⟨pre, hI2, hR2⟩⟩
    · simp only at hxv
      subst hxv
      have hR2 := hR _ _ (hR _ _ hRr hka) ((KeepsAt.refl b w2).alloc (.cells #[.int .u8 (bn k), .slice A m cp] 27))
      obtain ⟨fn, tmps, assign, body, hy, hRr2⟩ := hY pre (k, .slice A m cp, bd) _ (hIyA _ _ _ (.cells #[.int .u8 (bn k), .slice A m cp] 27) hiy) hR2
      have HY := Lib.hid hY
      have HN := Lib.hid hN
      have HL := Lib.hid hlt
      clear hY hN hka hlt hiy hR2
      gi_wp2
      refine hRr2.mono ?_
      rintro e W3 (⟨rfl, hI3, hR3⟩ | ⟨rfl, hJx3⟩)
      · have hm3 := Lib.hid (hms _ _ hI3)
        gi_wp2
        go_roundw
        case rel => exact ⟨_, hI3, hR3⟩
        case measure => rw [hm.out, hm3.out]; exact HL.out
      · gi_wp2
        refine bodyPost_ret (results_none rfl _ _ _) rfl ?_
        exact ⟨⟨_, rfl⟩, .inr ⟨_, hJx3⟩⟩
/-- frame.Reader.Frames: the closure over the Reader, boxed. -/
theorem frames_any (p : Value) (w : World) (hp : p = .pointer none ∨ ∃ g, p = .pointer (some ⟨g, 0, none⟩)) : Calls Try.prog 31 #[p] w fun e w' => e = .returned (.func (.func gFr) #[] #[.pointer (some ⟨w.heap.size, 0, none⟩)]) ∧ w.alloc (.cells #[p] 43) = w' := by
  rcases hp with rfl | ⟨g, rfl⟩
  all_goals
    go_enter Try.func31, Try.ntmps31
    go_wp2_with fail
    go_ret
    exact ⟨rfl, rfl⟩
end Go.Proofs.Ytgldfobfchnkeaa
