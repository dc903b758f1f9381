/- The reference's Flip: it turns bytes of a slice of the call's own in place; nothing else. -/
import Derived.Test.YtlobmffcnobgeaaDoorRowAt
namespace Go.Proofs.YtlobmffcnobgeaaDoor
open Go.RowKit
theorem u8_turned (x : UInt8) : ∃ y, Value.int .u8 (bits .xor .u8 (bn x) 90) = vb y := by
  refine ⟨x ^^^ 90, ?_⟩
  have e : bits .xor .u8 (bn x) 90 = bn (x ^^^ 90) := by
    show IntKind.u8.wrap ((BitVec.ofInt 8 (bn x) ^^^ BitVec.ofInt 8 90).toNat : Int) = _
    rw [ofInt_bn, IntKind.wrap_u8]
    have h2 : (x.toBitVec ^^^ BitVec.ofInt 8 90).toNat = (x ^^^ 90).toNat := rfl
    rw [h2]
    unfold bn
    have := (x ^^^ 90).toNat_lt
    omega
  rw [vb, e]
set_option maxRecDepth 100000 in
set_option maxHeartbeats 1000000 in
theorem flip_any (base : Nat) (v : Value) (l : List UInt8) (w : World) (ho : OwnB w base v l) (hl : l.length ≤ 100000) :
    Calls Tryd.prog 23 #[v] w fun e w' => e = .returned (.tuple #[]) ∧ w.grownBy w' v.ownBlock := by
  rcases ho.parts with ⟨rfl, rfl⟩ | ⟨g, cap, rfl, hg1, hg2, hc1, hc2, _, _⟩
  · go_enter Tryd.func23, Tryd.ntmps23
    go_wp2_with fail
    go_loop [2, 5] (fun _ i => i = .int .i64 0) (fun _ _ => 0)
    case atStart => rfl
    case round =>
      obtain rfl := hrel
      go_wp2_with fail
      go_end0
      exact ⟨rfl, World.grownBy.refl _ _⟩
  · obtain ⟨n, hn⟩ : ∃ n, n = l.length := ⟨_, rfl⟩
    rw [← hn] at ho hl hc1 ⊢
    have Hn := Lib.hid hn; clear hn
    have HO := Lib.hid ho; clear ho
    unfold maxLen at hc2
    go_enter Tryd.func23, Tryd.ntmps23
    go_wp2_with fail
    go_loopw [2, 5] (fun _ i wr => ∃ (k : Nat) (l' : List UInt8), k ≤ n ∧ i = .int .i64 (k : Int) ∧ l'.length = n ∧ OwnB wr base (.slice (some ⟨g, 0, none⟩) n cap) l' ∧ w.grownBy wr (some g)) (fun _ i _ => n - (intOf i).toNat)
    case atStart => exact ⟨0, l, by omega, rfl, Hn.out.symm, HO.out, World.grownBy.refl _ _⟩
    case round =>
      obtain ⟨k, l', hk, rfl, hl', hO, hB⟩ := hrel
      have HL := Lib.hid hl'; clear hl'
      have HO2 := Lib.hid hO
      have HB := Lib.hid hB; clear hB
      by_cases hlt : k < n
      · obtain ⟨x, hx⟩ : ∃ x, l'[k]? = some x := ⟨_, List.getElem?_eq_getElem (by rw [HL.out]; exact hlt)⟩
        obtain ⟨hc, hf⟩ := hO.getAt k x hx
        obtain ⟨y, hy⟩ := u8_turned x
        have Hy := Lib.hid hy
        clear hx hO hy
        go_wp2_with fail
        rw [Hy.out]
        exact ⟨⟨k + 1, l'.set k y, by omega, by go_num, by rw [List.length_set]; exact HL.out, HO2.out.setAt k y, HB.out.trans (grown_set wr ⟨g, k, none⟩ _)⟩, by simp [intOf]; omega⟩
      · obtain rfl : k = n := by omega
        clear hO
        go_wp2_with fail
        go_end0
        exact ⟨rfl, HB.out⟩
end Go.Proofs.YtlobmffcnobgeaaDoor
