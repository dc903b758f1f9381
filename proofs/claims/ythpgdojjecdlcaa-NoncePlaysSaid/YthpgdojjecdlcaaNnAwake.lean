/- nonce: the document's example. -/
import Derived.Test.YthpgdojjecdlcaaNnIss
set_option maxRecDepth 100000
namespace Go.Proofs.Ythpgdojjecdlcaa
open Go.RowKit Go.Shelf
abbrev nA : List UInt8 := [97, 46, 48, 48, 48, 48, 48, 48, 48, 48, 48, 48, 48, 48, 48, 48, 48, 49]
abbrev nB : List UInt8 := [98, 46, 48, 48, 48, 48, 48, 48, 48, 48, 48, 48, 48, 48, 48, 48, 48, 50]
theorem iss_a : issN ⟨5, 0, 0, 0, false⟩ [] 1 [97] 0 = ((nA, 0), ⟨5, 1, 0, 0, false⟩, [([97], ⟨nA, 0, false, 0⟩)]) := by kernel_rfl
theorem iss_b : issN ⟨5, 1, 0, 0, false⟩ [([97], ⟨nA, 0, false, 0⟩)] 1 [98] 3 = ((nB, 0), ⟨5, 2, 3, 0, true⟩, [([98], ⟨nB, 3, false, 0⟩)]) := by kernel_rfl
theorem find_a : fiN ⟨5, 2, 3, 0, true⟩ [([98], ⟨nB, 3, false, 0⟩)] nA 3 = (none, 6) := by kernel_rfl
theorem okL_nil : okL [] := fun q h => by simp at h
theorem okL_one (k s : List UInt8) (a : Int) (b : Bool) (c : Int) (h0 : 0 ≤ a) (h1 : a < 18446744073709551616) : okL [(k, ⟨s, a, b, c⟩)] := fun q h => by
  rw [List.mem_singleton] at h; subst h; exact ⟨h0, h1⟩
section
variable {w w1 w' : World} {base S T m cap : Nat} {f f2 : NF} {l l2 : PLn} {d n : List UInt8} {c : Int}
theorem issue_eq (h : NS w base S T m cap f l) (now : Int) (hi : issN f l cap d now = ((n, c), f2, l2)) (hd : d.length ≤ 100000) (n0 : 0 ≤ now) (n1 : now < 18446744073709551616) (hok : okL l) (hc : 1 ≤ cap) (se0 : 0 ≤ f.se) (se1 : f.se + 1 < 18446744073709551616) :
    Calls Try.prog 16 #[tP S, strT d, u64v now] w fun e w' => e = .returned (.tuple #[strT n, .int .i64 c]) ∧ NS w' base S T m cap f2 l2 ∧ FrN base m w w' := by
  have := issue_ns h d now hd n0 n1 hok hc se0 se1
  rw [hi] at this
  exact this
theorem check_eq (h : NS w base S T m cap f l) (s : List UInt8) (now : Int) {r : Option VT × Int} (hf : fiN f l s now = r) (hs : s.length ≤ 100000) (n0 : 0 ≤ now) (n1 : now < 18446744073709551616) (hok : okL l) :
    Calls Try.prog 20 #[tP S, strT s, u64v now] w fun e w' => e = .returned (.int .i64 r.2) ∧ Below w.heap.size w w' := by
  have := check_ns h s now hs n0 n1 hok
  rw [hf] at this
  exact this
end
set_option maxHeartbeats 1000000 in
theorem awake12 (w : World) : Calls Try.prog 7 #[] w fun e w' => e = .returned (.bool true) ∧ Below w.heap.size w w' := by
  go_enter Try.func7, Try.ntmps7
  go_wp2_with fail
  refine (new_ns 1 5 w (by omega) (by omega) (by omega) (by omega)).mono ?_
  rintro e w1 ⟨S, T, m, rfl, h1, hb1⟩
  have H1 := Lib.hid h1
  have HB1 := Lib.hid hb1
  clear h1 hb1
  go_wp2_with fail
  refine (issue_eq H1.out 0 iss_a (by simp) (by omega) (by omega) okL_nil (by omega) (by simp) (by simp)).mono ?_
  rintro e w2 ⟨rfl, h2, f2⟩
  have H2 := Lib.hid h2
  have HB2 := Lib.hid (HB1.out.trans f2.low)
  clear h2 f2
  go_wp2_with fail
  refine (issue_eq H2.out 3 iss_b (by simp) (by omega) (by omega) (okL_one _ _ _ _ _ (by omega) (by omega)) (by omega) (by simp) (by simp)).mono ?_
  rintro e w3 ⟨rfl, h3, f3⟩
  have H3 := Lib.hid h3
  have HB3 := Lib.hid (HB2.out.trans f3.low)
  clear h3 f3
  go_wp2_with fail
  refine (mark_any H3.out).mono ?_
  rintro e w4 ⟨rfl, hb4⟩
  have H4 := Lib.hid (H3.out.keep hb4)
  have HB4 := Lib.hid (HB3.out.trans (hb4.mono HB3.out.size))
  clear hb4
  go_wp2_with fail
  refine (check_eq H4.out nA 3 find_a (by simp) (by omega) (by omega) (okL_one _ _ _ _ _ (by omega) (by omega))).mono ?_
  rintro e w5 ⟨rfl, hb5⟩
  have HB5 := Lib.hid (HB4.out.trans (hb5.mono HB4.out.size))
  clear hb5
  go_wp2_with fail
  go_ret
  exact ⟨rfl, HB5.out⟩
end Go.Proofs.Ythpgdojjecdlcaa
