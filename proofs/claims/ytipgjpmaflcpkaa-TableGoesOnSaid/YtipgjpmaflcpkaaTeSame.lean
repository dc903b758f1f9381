/- The law's same: a Table and the reference's hold the same. -/
import Derived.Test.YtipgjpmaflcpkaaTeRw
set_option maxRecDepth 100000
namespace Go.Proofs.Ytipgjpmaflcpkaa
open Go.RowKit Go.Shelf
section
variable {w w1 w2 w' : World} {b0 T m cap X : Nat} {xs xs1 : List Nd}
theorem row_any (h : Tb w T m cap xs) : Calls Try.prog 29 #[tP T, .int .i64 100000] w fun e w' => ∃ v, e = .returned v ∧ ER w' w.heap.size v (tbs xs) ∧ Below w.heap.size w w' :=
  row_core (tP T) (tbs xs) (by rw [tbs_len]; have := h.cnt; have := h.cap; omega) (fun W => all_any T W) (fun W hW Bt hb => all1_r 11 (by omega) Bt T m cap xs W (h.keep hW) hb KE (fun _ _ => True) (fun _ _ _ _ _ _ _ _ _ => trivial)
    (fun A B g c f _ hc hk => ⟨(hk _ _ _ hc).trans hc.symm, trivial⟩) (fun _ _ _ _ _ _ => trivial))
theorem row_nil : Calls Try.prog 29 #[tN, .int .i64 100000] w fun e w' => ∃ v, e = .returned v ∧ ER w' w.heap.size v [] ∧ Below w.heap.size w w' :=
  row_core tN [] (by simp) (fun W => all_nil W) (fun W _ Bt hb => all1_nil 11 (by omega) Bt W KE hb)
set_option maxHeartbeats 1000000 in
theorem equal_any {B1 B2 : Nat} {v1 v2 : Value} {l : PL} (h1 : ES w B1 v1 l) (h2 : ES w B2 v2 l) (hl : l.length ≤ 4096) :
    Calls Try.prog 28 #[v1, v2] w fun e w' => e = .returned (.bool true) ∧ Below w.heap.size w w' := by
  obtain ⟨A, c, rfl, _, a1, a2, a3⟩ := h1
  obtain ⟨A', c', rfl, _, d1, d2, d3⟩ := h2
  have H3 := Lib.hid a3
  have D3 := Lib.hid d3
  clear a3 d3
  go_enter Try.func28, Try.ntmps28
  go_wp2_with fail
  go_loopw [13] (fun i wr => ∃ j : Nat, j ≤ l.length ∧ i = .int .i64 (j : Int) ∧ Below w.heap.size w wr) (fun i _ => l.length - (intOf i).toNat)
  case atStart => exact ⟨0, by omega, rfl, Below.refl _ _⟩
  case round =>
    obtain ⟨j, hj, rfl, hB⟩ := hrel
    by_cases hlt : j < l.length
    · obtain ⟨g, o, rfl, hg, hc⟩ := H3.out (by omega)
      obtain ⟨g', o', rfl, hg', hc'⟩ := D3.out (by omega)
      obtain ⟨e1, e2⟩ := hc j hlt
      obtain ⟨f1, f2⟩ := hc' j hlt
      have hgl := World.block_lt_of_cell? w _ e1
      have hgl' := World.block_lt_of_cell? w _ f1
      obtain ⟨⟨qk, qv⟩, hq⟩ : ∃ q, q = l[j] := ⟨_, rfl⟩
      rw [← hq] at e1 e2 f1 f2
      simp only at e1 e2 f1 f2
      have e1' : wr.cell? ⟨g, o + j * 2, none⟩ = some (strT qk) := (hB.cell (p := ⟨g, o + j * 2, none⟩) hgl).trans e1
      have e2' : wr.cell? ⟨g, o + j * 2 + 1, none⟩ = some (.int .i64 qv) := (hB.cell (p := ⟨g, o + j * 2 + 1, none⟩) hgl).trans e2
      have f1' : wr.cell? ⟨g', o' + j * 2, none⟩ = some (strT qk) := (hB.cell (p := ⟨g', o' + j * 2, none⟩) hgl').trans f1
      have f2' : wr.cell? ⟨g', o' + j * 2 + 1, none⟩ = some (.int .i64 qv) := (hB.cell (p := ⟨g', o' + j * 2 + 1, none⟩) hgl').trans f2
      have HB := Lib.hid hB
      clear e1 e2 f1 f2 hB hc hc' hq H3 D3
      go_wp2_with fail
      go_quiet (fail)
      go_wp2_with fail
      go_roundw
      case rel => exact ⟨j + 1, by omega, by go_num, below_drewN HB.out _⟩
      case measure => simp [intOf]; omega
    · have HB := Lib.hid hB
      clear hB
      go_wp2_with fail
      go_ret
      exact ⟨rfl, HB.out⟩
set_option maxHeartbeats 4000000 in
theorem same_some (h : DX w b0 T m cap X xs) (k : List UInt8) (hk : k.length ≤ 100000) {x : Nd} {t : List Nd} (hx : xs = x :: t) :
    Calls Try.prog 8 #[tP T, tP X, strT k] w fun e w' => e = .returned (.bool true) ∧ Below w.heap.size w w' := by
  have hcap := h.tb.cap
  have hcnt := h.tb.cnt
  have hlen := tbs_len xs
  obtain ⟨n, hn⟩ : ∃ n, n = xs.length := ⟨_, rfl⟩
  rw [← hn] at hlen hcnt
  obtain ⟨v0, hX, hE⟩ := h.xr
  obtain ⟨A, c, rfl, q1, q2, _, _, qf⟩ := hE.parts
  have hn1 : 1 ≤ n := by rw [hn, hx, List.length_cons]; omega
  obtain ⟨g, rfl⟩ := qf (by omega)
  rw [hlen] at q1 hX
  have c0 : w.cell? ⟨X, 0, none⟩ = some (.int .i64 (cap : Int)) := hX.at rfl
  have c1 : w.cell? ⟨X, 1, none⟩ = some (.slice (some ⟨g, 0, none⟩) n c) := hX.at rfl
  have htb : tbs xs = (x.key, x.v) :: tbs t := by rw [hx]; rfl
  have hcl : ∀ W, Below w.heap.size w W → ∀ i (h : i < (tbs xs).length), W.cell? ⟨g, i * 2, none⟩ = some (strT (tbs xs)[i].1) ∧ W.cell? ⟨g, i * 2 + 1, none⟩ = some (.int .i64 (tbs xs)[i].2) := by
    intro W hW i hi
    obtain ⟨e1, e2, e3⟩ := (hE.es).cell i hi
    rw [Nat.zero_add] at e1 e2
    exact ⟨(hW.cell (p := ⟨g, i * 2, none⟩) e3).trans e1, (hW.cell (p := ⟨g, i * 2 + 1, none⟩) e3).trans e2⟩
  have HF : Hid (∀ W, Below w.heap.size w W → W.cell? ⟨g, 0, none⟩ = some (strT x.key) ∧ W.cell? ⟨g, 1, none⟩ = some (.int .i64 x.v)) := Lib.hid (fun W hW => by
    have := hcl W hW 0 (by omega)
    simpa [htb] using this)
  have HCL := Lib.hid hcl
  have HES : Hid (∀ W, Below w.heap.size w W → ES W w.heap.size (.slice (some ⟨g, 0, none⟩) n c) (tbs xs)) := Lib.hid (fun W hW => by
    have := (hE.es).below hW (Nat.le_refl _)
    rwa [hlen] at this)
  have HO : Hid (∀ W, Below w.heap.size w W → Calls Try.prog 13 #[tP T] W fun e w' => e = .returned (.tuple #[strT x.key, vv x.v, .bool true]) ∧ Below W.heap.size W w') := Lib.hid (fun W hW => oldest_any (hx ▸ h.tb.keep hW))
  have HLEN : Hid (∀ W, Below w.heap.size w W → Calls Try.prog 23 #[tP T] W fun e w' => e = .returned (.int .i64 (n : Int)) ∧ W = w') := Lib.hid (fun W hW => by rw [hn]; exact tlen_any (h.tb.keep hW))
  have HROOM : Hid (∀ W, Below w.heap.size w W → Calls Try.prog 24 #[tP T] W fun e w' => e = .returned (.int .i64 ((cap : Int) - (n : Int))) ∧ Below W.heap.size W w') := Lib.hid (fun W hW => by rw [hn]; exact room_any (h.tb.keep hW))
  have hb : (((cap : Int) - (n : Int)) == 0) = (n == cap) := by
    by_cases e : n = cap
    · rw [e]; simp
    · have e1 : (n == cap) = false := by rw [beq_eq_false_iff_ne]; exact e
      rw [e1, beq_eq_false_iff_ne]; omega
  have HFULL : Hid (∀ W, Below w.heap.size w W → Calls Try.prog 25 #[tP T] W fun e w' => e = .returned (.bool (((cap : Int) - (n : Int)) == 0)) ∧ Below W.heap.size W w') := Lib.hid (fun W hW => by rw [hb, hn]; exact full_any (h.tb.keep hW))
  have HGET : Hid (∀ W, Below w.heap.size w W → Calls Try.prog 26 #[tP T, strT k] W fun e w' => e = .returned (match getL (tbs xs) k with | some v => .tuple #[vv v, .bool true] | none => .tuple #[.int .i64 0, .bool false]) ∧ W = w') := Lib.hid (fun W hW => get_any (h.tb.keep hW) k hk)
  have HFIND : Hid (∀ W, Below w.heap.size w W → Calls Try.prog 27 #[tP X, strT k] W fun e w' => e = .returned (.int .i64 (if fiL (tbs xs) k < (tbs xs).length then (fiL (tbs xs) k : Int) else -1)) ∧ Below W.heap.size W w') := Lib.hid (fun W hW => find_X (h.xr.below hW) k (by omega))
  have HROW : Hid (∀ W, Below w.heap.size w W → Calls Try.prog 29 #[tP T, .int .i64 100000] W fun e w' => ∃ v, e = .returned v ∧ ER w' W.heap.size v (tbs xs) ∧ Below W.heap.size W w') := Lib.hid (fun W hW => row_any (h.tb.keep hW))
  have HLN := Lib.hid hlen
  have hn4 : n ≤ 4096 := by omega
  have hnp : (0 : Int) < (n : Int) := by omega
  clear hX hE qf h hb hcl htb hx hn hlen
  obtain ⟨ky, hky⟩ : ∃ ky, ky = x.key := ⟨_, rfl⟩
  obtain ⟨vl, hvl⟩ : ∃ vl : Int, vl = x.v := ⟨_, rfl⟩
  rw [← hky, ← hvl] at HF HO
  clear hky hvl
  unfold vv at HO
  go_enter Try.func8, Try.ntmps8
  go_wp2_with fail
  go_quiet (fail)
  go_wp2_with fail
  refine (HO.out _ (below_drewN (Below.refl _ _) nq)).mono ?_
  rintro e w1 ⟨rfl, hb1⟩
  have HB1 := Lib.hid ((below_drewN (Below.refl _ w) nq).trans (hb1.mono (Nat.le_refl _)))
  obtain ⟨f1, f2⟩ := HF.out w1 HB1.out
  clear hb1
  go_wp2_with fail
  refine (HLEN.out _ HB1.out).mono ?_
  rintro e w2 ⟨rfl, rfl⟩
  go_wp2_with fail
  refine (HROOM.out _ HB1.out).mono ?_
  rintro e w2 ⟨rfl, hb2⟩
  have HB2 := Lib.hid (HB1.out.trans (hb2.mono HB1.out.size))
  clear hb2 f1 f2
  go_wp2_with fail
  refine (HFULL.out _ HB2.out).mono ?_
  rintro e w3 ⟨rfl, hb3⟩
  have HB3 := Lib.hid (HB2.out.trans (hb3.mono HB2.out.size))
  clear hb3
  obtain ⟨bf, hbf⟩ : ∃ bf, bf = ((cap : Int) - (n : Int) == 0) := ⟨_, rfl⟩
  go_wp2_with fail
  have HF2 := HFIND.out _ HB3.out
  have hg := HGET.out _ HB3.out
  rw [getL_fi] at hg
  by_cases hf : fiL (tbs xs) k < (tbs xs).length
  · rw [if_pos hf] at HF2
    rw [List.getElem?_eq_getElem hf] at hg
    change Calls _ _ _ _ (fun e w' => e = .returned (.tuple #[.int .i64 (tbs xs)[fiL (tbs xs) k].2, .bool true]) ∧ w3 = w') at hg
    have HC2 : Hid (∀ W, Below w.heap.size w W → W.cell? ⟨g, fiL (tbs xs) k * 2 + 1, none⟩ = some (.int .i64 (tbs xs)[fiL (tbs xs) k].2)) := Lib.hid (fun W hW => (HCL.out W hW _ hf).2)
    obtain ⟨gv, hgv⟩ : ∃ gv : Int, gv = (tbs xs)[fiL (tbs xs) k].2 := ⟨_, rfl⟩
    rw [← hgv] at HC2 hg
    clear hgv
    obtain ⟨i, hi⟩ : ∃ i, i = fiL (tbs xs) k := ⟨_, rfl⟩
    rw [← hi] at HF2 HC2 hf
    rw [HLN.out] at hf
    have hi0 : (i : Int) < (n : Int) := by omega
    have HF2 := Lib.hid HF2
    clear hi
    refine hg.mono ?_
    rintro e w4 ⟨rfl, rfl⟩
    clear hg
    go_wp2_with fail
    refine HF2.out.mono ?_
    rintro e w4 ⟨rfl, hb4⟩
    have HB4 := Lib.hid (HB3.out.trans (hb4.mono HB3.out.size))
    have c5 := HC2.out _ HB4.out
    clear hb4
    go_wp2_with fail
    refine (HROW.out _ HB4.out).mono ?_
    rintro e w5 ⟨v5, rfl, hr5, hb5⟩
    have HB5 := Lib.hid (HB4.out.trans (hb5.mono HB4.out.size))
    have HR5 := Lib.hid hr5.es
    clear hb5 hr5 c5
    go_wp2_with fail
    refine (equal_any HR5.out (HES.out _ HB5.out) (by rw [HLN.out]; exact hn4)).mono ?_
    rintro e w6 ⟨rfl, hb6⟩
    have HB6 := Lib.hid (HB5.out.trans (hb6.mono HB5.out.size))
    clear hb6
    go_wp2_with fail
    go_ret
    exact ⟨rfl, HB6.out⟩
  · rw [if_neg hf] at HF2
    rw [List.getElem?_eq_none (by omega)] at hg
    change Calls _ _ _ _ (fun e w' => e = .returned (.tuple #[.int .i64 0, .bool false]) ∧ w3 = w') at hg
    have HF2 := Lib.hid HF2
    clear hf
    refine hg.mono ?_
    rintro e w4 ⟨rfl, rfl⟩
    clear hg
    go_wp2_with fail
    refine HF2.out.mono ?_
    rintro e w4 ⟨rfl, hb4⟩
    have HB4 := Lib.hid (HB3.out.trans (hb4.mono HB3.out.size))
    clear hb4
    go_wp2_with fail
    refine (HROW.out _ HB4.out).mono ?_
    rintro e w5 ⟨v5, rfl, hr5, hb5⟩
    have HB5 := Lib.hid (HB4.out.trans (hb5.mono HB4.out.size))
    have HR5 := Lib.hid hr5.es
    clear hb5 hr5
    go_wp2_with fail
    refine (equal_any HR5.out (HES.out _ HB5.out) (by rw [HLN.out]; exact hn4)).mono ?_
    rintro e w6 ⟨rfl, hb6⟩
    have HB6 := Lib.hid (HB5.out.trans (hb6.mono HB5.out.size))
    clear hb6
    go_wp2_with fail
    go_ret
    exact ⟨rfl, HB6.out⟩
end
end Go.Proofs.Ytipgjpmaflcpkaa
