/- nonce: New, Issue. -/
import Derived.Test.YthpgdojjecdlcaaNnDig
set_option maxRecDepth 100000
namespace Go.Proofs.Ythpgdojjecdlcaa
open Go.RowKit Go.Shelf
abbrev tCf : TypeId := 30
theorem new_ns (K : Nat) (wd : Int) (w : World) (h1 : 1 ≤ K) (h2 : K ≤ 64) (w1 : 1 ≤ wd) (w2 : wd ≤ 1099511627776) :
    Calls Try.prog 8 #[.agg #[.int .i64 (K : Int), u64v wd]] w fun e w' => ∃ S T m, e = .returned (.tuple #[tP S, .int .i64 0]) ∧ NS w' w.heap.size S T m K ⟨wd, 0, 0, 0, false⟩ [] ∧ Below w.heap.size w w' := by
  obtain ⟨W, hW⟩ : ∃ W, W = w.alloc (.cells #[.int .i64 (K : Int), u64v wd] tCf) := ⟨_, rfl⟩
  have hB : Below w.heap.size w W := by rw [hW]; exact (Below.refl _ w).alloc (Nat.le_refl _) _
  have hP : BlkT W w.heap.size tCf [.int .i64 (K : Int), u64v wd] := by rw [hW]; exact heap_alloc_new w _
  have c0 : (w.alloc (.cells #[.int .i64 (K : Int), u64v wd] tCf)).cell? ⟨w.heap.size, 0, none⟩ = some (.int .i64 (K : Int)) := by rw [← hW]; exact hP.at rfl
  have hN := new_tb K W h1 (by omega)
  have HN := Lib.hid hN
  have HP := Lib.hid hP
  have HB := Lib.hid hB
  have b1 : ¬ (64 : Int) < (K : Int) := by omega
  have b2 : ¬ (1099511627776 : Int) < wd := by omega
  have b3 : (wd == 0) = false := beq_eq_false_iff_ne.2 (by omega)
  have b4 : decide ((64 : Int) < (K : Int)) = false := decide_eq_false b1
  have b5 : decide ((1099511627776 : Int) < wd) = false := decide_eq_false b2
  clear hN hP hB
  go_enter Try.func8, Try.ntmps8
  go_wp2_with fail
  rw [← hW]
  refine HN.out.mono ?_
  rintro e w1 ⟨T, rfl, ⟨m, ht⟩, hb⟩
  have hp1 := HP.out.below hb HP.out.lt
  have q0 : w1.cell? ⟨w.heap.size, 0, none⟩ = some (.int .i64 (K : Int)) := hp1.at rfl
  have q1 : w1.cell? ⟨w.heap.size, 1, none⟩ = some (u64v wd) := hp1.at rfl
  have HT := Lib.hid ht
  have HB1 := Lib.hid (HB.out.trans (hb.mono HB.out.size))
  have HBl := Lib.hid hb
  clear ht hb hp1 c0 hW
  go_wp2_with fail
  go_ret2
  refine ⟨w1.heap.size, T, m, rfl, ⟨?_, heap_alloc_new w1 _, HB1.out.size⟩, HB1.out.alloc HB1.out.size _⟩
  obtain ⟨xs, hx, he, k1, k2, k3⟩ := HT.out.keep ((Below.refl _ w1).alloc (Nat.le_refl _) (.cells #[u64v wd, tP T, u64v 0, u64v 0, u64v 0, .bool false] tSt))
  have hs := HB.out.size
  exact ⟨xs, hx, he, by omega, by omega, fun x hx => by have := k3 x hx; omega⟩
section
variable {w w1 w' : World} {base S T m cap : Nat} {f : NF} {l : PLn}
theorem getd_n (h : TB w base T m cap l) (k : List UInt8) (hk : k.length ≤ 100000) {v : VT} (hv : getL l k = some v) :
    Calls Try.prog 37 #[tP T, strT k] w fun e w' => e = .returned (.tuple #[.agg #[strT v.s, .int .u64 v.a, .bool v.sp, .int .u32 v.ct], .bool true]) ∧ Below w.heap.size w w' := by
  refine (get_tb h k hk).mono ?_
  rintro e w1 ⟨rfl, _, hb⟩
  rw [hv]
  exact ⟨rfl, hb⟩
theorem getn_n (h : TB w base T m cap l) (k : List UInt8) (hk : k.length ≤ 100000) (hv : getL l k = none) :
    Calls Try.prog 37 #[tP T, strT k] w fun e w' => e = .returned (.tuple #[.agg #[.string ⟨#[]⟩, .int .u64 0, .bool false, .int .u32 0], .bool false]) ∧ Below w.heap.size w w' := by
  refine (get_tb h k hk).mono ?_
  rintro e w1 ⟨rfl, _, hb⟩
  rw [hv]
  exact ⟨rfl, hb⟩
/-- The nonce of a draw and a serial number. -/
def nonL (d : List UInt8) (se : Int) : List UInt8 := d ++ 46 :: encH (be se.toNat 8)
/-- What Issue makes of a store that has room for the draw. -/
def isN (f : NF) (l : PLn) (cap : Nat) (d : List UInt8) (now : Int) : Int × NF × PLn :=
  let p := mrL f now cap l
  let q := putL cap p.2 d ⟨nonL d (p.1.se + 1), now, false, 0⟩
  (q.1, { p.1 with la := now, se := p.1.se + 1 }, q.2)
/-- What Issue answers and leaves. -/
def issN (f : NF) (l : PLn) (cap : Nat) (d : List UInt8) (now : Int) : (List UInt8 × Int) × NF × PLn :=
  if ¬ (d.length ≤ 40 ∧ noncB d = true) then (([], 4), f, l)
  else if now < f.la then (([], 9), f, l)
  else if (getL l d).isSome = true then (([], 7), f, l)
  else ((nonL d ((mrL f now cap l).1.se + 1), (isN f l cap d now).1), (isN f l cap d now).2)
theorem mrL_se (f : NF) (now : Int) (cap : Nat) (l : PLn) : (mrL f now cap l).1.se = f.se ∧ (mrL f now cap l).1.la = f.la ∧ (mrL f now cap l).1.wd = f.wd := by
  unfold mrL
  split
  · exact ⟨rfl, rfl, rfl⟩
  · split
    · exact ⟨rfl, rfl, rfl⟩
    · split <;> exact ⟨rfl, rfl, rfl⟩
theorem issue_bad (w : World) (S : Nat) (d : List UInt8) (now : Int) (hd : d.length ≤ 100000) (hb : ¬ (d.length ≤ 40 ∧ noncB d = true)) :
    Calls Try.prog 16 #[tP S, strT d, u64v now] w fun e w' => e = .returned (.tuple #[strT [], .int .i64 4]) ∧ Below w.heap.size w w' := by
  by_cases h4 : 40 < d.length
  · have h4d : decide ((40 : Int) < (d.length : Int)) = true := decide_eq_true (by omega)
    go_enter Try.func16, Try.ntmps16
    go_wp2_with fail
    go_ret2
    exact ⟨rfl, Below.refl _ _⟩
  · have h4d : decide ((40 : Int) < (d.length : Int)) = false := decide_eq_false (by omega)
    have hn : noncB d = false := by
      cases hx : noncB d with
      | false => rfl
      | true => exact absurd ⟨by omega, hx⟩ hb
    have HN := Lib.hid (nonce_any d w (by omega))
    rw [hn] at HN
    clear hb hn
    go_enter Try.func16, Try.ntmps16
    go_wp2_with fail
    refine HN.out.mono ?_
    rintro e w1 ⟨rfl, hb⟩
    have HB := Lib.hid hb
    clear hb HN
    go_wp2_with fail
    go_ret2
    exact ⟨rfl, HB.out⟩
theorem issue_late (h : NS w base S T m cap f l) (d : List UInt8) (now : Int) (hd : d.length ≤ 40) (hn : noncB d = true) (hl : now < f.la) :
    Calls Try.prog 16 #[tP S, strT d, u64v now] w fun e w' => e = .returned (.tuple #[strT [], .int .i64 9]) ∧ Below w.heap.size w w' := by
  have h4d : decide ((40 : Int) < (d.length : Int)) = false := decide_eq_false (by omega)
  have HN := Lib.hid (nonce_any d w (by omega))
  rw [hn] at HN
  have H := Lib.hid h
  have HBL := Lib.hid h.tb.base_le
  clear h hn
  go_enter Try.func16, Try.ntmps16
  go_wp2_with fail
  refine HN.out.mono ?_
  rintro e w1 ⟨rfl, hb⟩
  have HB := Lib.hid hb
  have h1 := H.out.keep hb
  have H1 := Lib.hid h1
  have c3 : w1.cell? ⟨S, 3, none⟩ = some (u64v f.la) := h1.blk.at rfl
  clear hb h1 HN
  go_wp2_with fail
  go_ret2
  exact ⟨rfl, HB.out⟩
theorem issue_there (h : NS w base S T m cap f l) (d : List UInt8) (now : Int) (hd : d.length ≤ 40) (hn : noncB d = true) (hl : ¬ now < f.la) {v : VT} (hv : getL l d = some v) :
    Calls Try.prog 16 #[tP S, strT d, u64v now] w fun e w' => e = .returned (.tuple #[strT [], .int .i64 7]) ∧ Below w.heap.size w w' := by
  have h4d : decide ((40 : Int) < (d.length : Int)) = false := decide_eq_false (by omega)
  have HN := Lib.hid (nonce_any d w (by omega))
  rw [hn] at HN
  have H := Lib.hid h
  have HBL := Lib.hid h.tb.base_le
  clear h hn
  have HG := Lib.hid (fun (W : World) (hW : NS W base S T m cap f l) => getd_n hW.tb d (by omega) hv)
  clear hv
  go_enter Try.func16, Try.ntmps16
  go_wp2_with fail
  refine HN.out.mono ?_
  rintro e w1 ⟨rfl, hb⟩
  have HB := Lib.hid hb
  have h1 := H.out.keep hb
  have H1 := Lib.hid h1
  have c3 : w1.cell? ⟨S, 3, none⟩ = some (u64v f.la) := h1.blk.at rfl
  have c1 : w1.cell? ⟨S, 1, none⟩ = some (tP T) := h1.blk.at rfl
  clear hb h1 HN
  go_wp2_with fail
  refine (HG.out _ H1.out).mono ?_
  rintro e w2 ⟨rfl, hb2⟩
  have HB2 := Lib.hid (HB.out.trans (hb2.mono HB.out.size))
  clear hb2 HG
  go_wp2_with fail
  go_ret2
  exact ⟨rfl, HB2.out.alloc HB2.out.size _⟩
set_option maxHeartbeats 2000000 in
theorem issue_new (h : NS w base S T m cap f l) (d : List UInt8) (now : Int) (hd : d.length ≤ 40) (hn : noncB d = true) (hl : ¬ now < f.la) (hv : getL l d = none) (n0 : 0 ≤ now) (n1 : now < 18446744073709551616) (hok : okL l) (hc : 1 ≤ cap) (se0 : 0 ≤ f.se) (se1 : f.se + 1 < 18446744073709551616) :
    Calls Try.prog 16 #[tP S, strT d, u64v now] w fun e w' => e = .returned (.tuple #[strT (nonL d ((mrL f now cap l).1.se + 1)), .int .i64 (isN f l cap d now).1]) ∧ NS w' base S T m cap (isN f l cap d now).2.1 (isN f l cap d now).2.2 ∧ FrN base m w w' := by
  have h4d : decide ((40 : Int) < (d.length : Int)) = false := decide_eq_false (by omega)
  have HN := Lib.hid (nonce_any d w (by omega))
  rw [hn] at HN
  have H := Lib.hid h
  have HBL := Lib.hid h.tb.base_le
  clear h hn
  have HG := Lib.hid (fun (W : World) (hW : NS W base S T m cap f l) => getn_n hW.tb d (by omega) hv)
  clear hv
  have hse := (mrL_se f now cap l).1
  unfold isN
  simp only
  have HMR := Lib.hid (fun (W : World) (hW : NS W base S T m cap f l) => makeRoom_ns hW now n0 n1 hok hc)
  obtain ⟨⟨wd2, se2, la2, mr2, md2⟩, hf2⟩ : ∃ f2, f2 = (mrL f now cap l).1 := ⟨_, rfl⟩
  obtain ⟨l2, hl2⟩ : ∃ l2, l2 = (mrL f now cap l).2 := ⟨_, rfl⟩
  rw [← hf2, ← hl2] at HMR
  rw [← hf2] at hse ⊢
  rw [← hl2]
  simp only at hse ⊢
  clear hf2 hl2
  obtain ⟨q, hq⟩ : ∃ q : Nat, (q : Int) = se2 + 1 := ⟨(se2 + 1).toNat, by omega⟩
  have hq2 : (se2 + 1).toNat = q := by omega
  have hqb : q < 18446744073709551616 := by omega
  obtain ⟨nn, hnn⟩ : ∃ nn, nn = nonL d (se2 + 1) := ⟨_, rfl⟩
  have HNN : Hid (nn = d ++ 46 :: encH (be q 8)) := Lib.hid (by rw [hnn]; unfold nonL; rw [hq2])
  rw [← hnn]
  have HQ := Lib.hid hq
  clear hnn hq hq2
  have HD := Lib.hid (fun W => digits_any q W hqb)
  obtain ⟨dg, hdg⟩ : ∃ dg, dg = encH (be q 8) := ⟨_, rfl⟩
  have hdl : dg.length ≤ 16 := by rw [hdg, encH_len, be_length]; omega
  rw [← hdg] at HD HNN
  clear hdg
  have a1 : (ByteArray.mk d.toArray) ++ (ByteArray.mk #[46]) = ByteArray.mk (d ++ [46]).toArray := str_app d [46]
  have a2 : (ByteArray.mk (d ++ [46]).toArray) ++ (ByteArray.mk dg.toArray) = ByteArray.mk nn.toArray := by rw [HNN.out]; exact (str_app (d ++ [46]) dg).trans (by rw [List.append_assoc]; rfl)
  have HA1 := Lib.hid a1
  have HA2 := Lib.hid a2
  clear a1 a2
  have hse0 : 0 ≤ se2 := by omega
  have hse1 : se2 + 1 < 18446744073709551616 := by omega
  clear hse
  go_enter Try.func16, Try.ntmps16
  go_wp2_with fail
  refine HN.out.mono ?_
  rintro e w1 ⟨rfl, hb⟩
  have HB := Lib.hid hb
  have h1 := H.out.keep hb
  have H1 := Lib.hid h1
  have c3 : w1.cell? ⟨S, 3, none⟩ = some (u64v f.la) := h1.blk.at rfl
  have c1 : w1.cell? ⟨S, 1, none⟩ = some (tP T) := h1.blk.at rfl
  clear hb h1 HN
  go_wp2_with fail
  refine (HG.out _ H1.out).mono ?_
  rintro e w2 ⟨rfl, hb2⟩
  obtain ⟨W2, hW2⟩ : ∃ W2, W2 = w2.alloc (.cells #[.string ⟨#[]⟩, .int .u64 0, .bool false, .int .u32 0] tNe) := ⟨_, rfl⟩
  have hB2 : Below w.heap.size w W2 := by rw [hW2]; exact (HB.out.trans (hb2.mono HB.out.size)).alloc (Nat.le_trans HB.out.size hb2.size) _
  have H2 := Lib.hid (H.out.keep hB2)
  have HB2 := Lib.hid (FrN.of_below (m := m) hB2 HBL.out)
  clear hb2 HG hB2 c1 c3
  go_wp2_with fail
  rw [← hW2]
  refine (HMR.out _ H2.out).mono ?_
  rintro e w3 ⟨rfl, h3, hf3⟩
  have H3 := Lib.hid h3
  have HB3 := Lib.hid (HB2.out.trans hf3)
  have c3 : w3.cell? ⟨S, 3, none⟩ = some (u64v la2) := h3.blk.at rfl
  have c2 : w3.cell? ⟨S, 2, none⟩ = some (u64v se2) := h3.blk.at rfl
  have z3 := h3.blk.free 3
  have z2 := h3.blk.free 2
  clear h3 hf3 HMR hW2
  go_wp2_with fail
  obtain ⟨W4, hW4⟩ : ∃ W4, W4 = (w3.setCell ⟨S, 3, none⟩ (u64v now)).setCell ⟨S, 2, none⟩ (u64v (se2 + 1)) := ⟨_, rfl⟩
  have hlo := H3.out.lo
  have hb3 := H3.out.blk.set 3 (u64v now)
  have h4 : NS W4 base S T m cap ⟨wd2, se2 + 1, now, mr2, md2⟩ l2 := by
    rw [hW4]
    exact H3.out.stored (fun k hk => (Below.heap_setCell _ _ _ k hk).trans (Below.heap_setCell _ _ _ k hk)) (hb3.set 2 (u64v (se2 + 1)))
  have hf4 : FrN base m w W4 := by rw [hW4]; exact (HB3.out.set H3.out.blk hlo 3 _).set hb3 hlo 2 _
  have H4 := Lib.hid h4
  have HB4 := Lib.hid hf4
  rw [← hW4, ← HQ.out]
  clear hb3 h4 hf4 hlo c3 c2 z3 z2 hW4 hse0 hse1
  have hda := HA1.out
  have hdb := HA2.out
  refine (HD.out W4).mono ?_
  rintro e w5 ⟨rfl, hb5⟩
  have h5 := H4.out.keep hb5
  have H5 := Lib.hid h5
  have HB5 := Lib.hid (HB4.out.below hb5 HBL.out)
  have c5 : w5.cell? ⟨S, 1, none⟩ = some (tP T) := h5.blk.at rfl
  clear hb5 h5 HD
  go_wp2_with fail
  refine (put_n H5.out.tb d ⟨nn, now, false, 0⟩ (by omega)).mono ?_
  rintro e w6 ⟨rfl, h6, f6, g6⟩
  have H6 := Lib.hid (H5.out.after f6 h6)
  have HB6 := Lib.hid (HB5.out.trans g6)
  clear h6 f6 g6 c5 hda hdb
  go_wp2_with fail
  go_ret2
  exact ⟨rfl, H6.out, HB6.out⟩
theorem issue_ns (h : NS w base S T m cap f l) (d : List UInt8) (now : Int) (hd : d.length ≤ 100000) (n0 : 0 ≤ now) (n1 : now < 18446744073709551616) (hok : okL l) (hc : 1 ≤ cap) (se0 : 0 ≤ f.se) (se1 : f.se + 1 < 18446744073709551616) :
    Calls Try.prog 16 #[tP S, strT d, u64v now] w fun e w' => e = .returned (.tuple #[strT (issN f l cap d now).1.1, .int .i64 (issN f l cap d now).1.2]) ∧ NS w' base S T m cap (issN f l cap d now).2.1 (issN f l cap d now).2.2 ∧ FrN base m w w' := by
  have hbl := h.tb.base_le
  unfold issN
  by_cases h1 : d.length ≤ 40 ∧ noncB d = true
  · rw [if_neg (by simpa using h1)]
    by_cases h2 : now < f.la
    · rw [if_pos h2]
      refine (issue_late h d now h1.1 h1.2 h2).mono ?_
      rintro e w1 ⟨rfl, hb⟩
      exact ⟨rfl, h.keep hb, FrN.of_below hb hbl⟩
    · rw [if_neg h2]
      cases hv : getL l d with
      | some v =>
        simp only [Option.isSome, if_true]
        refine (issue_there h d now h1.1 h1.2 h2 hv).mono ?_
        rintro e w1 ⟨rfl, hb⟩
        exact ⟨rfl, h.keep hb, FrN.of_below hb hbl⟩
      | none =>
        simp only [Option.isSome, Bool.false_eq_true, if_false]
        exact issue_new h d now h1.1 h1.2 h2 hv n0 n1 hok hc se0 se1
  · rw [if_pos h1]
    refine (issue_bad w S d now hd h1).mono ?_
    rintro e w1 ⟨rfl, hb⟩
    exact ⟨rfl, h.keep hb, FrN.of_below hb hbl⟩
end
end Go.Proofs.Ythpgdojjecdlcaa
