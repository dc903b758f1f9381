/- nonce: Check, Spend, Use, Mark, Serial, Len. -/
import Derived.Test.YthpgdojjecdlcaaNnFind
import Derived.Test.YthpgdojjecdlcaaReg
set_option maxRecDepth 100000
namespace Go.Proofs.Ythpgdojjecdlcaa
open Go.RowKit Go.Shelf
section
variable {w w1 w' : World} {base S T m cap : Nat} {f : NF} {l : PLn}
theorem fiN_cases (f : NF) (l : PLn) (s : List UInt8) (now : Int) :
    (∃ c, fiN f l s now = (none, c) ∧ (c = 6 ∨ c = 9)) ∨ (∃ e : VT, fiN f l s now = (some e, 0) ∧ getL l (drL s) = some e ∧ e.s = s ∧ ¬ now < e.a ∧ goneB f now e = false) := by
  unfold fiN
  cases h : getL l (drL s) with
  | none => exact .inl ⟨6, rfl, .inl rfl⟩
  | some e =>
    simp only
    by_cases h1 : e.s ≠ s
    · rw [if_pos h1]; exact .inl ⟨6, rfl, .inl rfl⟩
    · rw [if_neg h1]
      by_cases h2 : now < e.a ∨ goneB f now e = true
      · rw [if_pos h2]; exact .inl ⟨9, rfl, .inr rfl⟩
      · rw [if_neg h2]
        refine .inr ⟨e, rfl, rfl, by simpa using h1, fun h => h2 (.inl h), ?_⟩
        cases hg : goneB f now e with
        | false => rfl
        | true => exact absurd (.inr hg) h2
theorem check_ns (h : NS w base S T m cap f l) (s : List UInt8) (now : Int) (hs : s.length ≤ 100000) (n0 : 0 ≤ now) (n1 : now < 18446744073709551616) (hok : okL l) :
    Calls Try.prog 20 #[tP S, strT s, u64v now] w fun e w' => e = .returned (.int .i64 (fiN f l s now).2) ∧ Below w.heap.size w w' := by
  have HF := Lib.hid (find_ns h s now hs n0 n1 hok)
  obtain ⟨⟨es, ea, esp, ect⟩, hz⟩ : ∃ z, z = (fiN f l s now).1.getD ⟨[], 0, false, 0⟩ := ⟨_, rfl⟩
  obtain ⟨c, hc⟩ : ∃ c, c = (fiN f l s now).2 := ⟨_, rfl⟩
  rw [← hz, ← hc] at HF
  rw [← hc]
  unfold eV at HF
  simp only at HF
  clear h hz hc
  go_enter Try.func20, Try.ntmps20
  go_wp2_with fail
  refine HF.out.mono ?_
  rintro e w1 ⟨rfl, hb⟩
  have HB := Lib.hid hb
  clear hb HF
  go_wp2_with fail
  go_ret
  exact ⟨rfl, HB.out.alloc HB.out.size _⟩
theorem mark_any (h : NS w base S T m cap f l) : Calls Try.prog 19 #[tP S] w fun e w' => e = .returned (.tuple #[u64v f.mr, .bool f.md]) ∧ Below w.heap.size w w' := by
  have c4 : w.cell? ⟨S, 4, none⟩ = some (u64v f.mr) := h.blk.at rfl
  have c5 : w.cell? ⟨S, 5, none⟩ = some (.bool f.md) := h.blk.at rfl
  obtain ⟨wd, se, la, mk, md⟩ := f
  simp only at c4 c5 ⊢
  clear h
  go_enter Try.func19, Try.ntmps19
  go_wp2_with fail
  go_quiet (fail)
  go_wp2_with fail
  go_ret2
  exact ⟨rfl, below_drewN (Below.refl _ _) _⟩
theorem serial_any (h : NS w base S T m cap f l) : Calls Try.prog 17 #[tP S] w fun e w' => e = .returned (u64v f.se) ∧ w = w' := by
  have c2 : w.cell? ⟨S, 2, none⟩ = some (u64v f.se) := h.blk.at rfl
  obtain ⟨wd, se, la, mk, md⟩ := f
  simp only at c2 ⊢
  clear h
  go_enter Try.func17, Try.ntmps17
  go_wp2_with fail
  go_ret
  exact ⟨rfl, rfl⟩
theorem nlen_any (h : NS w base S T m cap f l) : Calls Try.prog 21 #[tP S] w fun e w' => e = .returned (.int .i64 (l.length : Int)) ∧ w = w' := by
  have c1 : w.cell? ⟨S, 1, none⟩ = some (tP T) := h.blk.at rfl
  have HL := Lib.hid (len_tb h.tb)
  clear h
  go_enter Try.func21, Try.ntmps21
  go_wp2_with fail
  refine HL.out.mono ?_
  rintro e w' ⟨rfl, rfl⟩
  go_wp2_with fail
  go_ret
  exact ⟨rfl, rfl⟩
/-- What Spend answers and leaves. -/
def spN (f : NF) (l : PLn) (s : List UInt8) (now : Int) : Int × PLn :=
  match fiN f l s now with
  | (none, c) => (c, l)
  | (some e, _) => if e.sp = true ∨ 0 < e.ct then (10, l) else setL l (drL s) { e with sp := true }
/-- What Use answers and leaves. -/
def usN (f : NF) (l : PLn) (s : List UInt8) (k now : Int) : Int × PLn :=
  match fiN f l s now with
  | (none, c) => (c, l)
  | (some e, _) => if k = 0 then (1, l) else if e.sp = true ∨ k ≤ e.ct then (10, l) else setL l (drL s) { e with ct := k }
set_option maxHeartbeats 2000000 in
theorem spend_ns (h : NS w base S T m cap f l) (s : List UInt8) (now : Int) (hs : s.length ≤ 100000) (n0 : 0 ≤ now) (n1 : now < 18446744073709551616) (hok : okL l) :
    Calls Try.prog 13 #[tP S, strT s, u64v now] w fun e w' => e = .returned (.int .i64 (spN f l s now).1) ∧ NS w' base S T m cap f (spN f l s now).2 ∧ FrN base m w w' := by
  have HF := Lib.hid (find_ns h s now hs n0 n1 hok)
  have H := Lib.hid h
  have HBL := Lib.hid h.tb.base_le
  unfold spN
  rcases fiN_cases f l s now with ⟨c, hf, hc⟩ | ⟨⟨es, ea, esp, ect⟩, hf, hg, he, hn, hgo⟩
  · rw [hf] at HF ⊢
    simp only [Option.getD] at HF ⊢
    unfold eV at HF
    simp only at HF
    clear h hf
    rcases hc with rfl | rfl
    all_goals
      go_enter Try.func13, Try.ntmps13
      go_wp2_with fail
      refine HF.out.mono ?_
      rintro e w1 ⟨rfl, hb⟩
      have HB := Lib.hid hb
      clear hb HF
      go_wp2_with fail
      go_ret
      exact ⟨rfl, H.out.keep (HB.out.alloc HB.out.size _), FrN.of_below (HB.out.alloc HB.out.size _) HBL.out⟩
  · rw [hf] at HF ⊢
    simp only [Option.getD] at HF ⊢
    unfold eV at HF
    simp only at HF
    have hdl : (drL s).length ≤ 100000 := by unfold drL; rw [List.length_take]; omega
    have HSET := fun (w : World) (h : NS w base S T m cap f l) => set_n h.tb (drL s) ⟨es, ea, true, ect⟩ hdl
    obtain ⟨k, hk⟩ : ∃ k, k = drL s := ⟨_, rfl⟩
    have hdo := fun W => drawOf_any s W (by omega)
    rw [← hk] at HSET hdo
    rw [← hk]
    have HD := Lib.hid hdo
    have HS := Lib.hid HSET
    clear h hf hg he hn hgo hdl hk hdo HSET
    cases esp with
    | true =>
      rw [if_pos (.inl rfl)]
      go_enter Try.func13, Try.ntmps13
      go_wp2_with fail
      refine HF.out.mono ?_
      rintro e w1 ⟨rfl, hb⟩
      have HB := Lib.hid hb
      clear hb HF
      go_wp2_with fail
      go_ret
      exact ⟨rfl, H.out.keep (HB.out.alloc HB.out.size _), FrN.of_below (HB.out.alloc HB.out.size _) HBL.out⟩
    | false =>
      by_cases hct : 0 < ect
      · rw [if_pos (.inr hct)]
        go_enter Try.func13, Try.ntmps13
        go_wp2_with fail
        refine HF.out.mono ?_
        rintro e w1 ⟨rfl, hb⟩
        have HB := Lib.hid hb
        clear hb HF
        go_wp2_with fail
        go_ret
        exact ⟨rfl, H.out.keep (HB.out.alloc HB.out.size _), FrN.of_below (HB.out.alloc HB.out.size _) HBL.out⟩
      · rw [if_neg (by simp [hct])]
        go_enter Try.func13, Try.ntmps13
        go_wp2_with fail
        refine HF.out.mono ?_
        rintro e w1 ⟨rfl, hb⟩
        have HB := Lib.hid hb
        clear hb HF
        go_wp2_with fail
        obtain ⟨P, hP⟩ : ∃ P, P = w1.heap.size := ⟨_, rfl⟩
        obtain ⟨W, hW⟩ : ∃ W, W = w1.alloc (.cells #[.string ⟨es.toArray⟩, .int .u64 ea, .bool true, .int .u32 ect] tNe) := ⟨_, rfl⟩
        have hbk : BlkT W P tNe [strT es, .int .u64 ea, .bool true, .int .u32 ect] := by rw [hW, hP]; exact heap_alloc_new w1 _
        have hBW : Below w.heap.size w W := by rw [hW]; exact HB.out.alloc HB.out.size _
        have hns : NS W base S T m cap f l := H.out.keep hBW
        rw [← hW, ← hP]
        clear hW hP
        have HBK := Lib.hid hbk
        have HNS := Lib.hid hns
        have HBW := Lib.hid (FrN.of_below (m := m) hBW HBL.out)
        clear hBW
        refine wp_region_noPanic ?_
        refine wp_region_held (S := (fun w' => w'.cell? ⟨S, 1, none⟩ = some (tP T) ∧ w'.cell? ⟨P, 0, none⟩ = some (strT es) ∧ w'.cell? ⟨P, 1, none⟩ = some (.int .u64 ea) ∧ w'.cell? ⟨P, 2, none⟩ = some (.bool true) ∧ w'.cell? ⟨P, 3, none⟩ = some (.int .u32 ect))) (by kernel_rfl) ?_
        change wpAnyH _ _ _ _ _ _ _ _ W.drew
        have hS0 : W.drew.cell? ⟨S, 1, none⟩ = some (tP T) ∧ W.drew.cell? ⟨P, 0, none⟩ = some (strT es) ∧ W.drew.cell? ⟨P, 1, none⟩ = some (.int .u64 ea) ∧ W.drew.cell? ⟨P, 2, none⟩ = some (.bool true) ∧ W.drew.cell? ⟨P, 3, none⟩ = some (.int .u32 ect) := ⟨hns.blk.drew.at rfl, hbk.drew.at rfl, hbk.drew.at rfl, hbk.drew.at rfl, hbk.drew.at rfl⟩
        clear hns hbk
        refine takeH 0 27 (tP S) rfl rfl (by kernel_rfl) (by kernel_rfl) (by kernel_rfl) (fun _ _ _ h => h) rfl (fun w' hS => by obtain ⟨s0, s1, s2, s3, s4⟩ := hS; go_simp) hS0 ?_
        go_frame
        refine takeH 1 28 (Value.pointer (some ⟨S, 0, none⟩)) rfl rfl (by kernel_rfl) (by kernel_rfl) (by kernel_rfl) (fun _ _ _ h => h) rfl (fun w' hS => by obtain ⟨s0, s1, s2, s3, s4⟩ := hS; go_simp) hS0 ?_
        go_frame
        refine takeH 2 29 (Value.pointer (some ⟨S, 1, none⟩)) rfl rfl (by kernel_rfl) (by kernel_rfl) (by kernel_rfl) (fun _ _ _ h => h) rfl (fun w' hS => by obtain ⟨s0, s1, s2, s3, s4⟩ := hS; go_simp) hS0 ?_
        go_frame
        refine takeH 3 30 (tP T) rfl rfl (by kernel_rfl) (by kernel_rfl) (by kernel_rfl) (fun _ _ _ h => h) rfl (fun w' hS => by obtain ⟨s0, s1, s2, s3, s4⟩ := hS; go_simp) hS0 ?_
        go_frame
        refine takeH 4 31 (strT s) rfl rfl (by kernel_rfl) (by kernel_rfl) (by kernel_rfl) (fun _ _ _ h => h) rfl (fun w' hS => by obtain ⟨s0, s1, s2, s3, s4⟩ := hS; go_simp) hS0 ?_
        go_frame
        refine takeH 6 33 (.agg #[strT es, .int .u64 ea, .bool true, .int .u32 ect]) rfl rfl (by kernel_rfl) (by kernel_rfl) (by kernel_rfl) (fun _ _ _ h => h) rfl (fun w' hS => by obtain ⟨s0, s1, s2, s3, s4⟩ := hS; go_simp) hS0 ?_
        go_frame
        refine wpAnyH_all (rs := [5]) (by kernel_rfl) (by simp) ?_
        simp only [List.mem_singleton, forall_eq]
        refine wpOp_callD 32 rfl rfl rfl 31 #[strT s] (by go_simp) ?_
        refine (HD.out W.drew).mono ?_
        rintro e w3 ⟨rfl, rfl⟩
        refine ⟨_, rfl, hS0, ?_⟩
        go_frame
        refine wpAnyH_all (rs := [7]) (by kernel_rfl) (by simp) ?_
        simp only [List.mem_singleton, forall_eq]
        refine wpOp_callD 34 rfl rfl rfl 30 #[tP T, strT k, .agg #[strT es, .int .u64 ea, .bool true, .int .u32 ect]] (by go_simp) ?_
        have hnd : NS W.drew base S T m cap f l := HNS.out.keep ((Below.refl _ _).drew)
        refine (HS.out W.drew hnd).mono ?_
        rintro e X2 ⟨rfl, h5, f5, g5⟩
        have hns5 := hnd.after f5 h5
        have hbk5 : BlkT X2 P tNe [strT es, .int .u64 ea, .bool true, .int .u32 ect] := f5.kt _ _ _ _ HBK.out.drew (by decide) (by decide)
        have hB5 : FrN base m w X2 := HBW.out.drew.trans g5
        have hS5 : X2.cell? ⟨S, 1, none⟩ = some (tP T) ∧ X2.cell? ⟨P, 0, none⟩ = some (strT es) ∧ X2.cell? ⟨P, 1, none⟩ = some (.int .u64 ea) ∧ X2.cell? ⟨P, 2, none⟩ = some (.bool true) ∧ X2.cell? ⟨P, 3, none⟩ = some (.int .u32 ect) := ⟨hns5.blk.at rfl, hbk5.at rfl, hbk5.at rfl, hbk5.at rfl, hbk5.at rfl⟩
        refine ⟨_, rfl, hS5, ?_⟩
        go_frame
        refine takeH 8 6 (.int .i64 (setL l k ⟨es, ea, true, ect⟩).1) rfl rfl (by kernel_rfl) (by kernel_rfl) (by kernel_rfl) (fun _ _ _ h => h) rfl (fun w' hS => by go_simp) hS5 ?_
        go_frame
        refine wpAnyH_done (by kernel_rfl) ?_ _
        refine NoPanic.normal ?_
        have HNS5 := Lib.hid hns5
        have HB5 := Lib.hid hB5
        clear hns5 hB5 hS5 hS0 hbk5 h5 f5 g5 hnd
        go_wp2_with fail
        go_ret
        exact ⟨rfl, HNS5.out, HB5.out⟩
set_option maxHeartbeats 2000000 in
theorem use_ns (h : NS w base S T m cap f l) (s : List UInt8) (q now : Int) (hs : s.length ≤ 100000) (n0 : 0 ≤ now) (n1 : now < 18446744073709551616) (q0 : 0 ≤ q) (hok : okL l) :
    Calls Try.prog 14 #[tP S, strT s, .int .u32 q, u64v now] w fun e w' => e = .returned (.int .i64 (usN f l s q now).1) ∧ NS w' base S T m cap f (usN f l s q now).2 ∧ FrN base m w w' := by
  have HF := Lib.hid (find_ns h s now hs n0 n1 hok)
  have H := Lib.hid h
  have HBL := Lib.hid h.tb.base_le
  unfold usN
  rcases fiN_cases f l s now with ⟨c, hf, hc⟩ | ⟨⟨es, ea, esp, ect⟩, hf, hg, he, hn, hgo⟩
  · rw [hf] at HF ⊢
    simp only [Option.getD] at HF ⊢
    unfold eV at HF
    simp only at HF
    clear h hf
    rcases hc with rfl | rfl
    all_goals
      go_enter Try.func14, Try.ntmps14
      go_wp2_with fail
      refine HF.out.mono ?_
      rintro e w1 ⟨rfl, hb⟩
      have HB := Lib.hid hb
      clear hb HF
      go_wp2_with fail
      go_ret
      exact ⟨rfl, H.out.keep (HB.out.alloc HB.out.size _), FrN.of_below (HB.out.alloc HB.out.size _) HBL.out⟩
  · rw [hf] at HF ⊢
    simp only [Option.getD] at HF ⊢
    unfold eV at HF
    simp only at HF
    have hdl : (drL s).length ≤ 100000 := by unfold drL; rw [List.length_take]; omega
    have HSET := fun (w : World) (h : NS w base S T m cap f l) => set_n h.tb (drL s) ⟨es, ea, esp, q⟩ hdl
    obtain ⟨k, hk⟩ : ∃ k, k = drL s := ⟨_, rfl⟩
    have hdo := fun W => drawOf_any s W (by omega)
    rw [← hk] at HSET hdo
    rw [← hk]
    have HD := Lib.hid hdo
    have HS := Lib.hid HSET
    clear h hf hg he hn hgo hdl hk hdo HSET
    by_cases hq : q = 0
    · subst hq
      rw [if_pos rfl]
      go_enter Try.func14, Try.ntmps14
      go_wp2_with fail
      refine HF.out.mono ?_
      rintro e w1 ⟨rfl, hb⟩
      have HB := Lib.hid hb
      clear hb HF
      go_wp2_with fail
      go_ret
      exact ⟨rfl, H.out.keep (HB.out.alloc HB.out.size _), FrN.of_below (HB.out.alloc HB.out.size _) HBL.out⟩
    · have hq2 : (q == 0) = false := beq_eq_false_iff_ne.2 hq
      rw [if_neg hq]
      cases esp with
      | true =>
        rw [if_pos (.inl rfl)]
        go_enter Try.func14, Try.ntmps14
        go_wp2_with fail
        refine HF.out.mono ?_
        rintro e w1 ⟨rfl, hb⟩
        have HB := Lib.hid hb
        clear hb HF
        go_wp2_with fail
        go_ret
        exact ⟨rfl, H.out.keep (HB.out.alloc HB.out.size _), FrN.of_below (HB.out.alloc HB.out.size _) HBL.out⟩
      | false =>
        by_cases hct : q ≤ ect
        · rw [if_pos (.inr hct)]
          go_enter Try.func14, Try.ntmps14
          go_wp2_with fail
          refine HF.out.mono ?_
          rintro e w1 ⟨rfl, hb⟩
          have HB := Lib.hid hb
          clear hb HF
          go_wp2_with fail
          go_ret
          exact ⟨rfl, H.out.keep (HB.out.alloc HB.out.size _), FrN.of_below (HB.out.alloc HB.out.size _) HBL.out⟩
        · rw [if_neg (by simp [hct])]
          go_enter Try.func14, Try.ntmps14
          go_wp2_with fail
          refine HF.out.mono ?_
          rintro e w1 ⟨rfl, hb⟩
          have HB := Lib.hid hb
          clear hb HF
          go_wp2_with fail
          obtain ⟨P, hP⟩ : ∃ P, P = w1.heap.size := ⟨_, rfl⟩
          obtain ⟨W, hW⟩ : ∃ W, W = w1.alloc (.cells #[.string ⟨es.toArray⟩, .int .u64 ea, .bool false, .int .u32 q] tNe) := ⟨_, rfl⟩
          have hbk : BlkT W P tNe [strT es, .int .u64 ea, .bool false, .int .u32 q] := by rw [hW, hP]; exact heap_alloc_new w1 _
          have hBW : Below w.heap.size w W := by rw [hW]; exact HB.out.alloc HB.out.size _
          have hns : NS W base S T m cap f l := H.out.keep hBW
          rw [← hW, ← hP]
          clear hW hP
          have HBK := Lib.hid hbk
          have HNS := Lib.hid hns
          have HBW := Lib.hid (FrN.of_below (m := m) hBW HBL.out)
          clear hBW
          refine wp_region_noPanic ?_
          refine wp_region_held (S := (fun w' => w'.cell? ⟨S, 1, none⟩ = some (tP T) ∧ w'.cell? ⟨P, 0, none⟩ = some (strT es) ∧ w'.cell? ⟨P, 1, none⟩ = some (.int .u64 ea) ∧ w'.cell? ⟨P, 2, none⟩ = some (.bool false) ∧ w'.cell? ⟨P, 3, none⟩ = some (.int .u32 q))) (by kernel_rfl) ?_
          change wpAnyH _ _ _ _ _ _ _ _ W.drew
          have hS0 : W.drew.cell? ⟨S, 1, none⟩ = some (tP T) ∧ W.drew.cell? ⟨P, 0, none⟩ = some (strT es) ∧ W.drew.cell? ⟨P, 1, none⟩ = some (.int .u64 ea) ∧ W.drew.cell? ⟨P, 2, none⟩ = some (.bool false) ∧ W.drew.cell? ⟨P, 3, none⟩ = some (.int .u32 q) := ⟨hns.blk.drew.at rfl, hbk.drew.at rfl, hbk.drew.at rfl, hbk.drew.at rfl, hbk.drew.at rfl⟩
          clear hns hbk
          refine takeH 0 33 (tP S) rfl rfl (by kernel_rfl) (by kernel_rfl) (by kernel_rfl) (fun _ _ _ h => h) rfl (fun w' hS => by obtain ⟨s0, s1, s2, s3, s4⟩ := hS; go_simp) hS0 ?_
          go_frame
          refine takeH 1 34 (Value.pointer (some ⟨S, 0, none⟩)) rfl rfl (by kernel_rfl) (by kernel_rfl) (by kernel_rfl) (fun _ _ _ h => h) rfl (fun w' hS => by obtain ⟨s0, s1, s2, s3, s4⟩ := hS; go_simp) hS0 ?_
          go_frame
          refine takeH 2 35 (Value.pointer (some ⟨S, 1, none⟩)) rfl rfl (by kernel_rfl) (by kernel_rfl) (by kernel_rfl) (fun _ _ _ h => h) rfl (fun w' hS => by obtain ⟨s0, s1, s2, s3, s4⟩ := hS; go_simp) hS0 ?_
          go_frame
          refine takeH 3 36 (tP T) rfl rfl (by kernel_rfl) (by kernel_rfl) (by kernel_rfl) (fun _ _ _ h => h) rfl (fun w' hS => by obtain ⟨s0, s1, s2, s3, s4⟩ := hS; go_simp) hS0 ?_
          go_frame
          refine takeH 4 37 (strT s) rfl rfl (by kernel_rfl) (by kernel_rfl) (by kernel_rfl) (fun _ _ _ h => h) rfl (fun w' hS => by obtain ⟨s0, s1, s2, s3, s4⟩ := hS; go_simp) hS0 ?_
          go_frame
          refine takeH 6 39 (.agg #[strT es, .int .u64 ea, .bool false, .int .u32 q]) rfl rfl (by kernel_rfl) (by kernel_rfl) (by kernel_rfl) (fun _ _ _ h => h) rfl (fun w' hS => by obtain ⟨s0, s1, s2, s3, s4⟩ := hS; go_simp) hS0 ?_
          go_frame
          refine wpAnyH_all (rs := [5]) (by kernel_rfl) (by simp) ?_
          simp only [List.mem_singleton, forall_eq]
          refine wpOp_callD 38 rfl rfl rfl 31 #[strT s] (by go_simp) ?_
          refine (HD.out W.drew).mono ?_
          rintro e w3 ⟨rfl, rfl⟩
          refine ⟨_, rfl, hS0, ?_⟩
          go_frame
          refine wpAnyH_all (rs := [7]) (by kernel_rfl) (by simp) ?_
          simp only [List.mem_singleton, forall_eq]
          refine wpOp_callD 40 rfl rfl rfl 30 #[tP T, strT k, .agg #[strT es, .int .u64 ea, .bool false, .int .u32 q]] (by go_simp) ?_
          have hnd : NS W.drew base S T m cap f l := HNS.out.keep ((Below.refl _ _).drew)
          refine (HS.out W.drew hnd).mono ?_
          rintro e X2 ⟨rfl, h5, f5, g5⟩
          have hns5 := hnd.after f5 h5
          have hbk5 : BlkT X2 P tNe [strT es, .int .u64 ea, .bool false, .int .u32 q] := f5.kt _ _ _ _ HBK.out.drew (by decide) (by decide)
          have hB5 : FrN base m w X2 := HBW.out.drew.trans g5
          have hS5 : X2.cell? ⟨S, 1, none⟩ = some (tP T) ∧ X2.cell? ⟨P, 0, none⟩ = some (strT es) ∧ X2.cell? ⟨P, 1, none⟩ = some (.int .u64 ea) ∧ X2.cell? ⟨P, 2, none⟩ = some (.bool false) ∧ X2.cell? ⟨P, 3, none⟩ = some (.int .u32 q) := ⟨hns5.blk.at rfl, hbk5.at rfl, hbk5.at rfl, hbk5.at rfl, hbk5.at rfl⟩
          refine ⟨_, rfl, hS5, ?_⟩
          go_frame
          refine takeH 8 8 (.int .i64 (setL l k ⟨es, ea, false, q⟩).1) rfl rfl (by kernel_rfl) (by kernel_rfl) (by kernel_rfl) (fun _ _ _ h => h) rfl (fun w' hS => by go_simp) hS5 ?_
          go_frame
          refine wpAnyH_done (by kernel_rfl) ?_ _
          refine NoPanic.normal ?_
          have HNS5 := Lib.hid hns5
          have HB5 := Lib.hid hB5
          clear hns5 hB5 hS5 hS0 hbk5 h5 f5 g5 hnd
          go_wp2_with fail
          go_ret
          exact ⟨rfl, HNS5.out, HB5.out⟩
end
end Go.Proofs.Ythpgdojjecdlcaa
