/- head: the reference's request and answer: a first line's head. -/
import Derived.Test.YtajclihnoedecaaGreatDoorHrL
import Derived.Test.YtajclihnoedecaaGreatDoorHdLnR
import Derived.Test.YtajclihnoedecaaGreatDoorReg
import Derived.StillTailTactics
import Derived.Deep.RegionHeld3
import Derived.WalkKit
set_option maxRecDepth 100000
namespace Go.Proofs.YtajclihnoedecaaGreatDoor
open Go.RowKit Go.Shelf
attribute [local go_sem] Oper.semAt_some
abbrev hd4 (a b : List UInt8) (st : Int) (v : Value) : Value := .agg #[str a, str b, .int .i64 st, v]
theorem ib_lt (l : List UInt8) (c : UInt8) : Lib.indexByte l c < l.length := by
  have h1 := Lib.indexByte_ge l c
  by_cases h : Lib.indexByte l c < 0
  · omega
  · have h2 := Lib.index_room l [c] (by rw [Lib.index_one]; omega)
    rw [Lib.index_one] at h2
    simp at h2; omega
theorem takeHNX {P : Program} {ops : Array Oper} {Q : Exit → Act → World → Prop} {a : Act} {w : World} {md : Region.Mode} {S : World → Prop} (i : Nat) (d : Tmp) {oi : Oper} {fuel : Nat} {listed : Array Bool} (hi : ops[i]? = some oi) (hd : oi.dst = some d)
    (hs : Region.noSelect ops = true) (hf : Region.free md ops listed i = true) (hr : (Region.ready md ops listed).contains i = true)
    (hQ : ∀ c (a : Act) w, Q (.panic c) (a.put oi.dst undef) w → Q (.panic c) a w) (hw : Region.wanted oi (yielded ops a.tmps) = false) (hS : S w)
    (h : wpAnyH P md ops Q S fuel (listed.setIfInBounds i true) (a.put (some d) undef) w) : wpAnyH P md ops Q S (fuel + 1) listed a w :=
  wpAnyH_take hi hs hf hr hQ (Or.inr ⟨hw, rfl⟩) hS (by rw [hd]; exact h)
theorem refTok (s : List UInt8) (w : World) (hs : s.length ≤ 100000) : Calls Tryz.prog 22 #[str s] w fun e w' => e = .returned (.bool (tokB s)) ∧ w' = w := (refToken_any s w hs).mono fun _ _ h => ⟨h.1, h.2.symm⟩
theorem refTgt (s : List UInt8) (w : World) (hs : s.length ≤ 100000) : Calls Tryz.prog 28 #[str s] w fun e w' => e = .returned (.bool (tgtB s)) ∧ w' = w := (refTarget_any s w hs).mono fun _ _ h => ⟨by rw [tgt_se]; exact h.1, h.2.symm⟩
set_option maxHeartbeats 2000000 in
theorem refReq_any (l : List UInt8) (w : World) (hs : l.length ≤ 5000) :
    Calls Tryz.prog 19 #[str l] w fun e w' => ∃ a b, e = .returned (.tuple #[hd4 a b 0 (.slice none 0 0), .bool (reqT l).2.2]) ∧ ((reqT l).2.2 = true → a = (reqT l).1 ∧ b = (reqT l).2.1) ∧ Below w.heap.size w w' := by
  have hr := reqT_ref l
  have HA1 := Lib.hid (fun W => at_any l 32 W (by omega))
  have hge := Lib.indexByte_ge l 32
  have hle : Lib.indexByte l 32 < l.length := ib_lt l 32
  obtain ⟨Q, hQ⟩ : ∃ Q, Q = reqT l := ⟨_, rfl⟩
  rw [← hQ] at hr ⊢
  clear hQ
  obtain ⟨I, hI⟩ : ∃ I, I = Lib.indexByte l 32 := ⟨_, rfl⟩
  rw [← hI] at hr HA1 hge hle
  clear hI
  have hlow := (Below.refl w.heap.size w).alloc (Nat.le_refl _) (.cells #[str [], str [], .int .i64 0, .slice none 0 0] 29)
  have HLOW := Lib.hid hlow
  have hk0 := Blk.new w [str [], str [], .int .i64 0, .slice none 0 0] 29
  have HK0 := Lib.hid hk0
  clear hlow hk0
  by_cases h1 : I < 0
  · rw [if_neg (fun h => by omega)] at hr
    subst hr
    go_enter Tryz.func19, Tryz.ntmps19
    go_wp2_with fail
    refine (HA1.out _).mono ?_
    rintro e w1 ⟨rfl, rfl⟩
    go_wp2_with fail
    exact bodyPost_ret (v := .tuple #[hd4 [] [] 0 (.slice none 0 0), .bool false]) (by simp [results, Tryz.results19, go_sem]) rfl ⟨[], [], rfl, fun _ => ⟨rfl, rfl⟩, HLOW.out⟩
  · obtain ⟨i, rfl⟩ : ∃ i : Nat, I = i := ⟨I.toNat, by omega⟩
    have hil : i ≤ l.length := by omega
    simp only [Int.toNat_natCast] at hr
    have h0 : (0 : Int) ≤ (i : Int) := by omega
    have t1 := fun W => str_take l i hil W
    have hlt : i < l.length := by omega
    · have t2 := fun W => str_drop l (i + 1) (by omega) W
      rw [show ((i + 1 : Nat) : Int) = (i : Int) + 1 by omega] at t2
      have HA2 := Lib.hid (fun W => at_any (l.drop (i + 1)) 32 W (by rw [List.length_drop]; omega))
      have hle2 := Lib.index_le (l.drop (i + 1)) [32]
      have hge2 := Lib.indexByte_ge (l.drop (i + 1)) 32
      have hro2 := ib_lt (l.drop (i + 1)) 32
      rw [Lib.index_one] at hle2
      obtain ⟨R, hR⟩ : ∃ R, R = l.drop (i + 1) := ⟨_, rfl⟩
      have hRl : R.length ≤ 5000 := by rw [hR, List.length_drop]; omega
      have hAl : (l.take i).length ≤ 5000 := by rw [List.length_take]; omega
      rw [← hR] at hr t2 HA2 hle2 hge2 hro2
      obtain ⟨A, hA⟩ : ∃ A, A = l.take i := ⟨_, rfl⟩
      rw [← hA] at hr t1 hAl
      clear hR hA
      obtain ⟨J, hJ⟩ : ∃ J, J = Lib.indexByte R 32 := ⟨_, rfl⟩
      rw [← hJ] at hr HA2 hle2 hge2 hro2
      clear hJ
      have T2 := Lib.hid t2
      by_cases h2 : J < 0
      · rw [if_neg (fun h => by omega)] at hr
        subst hr
        clear hro2 t2
        have t2 := T2.out
        go_enter Tryz.func19, Tryz.ntmps19
        go_wp2_with fail
        refine (HA1.out _).mono ?_
        rintro e w1 ⟨rfl, rfl⟩
        go_wp2_with fail
        refine (HA2.out _).mono ?_
        rintro e w1 ⟨rfl, rfl⟩
        go_wp2_with fail
        exact bodyPost_ret (v := .tuple #[hd4 [] [] 0 (.slice none 0 0), .bool false]) (by simp [results, Tryz.results19, go_sem]) rfl ⟨[], [], rfl, fun _ => ⟨rfl, rfl⟩, HLOW.out⟩
      · obtain ⟨j, rfl⟩ : ∃ j : Nat, J = j := ⟨J.toNat, by omega⟩
        have hjl : j < R.length := by omega
        simp only [Int.toNat_natCast] at hr
        have t3 := fun W => str_take R j (by omega) W
        have t4 := fun W => str_drop R (j + 1) (by omega) W
        rw [show ((j + 1 : Nat) : Int) = (j : Int) + 1 by omega] at t4
        have hBl : (R.take j).length ≤ 5000 := by rw [List.length_take]; omega
        obtain ⟨B, hB⟩ : ∃ B, B = R.take j := ⟨_, rfl⟩
        obtain ⟨C, hC⟩ : ∃ C, C = R.drop (j + 1) := ⟨_, rfl⟩
        rw [← hB] at hr t3 hBl
        rw [← hC] at hr t4
        have HTK := Lib.hid (fun W => refTok A W (by omega))
        have HTG := Lib.hid (fun W => refTgt B W (by omega))
        obtain ⟨tk, htk⟩ : ∃ tk, tk = tokB A := ⟨_, rfl⟩
        obtain ⟨tg, htg⟩ : ∃ tg, tg = tgtB B := ⟨_, rfl⟩
        rw [← htk] at hr HTK
        rw [← htg] at hr HTG
        clear hB hC htk htg hro2 hle hle2 hge hge2
        by_cases hv : C = verS
        · have e1 : (C != [72, 84, 84, 80, 47, 49, 46, 49]) = false := by rw [hv]; rfl
          have e2 : (C == [72, 84, 84, 80, 47, 49, 46, 49]) = true := by rw [hv]; rfl
          have hr2 : Q = if tk = true ∧ tg = true then (A, B, true) else ([], [], false) := by
            rw [hr]; congr 1; exact propext ⟨fun h => ⟨h.2.2.2.1, h.2.2.2.2⟩, fun h => ⟨by omega, by omega, hv, h.1, h.2⟩⟩
          clear hr hv
          have HR2 := Lib.hid hr2; clear hr2
          have hq : Q.2.2 = (tk && tg) := by rw [HR2.out]; cases tk <;> cases tg <;> rfl
          have HQ2 : Hid (Q.2.2 = true → A = Q.1 ∧ B = Q.2.1) := Lib.hid (fun h => by
            rw [hq, Bool.and_eq_true] at h
            rw [HR2.out, if_pos h]; exact ⟨rfl, rfl⟩)
          rw [hq]
          rw [hq] at HQ2
          clear hq HR2
          go_enter Tryz.func19, Tryz.ntmps19
          go_wp2_with fail
          refine (HA1.out _).mono ?_
          rintro e w1 ⟨rfl, rfl⟩
          go_wp2_with fail
          refine (HA2.out _).mono ?_
          rintro e w1 ⟨rfl, rfl⟩
          cases tk
          · go_wp2_with fail
            refine wp_region_noPanic ?_
            refine wp_region_held (S := fun _ => True) (by kernel_rfl) ?_
            change wpAnyH _ _ _ _ _ _ _ _ (w.alloc (.cells #[str [], str [], .int .i64 0, .slice none 0 0] 29)).drew
            refine takeH 0 28 (str l) rfl rfl (by kernel_rfl) (by kernel_rfl) (by kernel_rfl) (fun _ _ _ h => h) rfl (fun w' _ => by go_simp) trivial ?_
            go_frame
            refine takeH 1 29 (.int .i64 (i : Int)) rfl rfl (by kernel_rfl) (by kernel_rfl) (by kernel_rfl) (fun _ _ _ h => h) rfl (fun w' _ => by go_simp) trivial ?_
            go_frame
            refine takeH 2 30 (str A) rfl rfl (by kernel_rfl) (by kernel_rfl) (by kernel_rfl) (fun _ _ _ h => h) rfl (fun w' _ => by go_simp) trivial ?_
            go_frame
            refine takeH 3 31 (str R) rfl rfl (by kernel_rfl) (by kernel_rfl) (by kernel_rfl) (fun _ _ _ h => h) rfl (fun w' _ => by go_simp) trivial ?_
            go_frame
            refine takeH 4 32 (.int .i64 (j : Int)) rfl rfl (by kernel_rfl) (by kernel_rfl) (by kernel_rfl) (fun _ _ _ h => h) rfl (fun w' _ => by go_simp) trivial ?_
            go_frame
            refine takeH 5 33 (str B) rfl rfl (by kernel_rfl) (by kernel_rfl) (by kernel_rfl) (fun _ _ _ h => h) rfl (fun w' _ => by go_simp) trivial ?_
            go_frame
            refine takeH 6 34 (hd4 A B 0 (.slice none 0 0)) rfl rfl (by kernel_rfl) (by kernel_rfl) (by kernel_rfl) (fun _ _ _ h => h) rfl (fun w' _ => by go_simp) trivial ?_
            go_frame
            refine takeH 7 35 (str l) rfl rfl (by kernel_rfl) (by kernel_rfl) (by kernel_rfl) (fun _ _ _ h => h) rfl (fun w' _ => by go_simp) trivial ?_
            go_frame
            refine takeH 8 36 (.int .i64 (i : Int)) rfl rfl (by kernel_rfl) (by kernel_rfl) (by kernel_rfl) (fun _ _ _ h => h) rfl (fun w' _ => by go_simp) trivial ?_
            go_frame
            refine takeH 9 37 (str A) rfl rfl (by kernel_rfl) (by kernel_rfl) (by kernel_rfl) (fun _ _ _ h => h) rfl (fun w' _ => by go_simp) trivial ?_
            go_frame
            refine wpAnyH_all (rs := [10]) (by kernel_rfl) (by simp) ?_
            simp only [List.mem_singleton, forall_eq]
            refine wpOp_callD 38 rfl rfl rfl 22 #[str A] (by go_simp) ?_
            refine (HTK.out _).mono ?_
            rintro e w2 ⟨rfl, rfl⟩
            refine ⟨_, rfl, trivial, ?_⟩
            go_frame
            refine takeH 11 39 (.bool false) rfl rfl (by kernel_rfl) (by kernel_rfl) (by kernel_rfl) (fun _ _ _ h => h) rfl (fun w' _ => by go_simp) trivial ?_
            go_frame
            refine takeHNX 12 40 rfl rfl (by kernel_rfl) (by kernel_rfl) (by kernel_rfl) (fun _ _ _ h => h) rfl trivial ?_
            go_frame
            refine takeHNX 13 41 rfl rfl (by kernel_rfl) (by kernel_rfl) (by kernel_rfl) (fun _ _ _ h => h) rfl trivial ?_
            go_frame
            refine takeHNX 14 42 rfl rfl (by kernel_rfl) (by kernel_rfl) (by kernel_rfl) (fun _ _ _ h => h) rfl trivial ?_
            go_frame
            refine takeHNX 15 43 rfl rfl (by kernel_rfl) (by kernel_rfl) (by kernel_rfl) (fun _ _ _ h => h) rfl trivial ?_
            go_frame
            refine takeH 16 44 (.bool false) rfl rfl (by kernel_rfl) (by kernel_rfl) (by kernel_rfl) (fun _ _ _ h => h) rfl (fun w' _ => by go_simp) trivial ?_
            go_frame
            refine wpAnyH_all (rs := [17]) (by kernel_rfl) (by simp) ?_
            simp only [List.mem_singleton, forall_eq]
            have hkd := HK0.out.drew
            refine wpOp_storeN rfl rfl rfl 29 (.tmp 2) (.tmp 34) rfl w.heap.size 0 #[str A, str B, .int .i64 0, .slice none 0 0] rfl rfl (hkd.there 0 4 (Nat.le_refl _)) (by kernel_rfl) (by simp [Value.oneCell']) ⟨trivial, ?_⟩
            go_frame
            have hk2 := hkd.setAll (vs := [str A, str B, .int .i64 0, .slice none 0 0]) rfl
            have hl2 := Lib.hid (below_setCells (Nat.le_refl _) [str A, str B, .int .i64 0, .slice none 0 0] HLOW.out.drew 0)
            have c0 := hk2.at (o := 0) rfl
            have c1 := hk2.at (o := 1) rfl
            have c2 := hk2.at (o := 2) rfl
            have c3 := hk2.at (o := 3) rfl
            refine takeH 18 3 (.bool false) rfl rfl (by kernel_rfl) (by kernel_rfl) (by kernel_rfl) (fun _ _ _ h => h) rfl (fun w' _ => by go_simp) trivial ?_
            go_frame
            refine wpAnyH_done (by kernel_rfl) ?_ _
            refine NoPanic.normal ?_
            go_wp2_with fail
            exact bodyPost_ret (v := .tuple #[hd4 A B 0 (.slice none 0 0), .bool false]) (by simp [results, Tryz.results19, go_sem, c0, c1, c2, c3]) rfl ⟨A, B, rfl, HQ2.out, hl2.out⟩
          · go_wp2_with fail
            go_region_held3 (fun _ => True) (exact trivial)
              (first
                | (go_at_call 22; refine (HTK.out _).mono ?_; rintro e w2 ⟨rfl, rfl⟩)
                | (go_at_call 28; refine (HTG.out _).mono ?_; rintro e w2 ⟨rfl, rfl⟩))
            all_goals
              go_wp2_with fail
              exact bodyPost_ret (v := .tuple #[hd4 A B 0 (.slice none 0 0), .bool tg]) (by simp [results, Tryz.results19, go_sem]) rfl ⟨A, B, rfl, HQ2.out, ((Below.refl w.heap.size w).alloc (Nat.le_refl _) _).drew⟩
        · have e1 : (C != [72, 84, 84, 80, 47, 49, 46, 49]) = true := by rw [bne_iff_ne]; exact hv
          have e2 : (C == [72, 84, 84, 80, 47, 49, 46, 49]) = false := by rw [beq_eq_false_iff_ne]; exact hv
          rw [if_neg (fun h => hv h.2.2.1)] at hr
          subst hr
          clear hv
          go_enter Tryz.func19, Tryz.ntmps19
          go_wp2_with fail
          refine (HA1.out _).mono ?_
          rintro e w1 ⟨rfl, rfl⟩
          go_wp2_with fail
          refine (HA2.out _).mono ?_
          rintro e w1 ⟨rfl, rfl⟩
          go_wp2_with fail
          exact bodyPost_ret (v := .tuple #[hd4 [] [] 0 (.slice none 0 0), .bool false]) (by simp [results, Tryz.results19, go_sem]) rfl ⟨[], [], rfl, fun _ => ⟨rfl, rfl⟩, HLOW.out⟩
end Go.Proofs.YtajclihnoedecaaGreatDoor
