/- head: the reference's request and answer: a first line's head. head: the reference's answer: a status line's head. -/
import Derived.Test.YtajclihnoedecaaGreatDoorHrL
import Derived.Test.YtajclihnoedecaaGreatDoorHdLnR
import Derived.Test.YtajclihnoedecaaGreatDoorReg
import Derived.StillTailTactics
import Derived.Deep.RegionHeld3
import Derived.WalkKit
set_option maxRecDepth 100000
namespace Go.Proofs.YtajclihnoedecaaGreatDoor
open Go.RowKit Go.Shelf
attribute [local go_sem] Oper.semAt_some
abbrev hd4 (a b : List UInt8) (st : Int) (v : Value) : Value := .agg #[str a, str b, .int .i64 st, v]
theorem ib_lt (l : List UInt8) (c : UInt8) : Lib.indexByte l c < l.length := by
  have h1 := Lib.indexByte_ge l c
  by_cases h : Lib.indexByte l c < 0
  · omega
  · have h2 := Lib.index_room l [c] (by rw [Lib.index_one]; omega)
    rw [Lib.index_one] at h2
    simp at h2; omega
theorem takeHNX {P : Program} {ops : Array Oper} {Q : Exit → Act → World → Prop} {a : Act} {w : World} {md : Region.Mode} {S : World → Prop} (i : Nat) (d : Tmp) {oi : Oper} {fuel : Nat} {listed : Array Bool} (hi : ops[i]? = some oi) (hd : oi.dst = some d)
    (hs : Region.noSelect ops = true) (hf : Region.free md ops listed i = true) (hr : (Region.ready md ops listed).contains i = true)
    (hQ : ∀ c (a : Act) w, Q (.panic c) (a.put oi.dst undef) w → Q (.panic c) a w) (hw : Region.wanted oi (yielded ops a.tmps) = false) (hS : S w)
    (h : wpAnyH P md ops Q S fuel (listed.setIfInBounds i true) (a.put (some d) undef) w) : wpAnyH P md ops Q S (fuel + 1) listed a w :=
  wpAnyH_take hi hs hf hr hQ (Or.inr ⟨hw, rfl⟩) hS (by rw [hd]; exact h)
theorem refTok (s : List UInt8) (w : World) (hs : s.length ≤ 100000) : Calls Tryz.prog 22 #[str s] w fun e w' => e = .returned (.bool (tokB s)) ∧ w' = w := (refToken_any s w hs).mono fun _ _ h => ⟨h.1, h.2.symm⟩
theorem refTgt (s : List UInt8) (w : World) (hs : s.length ≤ 100000) : Calls Tryz.prog 28 #[str s] w fun e w' => e = .returned (.bool (tgtB s)) ∧ w' = w := (refTarget_any s w hs).mono fun _ _ h => ⟨by rw [tgt_se]; exact h.1, h.2.symm⟩
set_option maxHeartbeats 2000000 in
theorem refReq_any (l : List UInt8) (w : World) (hs : l.length ≤ 5000) :
    Calls Tryz.prog 19 #[str l] w fun e w' => ∃ a b, e = .returned (.tuple #[hd4 a b 0 (.slice none 0 0), .bool (reqT l).2.2]) ∧ ((reqT l).2.2 = true → a = (reqT l).1 ∧ b = (reqT l).2.1) ∧ Below w.heap.size w w' := by
  have hr := reqT_ref l
  have HA1 := Lib.hid (fun W => at_any l 32 W (by omega))
  have hge := Lib.indexByte_ge l 32
  have hle : Lib.indexByte l 32 < l.length := ib_lt l 32
  obtain ⟨Q, hQ⟩ : ∃ Q, Q = reqT l := ⟨_, rfl⟩
  rw [← hQ] at hr ⊢
  clear hQ
  obtain ⟨I, hI⟩ : ∃ I, I = Lib.indexByte l 32 := ⟨_, rfl⟩
  rw [← hI] at hr HA1 hge hle
  clear hI
  have hlow := (Below.refl w.heap.size w).alloc (Nat.le_refl _) (.cells #[str [], str [], .int .i64 0, .slice none 0 0] 29)
  have HLOW := Lib.hid hlow
  have hk0 := Blk.new w [str [], str [], .int .i64 0, .slice none 0 0] 29
  have HK0 := Lib.hid hk0
  clear hlow hk0
  by_cases h1 : I < 0
  · rw [if_neg (fun h => by omega)] at hr
    subst hr
    go_enter Tryz.func19, Tryz.ntmps19
    go_wp2_with fail
    refine (HA1.out _).mono ?_
    rintro e w1 ⟨rfl, rfl⟩
    go_wp2_with fail
    exact bodyPost_ret (v := .tuple #[hd4 [] [] 0 (.slice none 0 0), .bool false]) (by simp [results, Tryz.results19, go_sem]) rfl ⟨[], [], rfl, fun _ => ⟨rfl, rfl⟩, HLOW.out⟩
  · obtain ⟨i, rfl⟩ : ∃ i : Nat, I = i := ⟨I.toNat, by omega⟩
    have hil : i ≤ l.length := by omega
    simp only [Int.toNat_natCast] at hr
    have h0 : (0 : Int) ≤ (i : Int) := by omega
    have t1 := fun W => str_take l i hil W
    have hlt : i < l.length := by omega
    · have t2 := fun W => str_drop l (i + 1) (by omega) W
      rw [show ((i + 1 : Nat) : Int) = (i : Int) + 1 by omega] at t2
      have HA2 := Lib.hid (fun W => at_any (l.drop (i + 1)) 32 W (by rw [List.length_drop]; omega))
      have hle2 := Lib.index_le (l.drop (i + 1)) [32]
      have hge2 := Lib.indexByte_ge (l.drop (i + 1)) 32
      have hro2 := ib_lt (l.drop (i + 1)) 32
      rw [Lib.index_one] at hle2
      obtain ⟨R, hR⟩ : ∃ R, R = l.drop (i + 1) := ⟨_, rfl⟩
      have hRl : R.length ≤ 5000 := by rw [hR, List.length_drop]; omega
      have hAl : (l.take i).length ≤ 5000 := by rw [List.length_take]; omega
      rw [← hR] at hr t2 HA2 hle2 hge2 hro2
      obtain ⟨A, hA⟩ : ∃ A, A = l.take i := ⟨_, rfl⟩
      rw [← hA] at hr t1 hAl
      clear hR hA
      obtain ⟨J, hJ⟩ : ∃ J, J = Lib.indexByte R 32 := ⟨_, rfl⟩
      rw [← hJ] at hr HA2 hle2 hge2 hro2
      clear hJ
      have T2 := Lib.hid t2
      by_cases h2 : J < 0
      · rw [if_neg (fun h => by omega)] at hr
        subst hr
        clear hro2 t2
        have t2 := T2.out
        go_enter Tryz.func19, Tryz.ntmps19
        go_wp2_with fail
        refine (HA1.out _).mono ?_
        rintro e w1 ⟨rfl, rfl⟩
        go_wp2_with fail
        refine (HA2.out _).mono ?_
        rintro e w1 ⟨rfl, rfl⟩
        go_wp2_with fail
        exact bodyPost_ret (v := .tuple #[hd4 [] [] 0 (.slice none 0 0), .bool false]) (by simp [results, Tryz.results19, go_sem]) rfl ⟨[], [], rfl, fun _ => ⟨rfl, rfl⟩, HLOW.out⟩
      · obtain ⟨j, rfl⟩ : ∃ j : Nat, J = j := ⟨J.toNat, by omega⟩
        have hjl : j < R.length := by omega
        simp only [Int.toNat_natCast] at hr
        have t3 := fun W => str_take R j (by omega) W
        have t4 := fun W => str_drop R (j + 1) (by omega) W
        rw [show ((j + 1 : Nat) : Int) = (j : Int) + 1 by omega] at t4
        have hBl : (R.take j).length ≤ 5000 := by rw [List.length_take]; omega
        obtain ⟨B, hB⟩ : ∃ B, B = R.take j := ⟨_, rfl⟩
        obtain ⟨C, hC⟩ : ∃ C, C = R.drop (j + 1) := ⟨_, rfl⟩
        rw [← hB] at hr t3 hBl
        rw [← hC] at hr t4
        have HTK := Lib.hid (fun W => refTok A W (by omega))
        have HTG := Lib.hid (fun W => refTgt B W (by omega))
        obtain ⟨tk, htk⟩ : ∃ tk, tk = tokB A := ⟨_, rfl⟩
        obtain ⟨tg, htg⟩ : ∃ tg, tg = tgtB B := ⟨_, rfl⟩
        rw [← htk] at hr HTK
        rw [← htg] at hr HTG
        clear hB hC htk htg hro2 hle hle2 hge hge2
        by_cases hv : C = verS
        · have e1 : (C != [72, 84, 84, 80, 47, 49, 46, 49]) = false := by rw [hv]; rfl
          have e2 : (C == [72, 84, 84, 80, 47, 49, 46, 49]) = true := by rw [hv]; rfl
          have hr2 : Q = if tk = true ∧ tg = true then (A, B, true) else ([], [], false) := by
            rw [hr]; congr 1; exact propext ⟨fun h => ⟨h.2.2.2.1, h.2.2.2.2⟩, fun h => ⟨by omega, by omega, hv, h.1, h.2⟩⟩
          clear hr hv
          have HR2 := Lib.hid hr2; clear hr2
          have hq : Q.2.2 = (tk && tg) := by rw [HR2.out]; cases tk <;> cases tg <;> rfl
          have HQ2 : Hid (Q.2.2 = true → A = Q.1 ∧ B = Q.2.1) := Lib.hid (fun h => by
            rw [hq, Bool.and_eq_true] at h
            rw [HR2.out, if_pos h]; exact ⟨rfl, rfl⟩)
          rw [hq]
          rw [hq] at HQ2
          clear hq HR2
          go_enter Tryz.func19, Tryz.ntmps19
          go_wp2_with fail
          refine (HA1.out _).mono ?_
          rintro e w1 ⟨rfl, rfl⟩
          go_wp2_with fail
          refine (HA2.out _).mono ?_
          rintro e w1 ⟨rfl, rfl⟩
          cases tk
          · go_wp2_with fail
            refine wp_region_noPanic ?_
            refine wp_region_held (S := fun _ => True) (by kernel_rfl) ?_
            change wpAnyH _ _ _ _ _ _ _ _ (w.alloc (.cells #[str [], str [], .int .i64 0, .slice none 0 0] 29)).drew
            refine takeH 0 28 (str l) rfl rfl (by kernel_rfl) (by kernel_rfl) (by kernel_rfl) (fun _ _ _ h => h) rfl (fun w' _ => by go_simp) trivial ?_
            go_frame
            refine takeH 1 29 (.int .i64 (i : Int)) rfl rfl (by kernel_rfl) (by kernel_rfl) (by kernel_rfl) (fun _ _ _ h => h) rfl (fun w' _ => by go_simp) trivial ?_
            go_frame
            refine takeH 2 30 (str A) rfl rfl (by kernel_rfl) (by kernel_rfl) (by kernel_rfl) (fun _ _ _ h => h) rfl (fun w' _ => by go_simp) trivial ?_
            go_frame
            refine takeH 3 31 (str R) rfl rfl (by kernel_rfl) (by kernel_rfl) (by kernel_rfl) (fun _ _ _ h => h) rfl (fun w' _ => by go_simp) trivial ?_
            go_frame
            refine takeH 4 32 (.int .i64 (j : Int)) rfl rfl (by kernel_rfl) (by kernel_rfl) (by kernel_rfl) (fun _ _ _ h => h) rfl (fun w' _ => by go_simp) trivial ?_
            go_frame
            refine takeH 5 33 (str B) rfl rfl (by kernel_rfl) (by kernel_rfl) (by kernel_rfl) (fun _ _ _ h => h) rfl (fun w' _ => by go_simp) trivial ?_
            go_frame
            refine takeH 6 34 (hd4 A B 0 (.slice none 0 0)) rfl rfl (by kernel_rfl) (by kernel_rfl) (by kernel_rfl) (fun _ _ _ h => h) rfl (fun w' _ => by go_simp) trivial ?_
            go_frame
            refine takeH 7 35 (str l) rfl rfl (by kernel_rfl) (by kernel_rfl) (by kernel_rfl) (fun _ _ _ h => h) rfl (fun w' _ => by go_simp) trivial ?_
            go_frame
            refine takeH 8 36 (.int .i64 (i : Int)) rfl rfl (by kernel_rfl) (by kernel_rfl) (by kernel_rfl) (fun _ _ _ h => h) rfl (fun w' _ => by go_simp) trivial ?_
            go_frame
            refine takeH 9 37 (str A) rfl rfl (by kernel_rfl) (by kernel_rfl) (by kernel_rfl) (fun _ _ _ h => h) rfl (fun w' _ => by go_simp) trivial ?_
            go_frame
            refine wpAnyH_all (rs := [10]) (by kernel_rfl) (by simp) ?_
            simp only [List.mem_singleton, forall_eq]
            refine wpOp_callD 38 rfl rfl rfl 22 #[str A] (by go_simp) ?_
            refine (HTK.out _).mono ?_
            rintro e w2 ⟨rfl, rfl⟩
            refine ⟨_, rfl, trivial, ?_⟩
            go_frame
            refine takeH 11 39 (.bool false) rfl rfl (by kernel_rfl) (by kernel_rfl) (by kernel_rfl) (fun _ _ _ h => h) rfl (fun w' _ => by go_simp) trivial ?_
            go_frame
            refine takeHNX 12 40 rfl rfl (by kernel_rfl) (by kernel_rfl) (by kernel_rfl) (fun _ _ _ h => h) rfl trivial ?_
            go_frame
            refine takeHNX 13 41 rfl rfl (by kernel_rfl) (by kernel_rfl) (by kernel_rfl) (fun _ _ _ h => h) rfl trivial ?_
            go_frame
            refine takeHNX 14 42 rfl rfl (by kernel_rfl) (by kernel_rfl) (by kernel_rfl) (fun _ _ _ h => h) rfl trivial ?_
            go_frame
            refine takeHNX 15 43 rfl rfl (by kernel_rfl) (by kernel_rfl) (by kernel_rfl) (fun _ _ _ h => h) rfl trivial ?_
            go_frame
            refine takeH 16 44 (.bool false) rfl rfl (by kernel_rfl) (by kernel_rfl) (by kernel_rfl) (fun _ _ _ h => h) rfl (fun w' _ => by go_simp) trivial ?_
            go_frame
            refine wpAnyH_all (rs := [17]) (by kernel_rfl) (by simp) ?_
            simp only [List.mem_singleton, forall_eq]
            have hkd := HK0.out.drew
            refine wpOp_storeN rfl rfl rfl 29 (.tmp 2) (.tmp 34) rfl w.heap.size 0 #[str A, str B, .int .i64 0, .slice none 0 0] rfl rfl (hkd.there 0 4 (Nat.le_refl _)) (by kernel_rfl) (by simp [Value.oneCell']) ⟨trivial, ?_⟩
            go_frame
            have hk2 := hkd.setAll (vs := [str A, str B, .int .i64 0, .slice none 0 0]) rfl
            have hl2 := Lib.hid (below_setCells (Nat.le_refl _) [str A, str B, .int .i64 0, .slice none 0 0] HLOW.out.drew 0)
            have c0 := hk2.at (o := 0) rfl
            have c1 := hk2.at (o := 1) rfl
            have c2 := hk2.at (o := 2) rfl
            have c3 := hk2.at (o := 3) rfl
            refine takeH 18 3 (.bool false) rfl rfl (by kernel_rfl) (by kernel_rfl) (by kernel_rfl) (fun _ _ _ h => h) rfl (fun w' _ => by go_simp) trivial ?_
            go_frame
            refine wpAnyH_done (by kernel_rfl) ?_ _
            refine NoPanic.normal ?_
            go_wp2_with fail
            exact bodyPost_ret (v := .tuple #[hd4 A B 0 (.slice none 0 0), .bool false]) (by simp [results, Tryz.results19, go_sem, c0, c1, c2, c3]) rfl ⟨A, B, rfl, HQ2.out, hl2.out⟩
          · go_wp2_with fail
            go_region_held3 (fun _ => True) (exact trivial)
              (first
                | (go_at_call 22; refine (HTK.out _).mono ?_; rintro e w2 ⟨rfl, rfl⟩)
                | (go_at_call 28; refine (HTG.out _).mono ?_; rintro e w2 ⟨rfl, rfl⟩))
            all_goals
              go_wp2_with fail
              exact bodyPost_ret (v := .tuple #[hd4 A B 0 (.slice none 0 0), .bool tg]) (by simp [results, Tryz.results19, go_sem]) rfl ⟨A, B, rfl, HQ2.out, ((Below.refl w.heap.size w).alloc (Nat.le_refl _) _).drew⟩
        · have e1 : (C != [72, 84, 84, 80, 47, 49, 46, 49]) = true := by rw [bne_iff_ne]; exact hv
          have e2 : (C == [72, 84, 84, 80, 47, 49, 46, 49]) = false := by rw [beq_eq_false_iff_ne]; exact hv
          rw [if_neg (fun h => hv h.2.2.1)] at hr
          subst hr
          clear hv
          go_enter Tryz.func19, Tryz.ntmps19
          go_wp2_with fail
          refine (HA1.out _).mono ?_
          rintro e w1 ⟨rfl, rfl⟩
          go_wp2_with fail
          refine (HA2.out _).mono ?_
          rintro e w1 ⟨rfl, rfl⟩
          go_wp2_with fail
          exact bodyPost_ret (v := .tuple #[hd4 [] [] 0 (.slice none 0 0), .bool false]) (by simp [results, Tryz.results19, go_sem]) rfl ⟨[], [], rfl, fun _ => ⟨rfl, rfl⟩, HLOW.out⟩
end Go.Proofs.YtajclihnoedecaaGreatDoor
set_option maxRecDepth 100000
namespace Go.Proofs.YtajclihnoedecaaGreatDoor
open Go.RowKit Go.Shelf
attribute [local go_sem] Oper.semAt_some
theorem mid_three (l : List UInt8) (h : 12 ≤ l.length) : (l.drop 9).take (12 - 9) = [l.getD 9 0, l.getD 10 0, l.getD 11 0] := by
  have g : ∀ k, k < l.length → l.drop k = l.getD k 0 :: l.drop (k + 1) := fun k hk => by
    rw [List.drop_eq_getElem_cons hk, List.getD_eq_getElem?_getD, List.getElem?_eq_getElem hk]; rfl
  rw [g 9 (by omega), g 10 (by omega), g 11 (by omega)]; rfl
theorem isD_iff (x : UInt8) : isD x = true ↔ 48 ≤ x.toNat ∧ x.toNat ≤ 57 := by
  unfold isD; rw [Bool.and_eq_true, decide_eq_true_eq, decide_eq_true_eq]
set_option maxHeartbeats 4000000 in
theorem refAns_any (l : List UInt8) (w : World) (hs : l.length ≤ 5000) :
    Calls Tryz.prog 20 #[str l] w fun e w' => ∃ a n, e = .returned (.tuple #[hd4 a [] n (.slice none 0 0), .bool (ansT l).2.2]) ∧ ((ansT l).2.2 = true → a = (ansT l).2.1 ∧ n = (ansT l).1) ∧ Below w.heap.size w w' := by
  obtain ⟨hyes, hno⟩ := ansT_ref l
  obtain ⟨Q, hQ⟩ : ∃ Q, Q = ansT l := ⟨_, rfl⟩
  rw [← hQ] at hyes hno ⊢
  clear hQ
  have HLOW := Lib.hid ((Below.refl w.heap.size w).alloc (Nat.le_refl _) (.cells #[str [], str [], .int .i64 0, .slice none 0 0] 29))
  by_cases h1 : l.length < 13
  · have hn := hno (fun h => by have := h.1; omega)
    subst hn
    have g1 : (l.length : Int) < 13 := by omega
    clear hyes hno
    go_enter Tryz.func20, Tryz.ntmps20
    go_wp2_with fail
    exact bodyPost_ret (v := .tuple #[hd4 [] [] 0 (.slice none 0 0), .bool false]) (by simp [results, Tryz.results20, go_sem]) rfl (by first | exact ⟨[], 0, rfl, fun h => absurd h (by decide), HLOW.out⟩ | exact ⟨⟨[], 0, rfl⟩, HLOW.out⟩)
  · have g1 : ¬ (l.length : Int) < 13 := by omega
    have t1 : ∀ W, (Instr.slice 9 (str l) none (some (.int .i64 9)) none).run Tryz.prog W = .ok (str (l.take 9)) W := fun W => str_take l 9 (by omega) W
    have t2 : ∀ W, (Instr.index 9 (str l) (.int .i64 12)).run Tryz.prog W = .ok (vb (l.getD 12 0)) W := fun W => str_index l 12 (by omega) W
    by_cases h2 : l.take 9 = ver9
    · obtain ⟨x12, hx12⟩ : ∃ x, x = l.getD 12 0 := ⟨_, rfl⟩
      rw [← hx12] at t2
      obtain ⟨X12, hX12⟩ : ∃ X, X = bn x12 := ⟨_, rfl⟩
      rw [show vb x12 = .int .u8 X12 from by rw [hX12]] at t2
      rw [h2] at t1
      unfold ver9 at t1
      by_cases h3 : x12 = 32
      · have e3 : X12 = 32 := by rw [hX12, h3]; rfl
        subst e3
        clear hX12
        have HP : Hid (13 ≤ l.length ∧ l.take 9 = ver9 ∧ l.getD 12 0 = 32) := Lib.hid ⟨by omega, h2, by rw [← hx12]; exact h3⟩
        have hT := mid_three l (by omega)
        have t3 : ∀ W, (Instr.slice 9 (str l) (some (.int .i64 9)) (some (.int .i64 12)) none).run Tryz.prog W = .ok (str ((l.drop 9).take (12 - 9))) W := fun W => str_mid l 9 12 (by decide) (by omega) W
        have t4 : ∀ W, (Instr.slice 9 (str l) (some (.int .i64 13)) none none).run Tryz.prog W = .ok (str (l.drop 13)) W := fun W => str_drop l 13 (by omega) W
        obtain ⟨T, hTT⟩ : ∃ T, T = (l.drop 9).take (12 - 9) := ⟨_, rfl⟩
        rw [← hTT] at t3 hT
        have hTl : T.length = 3 := by rw [hT]; rfl
        have hNV : valD T = stN l := by rw [hT]; rfl
        have HNV := Lib.hid hNV; clear hNV
        have HTD := Lib.hid (show T.all isD = true → (isD (l.getD 9 0) = true ∧ isD (l.getD 10 0) = true ∧ isD (l.getD 11 0) = true) from fun h => by
          rw [hT] at h; simp only [List.all_cons, List.all_nil, Bool.and_true, Bool.and_eq_true] at h; exact h)
        have HTD2 := Lib.hid (show (isD (l.getD 9 0) = true ∧ isD (l.getD 10 0) = true ∧ isD (l.getD 11 0) = true) → T.all isD = true from fun h => by
          rw [hT]; simp only [List.all_cons, List.all_nil, Bool.and_true, Bool.and_eq_true]; exact h)
        have HTX := Lib.hid (fun W => (refText_any (l.drop 13) W (by rw [List.length_drop]; omega)).mono fun e w' (h : _ ∧ _) => (⟨h.1, h.2.symm⟩ : _ ∧ w' = W))
        have hDl : (l.drop 13).length ≤ 5000 := by rw [List.length_drop]; omega
        obtain ⟨D, hD⟩ : ∃ D, D = l.drop 13 := ⟨_, rfl⟩
        have HD := Lib.hid hD
        rw [← hD] at t4 HTX hyes hDl
        have HY := Lib.hid hyes; have HN := Lib.hid hno
        clear hyes hno hT hTT hD h2 h3 hx12
        obtain ⟨c1, W1, hcv, hB1, hbs1, hz1⟩ := conv_new T (w.alloc (.cells #[str [], str [], .int .i64 0, .slice none 0 0] 29))
        have hz1 : w.heap.size + 1 < W1.heap.size := by simpa using hz1
        simp only [World.size_alloc] at hbs1 hcv
        have HB1 := Lib.hid (HLOW.out.trans (hB1.mono (by simp)))
        have HBS := Lib.hid hbs1
        have hk1 := (Blk.new w [str [], str [], .int .i64 0, .slice none 0 0] 29).below hB1 (by simp)
        have HK1 := Lib.hid hk1
        rw [hTl] at hcv
        clear hB1 hbs1 hk1
        go_enter Tryz.func20, Tryz.ntmps20
        go_wp2_with fail
        clear hcv t1 t2 t3
        go_loop [4, 25] (fun n i => ∃ k : Nat, k ≤ 3 ∧ i = .int .i64 (k : Int) ∧ n = .int .i64 ((valD (T.take k) : Nat) : Int) ∧ (T.take k).all isD = true) (fun _ i => 3 - (intOf i).toNat)
        case atStart => exact ⟨0, by omega, rfl, rfl, rfl⟩
        case round =>
          obtain ⟨k, hk, rfl, rfl, hall⟩ := hrel
          by_cases hlt : k < 3
          · have hltT : k < T.length := by omega
            have ck : W1.cell? ⟨w.heap.size + 1, k, none⟩ = some (vb T[k]) := by have := HBS.out k hltT; rwa [Nat.zero_add] at this
            have hts := take_snocH T k hltT
            have hmem : T[k] ∈ T := List.getElem_mem hltT
            obtain ⟨x, hx⟩ : ∃ x, x = T[k] := ⟨_, rfl⟩
            rw [← hx] at ck hts hmem
            clear hx
            have hbd := valD_lt2 (T.take k) hall
            have hp3 : 10 ^ (T.take k).length ≤ 10 ^ 3 := Nat.pow_le_pow_right (by decide) (by rw [List.length_take]; omega)
            have hxd := isD_iff x
            have hlx := x.toNat_lt
            obtain ⟨X, hX⟩ : ∃ X, X = x.toNat := ⟨_, rfl⟩
            rw [show vb x = .int .u8 (X : Int) from by rw [hX]; rfl] at ck
            rw [← hX] at hxd hlx
            have HTS := Lib.hid hts
            have hvs : valD (T.take k ++ [x]) = 10 * valD (T.take k) + (X - 48) := by rw [valD_snoc, hX]
            obtain ⟨V, hV⟩ : ∃ V, V = valD (T.take k) := ⟨_, rfl⟩
            rw [← hV] at hvs hbd ⊢
            have hV2 : V < 1000 := by omega
            have HALL := Lib.hid hall
            clear hts hX hbd hp3 hV
            have k3 : (k : Int) < 3 := by omega
            by_cases hd : 48 ≤ X ∧ X ≤ 57
            · have HYES : Hid ((T.take (k + 1)).all isD = true ∧ ((valD (T.take (k + 1)) : Nat) : Int) = 10 * (V : Int) + ((X : Int) - 48)) := Lib.hid ⟨by rw [HTS.out, List.all_append, HALL.out]; simp [hxd.2 hd], by rw [HTS.out, hvs]; omega⟩
              have d1 : decide ((X : Int) < 48) = false := decide_eq_false (by omega)
              have d2 : decide ((57 : Int) < (X : Int)) = false := decide_eq_false (by omega)
              have d3 : ¬ (X : Int) < 48 := by omega
              have d4 : ¬ (57 : Int) < (X : Int) := by omega
              have w1 : IntKind.u8.wrap ((X : Int) - 48) = (X : Int) - 48 := by rw [IntKind.wrap_u8]; omega
              have w2 : IntKind.i64.wrap (10 * (V : Int)) = 10 * (V : Int) := IntWalk.i64_in _ (by omega)
              have w3 : IntKind.i64.wrap (10 * (V : Int) + ((X : Int) - 48)) = 10 * (V : Int) + ((X : Int) - 48) := IntWalk.i64_in _ (by omega)
              have w4 : IntKind.i64.wrap ((X : Int) - 48) = (X : Int) - 48 := IntWalk.i64_in _ (by omega)
              clear hd hxd hvs hall hmem
              go_wp2_with fail
              go_round
              case rel => exact ⟨k + 1, by omega, by go_num, by rw [HYES.out.2], HYES.out.1⟩
              case measure => simp [intOf]; omega
            · have hnd : isD x = false := by
                cases e : isD x with
                | false => rfl
                | true => exact absurd (hxd.1 e) hd
              have hnP : ¬ stP l := fun h => by
                have := List.all_eq_true.1 (HTD2.out h.2.2.2.1) x hmem
                rw [hnd] at this; exact absurd this (by decide)
              have hn := HN.out hnP
              subst hn
              clear hnP hmem hxd hvs hall hnd HY HN
              have hk := HK1.out
              have f0 := hk.free 0; have f1 := hk.free 1; have f2 := hk.free 2; have f3 := hk.free 3
              have c0 := hk.at (o := 0) rfl; have c1 := hk.at (o := 1) rfl; have c2 := hk.at (o := 2) rfl; have c3 := hk.at (o := 3) rfl
              have hlw := hk.lt
              have HKK := Lib.hid hk
              clear hk
              rcases (show X < 48 ∨ (48 ≤ X ∧ 57 < X) by omega) with h5 | ⟨h5, h6⟩
              · have d1 : (X : Int) < 48 := by omega
                clear hd h5
                go_wp2_with fail
                exact bodyPost_ret (v := .tuple #[hd4 [] [] 0 (.slice none 0 0), .bool false]) (by simp [results, Tryz.results20, go_sem, c0, c1, c2, c3]) rfl (by first | exact ⟨[], 0, rfl, fun h => absurd h (by decide), (((HB1.out.setCell (p := ⟨w.heap.size, 0, none⟩) (Nat.le_refl _) (str [])).setCell (p := ⟨w.heap.size, 1, none⟩) (Nat.le_refl _) (str [])).setCell (p := ⟨w.heap.size, 2, none⟩) (Nat.le_refl _) (.int .i64 0)).setCell (p := ⟨w.heap.size, 3, none⟩) (Nat.le_refl _) (.slice none 0 0)⟩ | exact ⟨⟨[], 0, rfl⟩, (((HB1.out.setCell (p := ⟨w.heap.size, 0, none⟩) (Nat.le_refl _) (str [])).setCell (p := ⟨w.heap.size, 1, none⟩) (Nat.le_refl _) (str [])).setCell (p := ⟨w.heap.size, 2, none⟩) (Nat.le_refl _) (.int .i64 0)).setCell (p := ⟨w.heap.size, 3, none⟩) (Nat.le_refl _) (.slice none 0 0)⟩)
              · have d1 : ¬ (X : Int) < 48 := by omega
                have d2 : (57 : Int) < (X : Int) := by omega
                clear hd h5 h6
                go_wp2_with fail
                exact bodyPost_ret (v := .tuple #[hd4 [] [] 0 (.slice none 0 0), .bool false]) (by simp [results, Tryz.results20, go_sem, c0, c1, c2, c3]) rfl (by first | exact ⟨[], 0, rfl, fun h => absurd h (by decide), (((HB1.out.setCell (p := ⟨w.heap.size, 0, none⟩) (Nat.le_refl _) (str [])).setCell (p := ⟨w.heap.size, 1, none⟩) (Nat.le_refl _) (str [])).setCell (p := ⟨w.heap.size, 2, none⟩) (Nat.le_refl _) (.int .i64 0)).setCell (p := ⟨w.heap.size, 3, none⟩) (Nat.le_refl _) (.slice none 0 0)⟩ | exact ⟨⟨[], 0, rfl⟩, (((HB1.out.setCell (p := ⟨w.heap.size, 0, none⟩) (Nat.le_refl _) (str [])).setCell (p := ⟨w.heap.size, 1, none⟩) (Nat.le_refl _) (str [])).setCell (p := ⟨w.heap.size, 2, none⟩) (Nat.le_refl _) (.int .i64 0)).setCell (p := ⟨w.heap.size, 3, none⟩) (Nat.le_refl _) (.slice none 0 0)⟩)
          · obtain rfl : k = 3 := by omega
            have htk : T.take 3 = T := List.take_of_length_le (by omega)
            rw [htk] at hall ⊢
            have hds := HTD.out hall
            rw [HNV.out]
            obtain ⟨V, hV⟩ : ∃ V, V = stN l := ⟨_, rfl⟩
            have hbd := valD_lt2 T hall
            rw [HNV.out, hTl, ← hV] at hbd
            have HST := Lib.hid (show stP l ↔ (100 ≤ V ∧ txtB D = true) from by
              obtain ⟨a1, a2, a3⟩ := HP.out
              rw [HD.out, hV]
              exact ⟨fun h => ⟨h.2.2.2.2.1, h.2.2.2.2.2⟩, fun h => ⟨a1, a2, a3, hds, h.1, h.2⟩⟩)
            rw [← hV] at HY ⊢
            have k3 : ¬ ((3 : Nat) : Int) < 3 := by omega
            have hk := HK1.out
            have f0 := hk.free 0; have f1 := hk.free 1; have f2 := hk.free 2; have f3 := hk.free 3
            have c0 := hk.at (o := 0) rfl; have c1 := hk.at (o := 1) rfl; have c2 := hk.at (o := 2) rfl; have c3 := hk.at (o := 3) rfl
            have hlw := hk.lt
            clear hk htk hds hall hV hlt
            by_cases h100 : 100 ≤ V
            · obtain ⟨tx, htx⟩ : ∃ tx, tx = txtB D := ⟨_, rfl⟩
              rw [← htx] at HTX HST
              have HQ2 : Hid (Q.2.2 = tx ∧ (Q.2.2 = true → D = Q.2.1 ∧ (V : Int) = Q.1)) := Lib.hid (by
                cases tx with
                | true => rw [HY.out (HST.out.2 ⟨h100, rfl⟩)]; exact ⟨rfl, fun _ => ⟨rfl, rfl⟩⟩
                | false => rw [HN.out (fun h => absurd (HST.out.1 h).2 (by decide))]; exact ⟨rfl, fun h => absurd h (by decide)⟩)
              have g2 : (100 : Int) ≤ (V : Int) := by omega
              clear htx h100 HST HY HN
              go_wp2_with fail
              go_region_held3 (fun _ => True) (exact trivial)
                (first
                  | (go_at_call 23; refine (HTX.out _).mono ?_; rintro e w2 ⟨rfl, rfl⟩))
              all_goals
                go_wp2_with fail
                exact bodyPost_ret (v := .tuple #[hd4 D [] (V : Int) (.slice none 0 0), .bool tx]) (by simp [results, Tryz.results20, go_sem, c0, c1, c2, c3]) rfl (by rw [HQ2.out.1]; exact ⟨D, (V : Int), rfl, fun h => HQ2.out.2 (by rw [HQ2.out.1]; exact h), ((((HB1.out.drew.setCell (p := ⟨w.heap.size, 0, none⟩) (Nat.le_refl _) (str D)).setCell (p := ⟨w.heap.size, 1, none⟩) (Nat.le_refl _) (str [])).setCell (p := ⟨w.heap.size, 2, none⟩) (Nat.le_refl _) (.int .i64 (V : Int))).setCell (p := ⟨w.heap.size, 3, none⟩) (Nat.le_refl _) (.slice none 0 0))⟩)
            · have hn : Q = (0, [], false) := HN.out (fun h => h100 (HST.out.1 h).1)
              subst hn
              have g2 : ¬ (100 : Int) ≤ (V : Int) := by omega
              have g3 : decide ((100 : Int) ≤ (V : Int)) = false := decide_eq_false g2
              have hk := HK1.out.drew
              clear h100 HST HY HN
              go_wp2_with fail
              refine wp_region_noPanic ?_
              refine wp_region_held (S := fun _ => True) (by kernel_rfl) ?_
              change wpAnyH _ _ _ _ _ _ _ _ W1.drew
              refine takeH 0 43 (str l) rfl rfl (by kernel_rfl) (by kernel_rfl) (by kernel_rfl) (fun _ _ _ h => h) rfl (fun w' _ => by go_simp) trivial ?_
              go_frame
              refine takeH 1 44 (str D) rfl rfl (by kernel_rfl) (by kernel_rfl) (by kernel_rfl) (fun _ _ _ h => h) rfl (fun w' _ => by go_simp) trivial ?_
              go_frame
              refine takeH 2 45 (.int .i64 (V : Int)) rfl rfl (by kernel_rfl) (by kernel_rfl) (by kernel_rfl) (fun _ _ _ h => h) rfl (fun w' _ => by go_simp) trivial ?_
              go_frame
              refine takeH 3 46 (hd4 D [] (V : Int) (.slice none 0 0)) rfl rfl (by kernel_rfl) (by kernel_rfl) (by kernel_rfl) (fun _ _ _ h => h) rfl (fun w' _ => by go_simp) trivial ?_
              go_frame
              refine takeH 4 47 (.int .i64 (V : Int)) rfl rfl (by kernel_rfl) (by kernel_rfl) (by kernel_rfl) (fun _ _ _ h => h) rfl (fun w' _ => by go_simp) trivial ?_
              go_frame
              refine takeH 5 48 (.bool false) rfl rfl (by kernel_rfl) (by kernel_rfl) (by kernel_rfl) (fun _ _ _ h => h) rfl (fun w' _ => by go_simp <;> simp [g3]) trivial ?_
              go_frame
              refine takeH 6 49 (.bool false) rfl rfl (by kernel_rfl) (by kernel_rfl) (by kernel_rfl) (fun _ _ _ h => h) rfl (fun w' _ => by go_simp) trivial ?_
              go_frame
              refine takeHNX 7 50 rfl rfl (by kernel_rfl) (by kernel_rfl) (by kernel_rfl) (fun _ _ _ h => h) rfl trivial ?_
              go_frame
              refine takeHNX 8 51 rfl rfl (by kernel_rfl) (by kernel_rfl) (by kernel_rfl) (fun _ _ _ h => h) rfl trivial ?_
              go_frame
              refine takeHNX 9 52 rfl rfl (by kernel_rfl) (by kernel_rfl) (by kernel_rfl) (fun _ _ _ h => h) rfl trivial ?_
              go_frame
              refine takeH 10 53 (.bool false) rfl rfl (by kernel_rfl) (by kernel_rfl) (by kernel_rfl) (fun _ _ _ h => h) rfl (fun w' _ => by go_simp) trivial ?_
              go_frame
              refine wpAnyH_all (rs := [11]) (by kernel_rfl) (by simp) ?_
              simp only [List.mem_singleton, forall_eq]
              refine wpOp_storeN rfl rfl rfl 29 (.tmp 2) (.tmp 46) rfl w.heap.size 0 #[str D, str [], .int .i64 (V : Int), .slice none 0 0] rfl rfl (hk.there 0 4 (Nat.le_refl _)) (by kernel_rfl) (by simp [Value.oneCell']) ⟨trivial, ?_⟩
              go_frame
              have hk2 := hk.setAll (vs := [str D, str [], .int .i64 (V : Int), .slice none 0 0]) rfl
              have hl2 := Lib.hid (below_setCells (Nat.le_refl _) [str D, str [], .int .i64 (V : Int), .slice none 0 0] HB1.out.drew 0)
              have e0 := hk2.at (o := 0) rfl
              have e1 := hk2.at (o := 1) rfl
              have e2 := hk2.at (o := 2) rfl
              have e3 := hk2.at (o := 3) rfl
              refine takeH 12 3 (.bool false) rfl rfl (by kernel_rfl) (by kernel_rfl) (by kernel_rfl) (fun _ _ _ h => h) rfl (fun w' _ => by go_simp) trivial ?_
              go_frame
              refine wpAnyH_done (by kernel_rfl) ?_ _
              refine NoPanic.normal ?_
              go_wp2_with fail
              exact bodyPost_ret (v := .tuple #[hd4 D [] (V : Int) (.slice none 0 0), .bool false]) (by simp [results, Tryz.results20, go_sem, e0, e1, e2, e3]) rfl (by first | exact ⟨D, (V : Int), rfl, fun h => absurd h (by decide), hl2.out⟩ | exact ⟨⟨D, (V : Int), rfl⟩, hl2.out⟩)
      · have hn := hno (fun h => h3 (by rw [hx12]; exact h.2.2.1))
        subst hn
        have e3 : (X12 == 32) = false := by
          rw [beq_eq_false_iff_ne, hX12]; intro e; exact h3 (bn_inj (y := 32) (by rw [e]; rfl))
        have e4 : (X12 != 32) = true := by
          rw [bne_iff_ne, hX12]; intro e; exact h3 (bn_inj (y := 32) (by rw [e]; rfl))
        clear hyes hno h3 hX12 hx12 h2
        go_enter Tryz.func20, Tryz.ntmps20
        go_wp2_with fail
        exact bodyPost_ret (v := .tuple #[hd4 [] [] 0 (.slice none 0 0), .bool false]) (by simp [results, Tryz.results20, go_sem]) rfl (by first | exact ⟨[], 0, rfl, fun h => absurd h (by decide), HLOW.out⟩ | exact ⟨⟨[], 0, rfl⟩, HLOW.out⟩)
    · have hn := hno (fun h => h2 h.2.1)
      subst hn
      obtain ⟨A9, hA9⟩ : ∃ A, A = l.take 9 := ⟨_, rfl⟩
      rw [← hA9] at t1 h2
      have e1 : (A9 != [72, 84, 84, 80, 47, 49, 46, 49, 32]) = true := by rw [bne_iff_ne]; exact h2
      have e2 : (A9 == [72, 84, 84, 80, 47, 49, 46, 49, 32]) = false := by rw [beq_eq_false_iff_ne]; exact h2
      clear hyes hno h2 hA9
      go_enter Tryz.func20, Tryz.ntmps20
      go_wp2_with fail
      exact bodyPost_ret (v := .tuple #[hd4 [] [] 0 (.slice none 0 0), .bool false]) (by simp [results, Tryz.results20, go_sem]) rfl (by first | exact ⟨[], 0, rfl, fun h => absurd h (by decide), HLOW.out⟩ | exact ⟨⟨[], 0, rfl⟩, HLOW.out⟩)
end Go.Proofs.YtajclihnoedecaaGreatDoor
