/- rule.Parse. -/
import Derived.Test.YthpkmdojeegleaaGreatDoorRuPr
set_option maxRecDepth 100000
namespace Go.Proofs.YthpkmdojeegleaaGreatDoor
open Go.RowKit Go.Shelf
attribute [local go_sem] Oper.semAt_some
theorem lineP_small {l : List UInt8} (h : (lineP l).2 = true) : SmallR (lineP l).1 := by
  have hv : validB (lineP l).1 = true := by
    unfold lineP at h ⊢
    split at h
    · split at h
      · rename_i h3; rw [if_pos h3]; exact h
      · cases h
    · cases h
  unfold validB at hv
  simp only [Bool.and_eq_true, decide_eq_true_eq] at hv
  obtain ⟨⟨⟨⟨⟨h1, h2⟩, h3⟩, _⟩, _⟩, _⟩ := hv
  obtain ⟨_, a⟩ := wordB_not h1 (c := 32) (by decide) (by decide)
  obtain ⟨_, b⟩ := wordB_not h2 (c := 32) (by decide) (by decide)
  obtain ⟨_, c⟩ := patB_not h3 (c := 32) (by decide)
  exact ⟨by omega, by omega, by omega⟩
/-- Parse, under way: the rules' row is new. -/
structure Pa (W2 : World) (xs : List RuL) (v : Value) (A : World) : Prop where
  own : OwnR 41 A W2.heap.size v xs
  low : Below W2.heap.size W2 A
section
variable {W2 A B : World} {xs : List RuL} {v v1 : Value} {r : RuL}
theorem Pa.below (h : Pa W2 xs v A) (hb : Below A.heap.size A B) : Pa W2 xs v B := ⟨h.own.below hb, h.low.trans (hb.mono h.low.size)⟩
theorem Pa.out (h : Pa W2 xs v A) (hg : A.grownBy B v.ownBlock) (hv : OwnR 41 B W2.heap.size v1 (xs ++ [r])) : Pa W2 (xs ++ [r]) v1 B :=
  ⟨hv, h.low.grown hg h.low.size (fun k hk => (World.ownsRow.lt h.own k hk).1)⟩
end
theorem wpList_appR1 {w : World} {ops : Array Oper} {rest : List Oper} {o : Oper} {a : Act} {Q : Exit → Act → World → Prop} (hgd : o.guard = none) (s x : Operand) (ho : o.op = .call { callee := .builtin .append, args := #[s, x], argTypes := #[38, 38] })
    (base : Nat) (v : Value) (xs : List RuL) (hs : a.eval s = v) (hown : OwnR 41 w base v xs) (gb : Nat) (r : RuL) (hx : a.eval x = .slice (some ⟨gb, 0, none⟩) 1 1)
    (hnew : w.heap[gb]? = some (.cells (rcl r).toArray 41 (0, 0))) (hn : xs.length ≤ 100000) (hbase : base ≤ w.heap.size)
    (h : ∀ v' w', OwnR 41 w' base v' (xs ++ [r]) → w.grownBy w' v.ownBlock → wpList Tryz.prog ops Q rest (a.put o.dst v') w') : wpList Tryz.prog ops Q (o :: rest) a w := by
  obtain ⟨i0, hi, hz0, hz1, hz2⟩ := info_parts info_ru
  refine wpList_append_own w hgd s x 38 ho base 41 i0 zagg 6 72 Tryz.underlying38 hi hz0 hz1 hz2 rfl (by decide) v xs.length (rcs xs) hs hown ⟨gb, 0, none⟩ 1 1 (rcl r) hx rfl (World.news_of_block hnew) (by simp [rcl, Value.oneCell']) (by unfold maxLen; omega) (by omega) hbase ?_
  intro v' w' h1 h2 _
  refine h v' w' ?_ h2
  unfold OwnR
  rw [List.length_append, rcs_snoc]
  exact h1
/-- What Parse gives. -/
def ParR (text : List UInt8) (w : World) (e : Ending) (w' : World) : Prop :=
  ∃ pv, e = .returned (.tuple #[pv, .int .i64 ((parseP text).2.1 : Int), .int .i64 (parseP text).2.2]) ∧ ((parseP text).2.2 ≠ 0 → pv = .pointer none) ∧
    ((parseP text).2.2 = 0 → (∃ p, pv = .pointer (some ⟨p, 0, none⟩)) ∧ PolO w' w'.heap.size pv (parseP text).1) ∧ Below w.heap.size w w'
set_option maxHeartbeats 4000000 in
theorem parse_any (text : List UInt8) (w : World) (hE : Env w) (hl : text.length ≤ 100000) :
    Calls Tryz.prog 8 #[str text] w (ParR text w) := by
  have HE := Lib.hid hE
  by_cases h4 : 4096 < text.length
  · have h4' : (4096 : Int) < (text.length : Int) := by omega
    have hp : parseP text = ([], 0, 3) := by unfold parseP; rw [if_pos h4]
    unfold ParR
    rw [hp]
    clear hp h4
    go_enter Tryz.func8, Tryz.ntmps8
    go_wp2_with fail
    go_step3
    go_wp2_with fail
    first | go_ret3 | (rw [Exit.noGoto_ret]; go_ret3)
    exact ⟨_, rfl, fun _ => rfl, fun h => absurd h (by decide), Below.refl _ _⟩
  · have h4' : ¬ (4096 : Int) < (text.length : Int) := by omega
    have hp : parseP text = if 0 < (scanA [] 0 (spl 10 text)).2 then ([], (scanA [] 0 (spl 10 text)).2, 4) else if 32 < (scanA [] 0 (spl 10 text)).1.length then ([], 0, 8) else ((scanA [] 0 (spl 10 text)).1, 0, 0) := by
      unfold parseP; rw [if_neg h4]
    have HSP := Lib.hid (split_ru 10 text w hE hl)
    obtain ⟨s1, s2⟩ := spl_len (c := 10) text
    obtain ⟨ls, hls⟩ : ∃ ls, ls = spl 10 text := ⟨_, rfl⟩
    rw [← hls] at HSP s1 s2 hp
    have hval := scanA_valid [] 0 ls (by simp)
    have hscl := scanA_len [] 0 ls
    simp only [List.length_nil, Nat.zero_add] at hscl
    have HS2 := Lib.hid (fun q (h : q ∈ ls) => show q.length ≤ 4096 from by have := s2 q h; omega)
    have hM4 : ls.length ≤ 4097 := by omega
    obtain ⟨M, hM⟩ : ∃ M, M = ls.length := ⟨_, rfl⟩
    rw [← hM] at HSP hM4 hscl
    obtain ⟨RS, n, hRS⟩ : ∃ RS n, scanA [] 0 ls = (RS, n) := ⟨_, _, rfl⟩
    rw [hRS] at hp hval hscl
    simp only at hp hval hscl
    have HRS := Lib.hid hRS
    have HM := Lib.hid hM
    have HP := Lib.hid hp
    have HVAL := Lib.hid hval
    have hl4 : text.length ≤ 4096 := by omega
    clear hRS hM hp hval h4 s1 s2 hls hE hl
    go_enter Tryz.func8, Tryz.ntmps8
    go_wp2_with fail
    go_step3
    go_wp2_with fail
    go_step3
    go_wp2_with fail
    refine HSP.out.mono ?_
    rintro e w1 ⟨rfl, hB, hz, hcs⟩
    have HB1 := Lib.hid hB
    have HE1 := Lib.hid (HE.out.below hB)
    obtain ⟨g, hg⟩ : ∃ g, g = w.heap.size := ⟨_, rfl⟩
    rw [← hg] at hcs ⊢
    have HCS := Lib.hid hcs
    clear hB hz hcs hg HSP
    go_wp2_with fail
    go_loopw [5, 6, 7, 8, 9, 10, 19, 31, 38] (fun v5 v6 _ _ _ _ i _ _ wr => ∃ (k : Nat) (acc : List RuL), k ≤ M ∧ i = .int .i64 (k : Int) ∧ v6 = .int .i64 0 ∧ Pa w1 acc v5 wr ∧ scanA acc k (ls.drop k) = (RS, n) ∧ (∀ r ∈ acc, SmallR r) ∧ acc.length ≤ k) (fun _ _ _ _ _ _ i _ _ _ => M - (intOf i).toNat)
    case atStart => exact ⟨0, [], by omega, rfl, rfl, ⟨OwnR.nil _ _ _, Below.refl _ _⟩, HRS.out, (fun r h => absurd h (by simp)), Nat.le_refl _⟩
    case round =>
      obtain ⟨k, acc, hk, rfl, rfl, hP, hsc, hsm, hal⟩ := hrel
      by_cases hlt : k < M
      · have hkp : k < ls.length := by rw [← HM.out]; exact hlt
        have hp1 : ls[k]? = some ls[k] := List.getElem?_eq_getElem hkp
        have ck := cell_below (HCS.out k _ hp1) hP.low
        have hdr : ls.drop k = ls[k] :: ls.drop (k + 1) := List.drop_eq_getElem_cons hkp
        have hql := HS2.out _ (List.getElem_mem hkp)
        rw [hdr, scanA] at hsc
        obtain ⟨q, hq⟩ : ∃ q, q = ls[k] := ⟨_, rfl⟩
        rw [← hq] at ck hsc hql
        have HPR := Lib.hid (parseRule_any q wr (HE1.out.below hP.low) (by omega))
        have hls : (lineP q).2 = true → SmallR (lineP q).1 := lineP_small
        obtain ⟨r, ok, hro⟩ : ∃ r ok, lineP q = (r, ok) := ⟨_, _, rfl⟩
        rw [hro] at HPR hsc hls
        simp only at HPR hsc hls
        have HSC := Lib.hid hsc
        have HLS := Lib.hid hls
        have HSM := Lib.hid hsm
        have HPA := Lib.hid hP
        have hHP := fun W => Tryz.strings_HasPrefix ⟨q.toArray⟩ ⟨[35].toArray⟩ W
        simp only [] at hHP
        have HHP := Lib.hid hHP
        clear hkp hp1 hdr hq hro hsc hls hsm hP hHP
        obtain ⟨al, ro, te, ho, fr, ti⟩ := r
        by_cases hq0 : q = []
        · have hsk : skipB q = true := by rw [hq0]; rfl
          have HS3 := Lib.hid (show scanA acc (k + 1) (ls.drop (k + 1)) = (RS, n) by rw [← HSC.out, hsk, if_pos rfl])
          clear hsk HSC HHP
          subst hq0
          go_wp2_with fail
          refine HPR.out.mono ?_
          rintro e w2 ⟨rfl, hB2⟩
          have HP2 := Lib.hid ((HPA.out.below hB2).below ((Below.refl _ w2).alloc (Nat.le_refl _) (.cells #[.bool al, str ro, str te, str ho, .int .i64 fr, .int .i64 ti] 41)))
          clear hB2 HPR
          go_wp2_with fail
          go_roundw
          case rel => exact ⟨k + 1, acc, by omega, by go_num, rfl, HP2.out, HS3.out, HSM.out, by omega⟩
          case measure => simp [intOf]; omega
        · have hqe := str_ne q (by intro e; exact hq0 (List.eq_nil_of_length_eq_zero e))
          have hqb : (q == []) = false := by rw [beq_eq_false_iff_ne]; exact hq0
          have hskd : skipB q = Lib.hasPrefix q [35] := by unfold skipB; rw [hqb]; rfl
          cases hpf : Lib.hasPrefix q [35] with
          | true =>
            rw [hpf] at HHP
            rw [hpf] at hskd
            have HS3 := Lib.hid (show scanA acc (k + 1) (ls.drop (k + 1)) = (RS, n) by rw [← HSC.out, hskd, if_pos rfl])
            clear hskd HSC hpf hq0 hqb
            go_wp2_with fail
            refine HPR.out.mono ?_
            rintro e w2 ⟨rfl, hB2⟩
            have HP2 := Lib.hid ((HPA.out.below hB2).below ((Below.refl _ w2).alloc (Nat.le_refl _) (.cells #[.bool al, str ro, str te, str ho, .int .i64 fr, .int .i64 ti] 41)))
            clear hB2 HPR
            go_wp2_with fail
            refine (HHP.out _).mono ?_
            rintro e w3 ⟨rfl, rfl⟩
            go_wp2_with fail
            go_roundw
            case rel => exact ⟨k + 1, acc, by omega, by go_num, rfl, HP2.out, HS3.out, HSM.out, by omega⟩
            case measure => simp [intOf]; omega
          | false =>
            rw [hpf] at HHP
            rw [hpf] at hskd
            cases ok with
            | true =>
              have HS3 := Lib.hid (show scanA (acc ++ [⟨al, ro, te, ho, fr, ti⟩]) (k + 1) (ls.drop (k + 1)) = (RS, n) by rw [← HSC.out, hskd, if_neg (by simp), if_pos rfl])
              have HS4 := Lib.hid (show ∀ r ∈ acc ++ [(⟨al, ro, te, ho, fr, ti⟩ : RuL)], SmallR r from fun r hr => by
                rcases List.mem_append.1 hr with hr | hr
                · exact HSM.out r hr
                · rw [List.mem_singleton.1 hr]; exact HLS.out rfl)
              have hac : acc.length ≤ 100000 := by omega
              have HAL : Hid ((acc ++ [(⟨al, ro, te, ho, fr, ti⟩ : RuL)]).length ≤ k + 1) := Lib.hid (by rw [List.length_append]; simp; omega)
              clear hskd HSC hpf hq0 hqb
              go_wp2_with fail
              refine HPR.out.mono ?_
              rintro e w2 ⟨rfl, hB2⟩
              have hp2 := (HPA.out.below hB2).below ((Below.refl _ w2).alloc (Nat.le_refl _) (.cells #[.bool al, str ro, str te, str ho, .int .i64 fr, .int .i64 ti] 41))
              have hp3 := hp2.below ((Below.refl _ _).alloc (Nat.le_refl _) (.cells #[.bool al, str ro, str te, str ho, .int .i64 fr, .int .i64 ti] 41))
              have HP3 := Lib.hid hp3
              have HOW := Lib.hid hp3.own
              have HNW := Lib.hid (show ((w2.alloc (.cells #[.bool al, str ro, str te, str ho, .int .i64 fr, .int .i64 ti] 41)).alloc (.cells #[.bool al, str ro, str te, str ho, .int .i64 fr, .int .i64 ti] 41)).heap[w2.heap.size + 1]? = some (.cells (rcl ⟨al, ro, te, ho, fr, ti⟩).toArray 41 (0, 0)) from by
                have := heap_alloc_new (w2.alloc (.cells #[.bool al, str ro, str te, str ho, .int .i64 fr, .int .i64 ti] 41)) (.cells #[.bool al, str ro, str te, str ho, .int .i64 fr, .int .i64 ti] 41)
                rwa [World.size_alloc] at this)
              have hzA : w1.heap.size ≤ ((w2.alloc (.cells #[.bool al, str ro, str te, str ho, .int .i64 fr, .int .i64 ti] 41)).alloc (.cells #[.bool al, str ro, str te, str ho, .int .i64 fr, .int .i64 ti] 41)).heap.size := hp3.low.size
              clear hB2 HPR hp2 hp3
              go_wp2_with fail
              refine (HHP.out _).mono ?_
              rintro e w3 ⟨rfl, hw3⟩
              subst hw3
              go_wp2_with (at_builtin; (refine wpList_appR1 rfl (.tmp 40) (.tmp 42) rfl w1.heap.size u5 acc rfl HOW.out (w2.heap.size + 1) ⟨al, ro, te, ho, fr, ti⟩ rfl HNW.out hac hzA ?_); intro v5 A1 hO5 hg5; have HP5 := Lib.hid (HP3.out.out hg5 hO5); clear hO5 hg5)
              go_roundw
              case rel => exact ⟨k + 1, _, by omega, by go_num, rfl, HP5.out, HS3.out, HS4.out, HAL.out⟩
              case measure => simp [intOf]; omega
            | false =>
              have hs3 : (acc, k + 1) = (RS, n) := by rw [← HSC.out, hskd, if_neg (by simp), if_neg (by simp)]
              obtain ⟨rfl, rfl⟩ : acc = RS ∧ k + 1 = n := by injection hs3 with h1 h2; exact ⟨h1, h2⟩
              have HQ := Lib.hid (HP.out.trans (if_pos (Nat.succ_pos k)))
              clear hskd HSC hpf hq0 hqb hs3
              go_wp2_with fail
              refine HPR.out.mono ?_
              rintro e w2 ⟨rfl, hB2⟩
              have HP2 := Lib.hid ((HPA.out.below hB2).below ((Below.refl _ w2).alloc (Nat.le_refl _) (.cells #[.bool al, str ro, str te, str ho, .int .i64 fr, .int .i64 ti] 41)))
              clear hB2 HPR
              go_wp2_with fail
              refine (HHP.out _).mono ?_
              rintro e w3 ⟨rfl, rfl⟩
              have hkn : (0 : Int) < (k : Int) + 1 := by omega
              go_wp2_with fail
              first | go_ret3 | (rw [Exit.noGoto_ret]; go_ret3)
              unfold ParR
              rw [HQ.out]
              exact ⟨_, by first | rfl | simp, fun _ => rfl, fun h => absurd h (show ¬ ((4 : Int) = 0) by decide), HB1.out.trans (HP2.out.low.mono HB1.out.size)⟩
      · obtain rfl : k = M := by omega
        have hnil : ls.drop k = [] := List.drop_eq_nil_of_le (by rw [← HM.out]; exact Nat.le_refl _)
        rw [hnil] at hsc
        obtain ⟨rfl, rfl⟩ : acc = RS ∧ 0 = n := by
          have : (acc, 0) = (RS, n) := hsc
          injection this with h1 h2; exact ⟨h1, h2⟩
        have HQ := Lib.hid (HP.out.trans (if_neg (by simp)))
        have HNW := Lib.hid (new_any wr.heap.size u5 acc wr (HE1.out.below hP.low) hP.own.rlIn (Nat.le_refl _) hsm (by omega))
        obtain ⟨A5, c5, rfl, _⟩ := hP.own.form
        have hvl : acc.all validB = true := List.all_eq_true.2 HVAL.out
        have HBW := Lib.hid (HB1.out.trans (hP.low.mono HB1.out.size))
        clear hnil hsc hP hsm hscl HRS
        go_wp2_with fail
        refine HNW.out.mono ?_
        rintro e w3 ⟨pv, x, rfl, hcase, hB3⟩
        have HB3 := Lib.hid (HBW.out.trans (hB3.mono HBW.out.size))
        clear hB3 HNW
        go_wp2_with fail
        first | go_ret3 | (rw [Exit.noGoto_ret]; go_ret3)
        unfold ParR
        rw [HQ.out]
        rcases hcase with ⟨h, _, _⟩ | ⟨_, h32, rfl, rfl⟩ | ⟨_, h32, rfl, hpp, hpo⟩
        · rw [hvl] at h; cases h
        · rw [if_pos h32]
          exact ⟨_, rfl, fun _ => rfl, fun h => absurd h (show ¬ ((8 : Int) = 0) by decide), HB3.out⟩
        · rw [if_neg (by omega)]
          exact ⟨_, rfl, fun h => absurd rfl h, fun _ => ⟨hpp, hpo⟩, HB3.out⟩
end Go.Proofs.YthpkmdojeegleaaGreatDoor
