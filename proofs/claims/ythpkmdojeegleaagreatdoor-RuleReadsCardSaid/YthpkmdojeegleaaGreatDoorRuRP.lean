/- The reference's Lines and Parse. -/
import Derived.Test.YthpkmdojeegleaaGreatDoorRuRW
import Derived.Test.YthpkmdojeegleaaGreatDoorRuTwo
import Derived.Test.YthpkmdojeegleaaGreatDoorRuPa
set_option maxRecDepth 100000
namespace Go.Proofs.YthpkmdojeegleaaGreatDoor
open Go.RowKit Go.Shelf
attribute [local go_sem] Oper.semAt_some
/-- A row of texts below block B. -/
def TxB (W : World) (B : Nat) (v : Value) (ls : List (List UInt8)) : Prop :=
  ∃ g cap, v = .slice (some ⟨g, 0, none⟩) ls.length cap ∧ g < B ∧ ∀ j (hj : j < ls.length), W.cell? ⟨g, j, none⟩ = some (str ls[j])
theorem TxB.below {W W' : World} {B : Nat} {v : Value} {ls : List (List UInt8)} (h : TxB W B v ls) (hb : Below B W W') : TxB W' B v ls := by
  obtain ⟨g, cap, e, hg, hc⟩ := h
  exact ⟨g, cap, e, hg, fun j hj => (hb.cell (p := ⟨g, j, none⟩) (by show g < B; omega)).trans (hc j hj)⟩
set_option maxHeartbeats 1000000 in
theorem refLines_any (s : List UInt8) (w : World) (hs : s.length ≤ 5000) :
    Calls Tryz.prog 28 #[str s] w fun e w' => ∃ v, e = .returned v ∧ TxB w' w'.heap.size v (linesR s) ∧ Below w.heap.size w w' := by
  have HS := Lib.hid (show Calls Tryz.prog 47 #[str s, .int .u8 10] w _ from refSplit_any s 10 w (by omega))
  have hne := spl_ne 10 s
  have hL : linesR s = if (spl 10 s).getLast hne = [] then (spl 10 s).dropLast else spl 10 s := rfl
  have hdl := List.dropLast_concat_getLast hne
  obtain ⟨la, hla⟩ : ∃ la, la = (spl 10 s).getLast hne := ⟨_, rfl⟩
  obtain ⟨ini, hin⟩ : ∃ ini, ini = (spl 10 s).dropLast := ⟨_, rfl⟩
  rw [← hla, ← hin] at hL hdl
  have hlen5 : ini.length ≤ 5000 := by
    have h1 := (spl_len (c := 10) s).1
    rw [← hdl, List.length_append, List.length_singleton] at h1
    omega
  obtain ⟨L, hLd⟩ : ∃ L, L = linesR s := ⟨_, rfl⟩
  rw [← hLd] at hL ⊢
  rw [← hdl] at HS hL
  clear hla hin hLd hdl hne
  have HL := Lib.hid hL
  clear hL
  go_enter Tryz.func28, Tryz.ntmps28
  go_wp2_with fail
  refine HS.out.mono ?_
  rintro e w1 ⟨u, rfl, hO, hB⟩
  have hlt := hO.lt
  rcases hO.form with ⟨_, h0⟩ | ⟨g, cap, rfl, hbg, hgl, hlc, hcm, hcs⟩
  · simp at h0
  have hcl := hcs ini.length (by simp)
  rw [List.getElem_concat_length rfl] at hcl
  rw [List.length_append, List.length_singleton] at hlc ⊢
  have HCS := Lib.hid hcs
  have HB1 := Lib.hid hB
  obtain ⟨n, hn⟩ : ∃ n, n = ini.length := ⟨_, rfl⟩
  rw [← hn] at hcl hlc hlen5 ⊢
  have HN := Lib.hid hn
  have hsub : (((n + 1 : Nat) : Int)) - 1 = (n : Int) := by omega
  have hsub2 : ((n : Int) + 1) - 1 = (n : Int) := by omega
  have hnn : (n : Int) < (n : Int) + 1 := by omega
  clear hO hB hcs hn HS hbg hlt
  cases la with
  | nil =>
    obtain rfl : L = ini := HL.out.trans (by rw [if_pos rfl])
    clear HL
    go_wp2_with fail
    go_ret
    exact ⟨.slice (some ⟨g, 0, none⟩) n cap, rfl, ⟨g, cap, by rw [HN.out], hgl, fun j hj => by have := HCS.out j (by rw [List.length_append]; omega); rwa [List.getElem_append_left hj] at this⟩, HB1.out⟩
  | cons c t =>
    obtain rfl : L = ini ++ [c :: t] := HL.out.trans (by rw [if_neg (by simp)])
    clear HL
    go_wp2_with fail
    go_ret
    exact ⟨.slice (some ⟨g, 0, none⟩) (n + 1) cap, rfl, ⟨g, cap, by rw [List.length_append, List.length_singleton, HN.out], hgl, HCS.out⟩, HB1.out⟩
theorem wpList_appF2 {w : World} {ops : Array Oper} {rest : List Oper} {o : Oper} {a : Act} {Q : Exit → Act → World → Prop} (hgd : o.guard = none) (s x : Operand) (ho : o.op = .call { callee := .builtin .append, args := #[s, x], argTypes := #[28, 28] })
    (base : Nat) (v : Value) (xs : List RuL) (hs : a.eval s = v) (hown : OwnR 33 w base v xs) (gb : Nat) (r : RuL) (hx : a.eval x = .slice (some ⟨gb, 0, none⟩) 1 1)
    (hnew : w.heap[gb]? = some (.cells (rcl r).toArray 33 (0, 0))) (hn : xs.length ≤ 100000) (hbase : base ≤ w.heap.size)
    (h : ∀ v' w', OwnR 33 w' base v' (xs ++ [r]) → w.grownBy w' v.ownBlock → wpList Tryz.prog ops Q rest (a.put o.dst v') w') : wpList Tryz.prog ops Q (o :: rest) a w := by
  obtain ⟨i0, hi, hz0, hz1, hz2⟩ := info_parts info_rr
  refine wpList_append_own w hgd s x 28 ho base 33 i0 zagg 6 72 Tryz.underlying28 hi hz0 hz1 hz2 rfl (by decide) v xs.length (rcs xs) hs hown ⟨gb, 0, none⟩ 1 1 (rcl r) hx rfl (World.news_of_block hnew) (by simp [rcl, Value.oneCell']) (by unfold maxLen; omega) (by omega) hbase ?_
  intro v' w' h1 h2 _
  refine h v' w' ?_ h2
  unfold OwnR
  rw [List.length_append, rcs_snoc]
  exact h1
def RefP (text : List UInt8) (w : World) (e : Ending) (w' : World) : Prop :=
  ∃ v, e = .returned (.tuple #[v, .int .i64 ((parseP text).2.1 : Int), .int .i64 (parseP text).2.2]) ∧ OwnR 33 w' w.heap.size v (parseP text).1 ∧ Below w.heap.size w w'
theorem linesR_len (s : List UInt8) : (linesR s).length ≤ s.length + 1 ∧ ∀ p ∈ linesR s, p.length ≤ s.length := by
  obtain ⟨h1, h2⟩ := spl_len (c := 10) s
  unfold linesR
  split
  · exact ⟨by rw [List.length_dropLast]; omega, fun p hp => h2 p ((List.dropLast_sublist _).subset hp)⟩
  · exact ⟨h1, h2⟩
set_option maxHeartbeats 4000000 in
theorem refParse_any (text : List UInt8) (w : World) (hl : text.length ≤ 5000) :
    Calls Tryz.prog 9 #[str text] w (RefP text w) := by
  by_cases h4 : 4096 < text.length
  · have h4' : (4096 : Int) < (text.length : Int) := by omega
    have hp : parseP text = ([], 0, 3) := by unfold parseP; rw [if_pos h4]
    unfold RefP
    rw [hp]
    clear hp h4
    go_enter Tryz.func9, Tryz.ntmps9
    go_wp2_with fail
    first | go_ret3 | (rw [Exit.noGoto_ret]; go_ret3)
    exact ⟨_, rfl, OwnR.nil _ _ _, Below.refl _ _⟩
  · have h4' : ¬ (4096 : Int) < (text.length : Int) := by omega
    have hp : parseP text = if 0 < (scanA [] 0 (linesR text)).2 then ([], (scanA [] 0 (linesR text)).2, 4) else if 32 < (scanA [] 0 (linesR text)).1.length then ([], 0, 8) else ((scanA [] 0 (linesR text)).1, 0, 0) := by
      unfold parseP; rw [if_neg h4, scan_lines]
    have HSP := Lib.hid (refLines_any text w (by omega))
    obtain ⟨s1, s2⟩ := linesR_len text
    obtain ⟨ls, hls⟩ : ∃ ls, ls = linesR text := ⟨_, rfl⟩
    rw [← hls] at HSP s1 s2 hp
    have HS2 := Lib.hid (fun q (h : q ∈ ls) => show q.length ≤ 4096 from by have := s2 q h; omega)
    have hM4 : ls.length ≤ 4097 := by omega
    obtain ⟨RS, n, hRS⟩ : ∃ RS n, scanA [] 0 ls = (RS, n) := ⟨_, _, rfl⟩
    rw [hRS] at hp
    simp only at hp
    have HRS := Lib.hid hRS
    have HP := Lib.hid hp
    have hl4 : text.length ≤ 4096 := by omega
    clear hRS hp h4 s1 s2 hls hl
    go_enter Tryz.func9, Tryz.ntmps9
    go_wp2_with fail
    refine HSP.out.mono ?_
    rintro e w1 ⟨v, rfl, ht, hB⟩
    obtain ⟨g, cap, rfl, hg, hcs⟩ := ht
    obtain ⟨M, hM⟩ : ∃ M, M = ls.length := ⟨_, rfl⟩
    rw [← hM] at hM4 ⊢
    have HM := Lib.hid hM
    have HB1 := Lib.hid hB
    have HCS := Lib.hid hcs
    clear hB hcs HSP hM
    go_wp2_with fail
    go_loopw [5, 16] (fun v i wr => ∃ (k : Nat) (acc : List RuL), k ≤ M ∧ i = .int .i64 (k : Int) ∧ OwnR 33 wr w1.heap.size v acc ∧ Below w1.heap.size w1 wr ∧ scanA acc k (ls.drop k) = (RS, n) ∧ acc.length ≤ k) (fun _ i _ => M - (intOf i).toNat)
    case atStart => exact ⟨0, [], by omega, rfl, OwnR.nil _ _ _, Below.refl _ _, HRS.out, Nat.le_refl _⟩
    case round =>
      obtain ⟨k, acc, hk, rfl, hO, hB, hsc, hal⟩ := hrel
      have HO := Lib.hid hO
      have HB := Lib.hid hB
      by_cases hlt : k < M
      · have hkp : k < ls.length := by rw [← HM.out]; exact hlt
        have ck : wr.cell? ⟨g, k, none⟩ = some (str ls[k]) := (hB.cell (p := ⟨g, k, none⟩) (by show g < w1.heap.size; omega)).trans (HCS.out k hkp)
        have hdr : ls.drop k = ls[k] :: ls.drop (k + 1) := List.drop_eq_getElem_cons hkp
        have hql := HS2.out _ (List.getElem_mem hkp)
        rw [hdr, scanA] at hsc
        obtain ⟨q, hq⟩ : ∃ q, q = ls[k] := ⟨_, rfl⟩
        rw [← hq] at ck hsc hql
        have HLN := Lib.hid (fun W => refLine_any q W (by omega))
        obtain ⟨hr1, hr2⟩ := lineR_P q
        obtain ⟨r, ok, hro⟩ : ∃ r ok, lineR q = (r, ok) := ⟨_, _, rfl⟩
        rw [hro] at HLN hr1 hr2
        simp only at HLN hr1 hr2
        rw [← hr1] at hsc
        have HSC := Lib.hid hsc
        have HR2 := Lib.hid hr2
        clear hkp hdr hq hro hsc hr1 hr2 hO hB
        cases q with
        | nil =>
          have HS3 := Lib.hid (show scanA acc (k + 1) (ls.drop (k + 1)) = (RS, n) by rw [← HSC.out, show skipB [] = true from rfl, if_pos rfl])
          go_wp2_with fail
          go_roundw
          case rel => exact ⟨k + 1, acc, by omega, by go_num, HO.out, HB.out, HS3.out, by omega⟩
          case measure => simp [intOf]; omega
        | cons c t =>
          have hix : ∀ W, (Instr.index 9 (str (c :: t)) (.int .i64 0)).run Tryz.prog W = .ok (vb c) W := fun W => str_index (c :: t) 0 (by simp) W
          have hskd : skipB (c :: t) = (c == 35) := by
            have h1 : skipB (c :: t) = (35 == c) := by simp [skipB, Lib.hasPrefix, List.isPrefixOf]
            rw [h1]
            by_cases h2 : c = 35
            · rw [h2]
            · rw [beq_eq_false_iff_ne.2 h2, beq_eq_false_iff_ne.2 (Ne.symm h2)]
          by_cases h35 : c = 35
          · subst h35
            have HS3 := Lib.hid (show scanA acc (k + 1) (ls.drop (k + 1)) = (RS, n) by rw [← HSC.out, hskd, if_pos (show ((35 : UInt8) == 35) = true from rfl)])
            have hix2 : ∀ W, (Instr.index 9 (str (35 :: t)) (.int .i64 0)).run Tryz.prog W = .ok (.int .u8 35) W := hix
            clear hskd hix
            go_wp2_with fail
            go_roundw
            case rel => exact ⟨k + 1, acc, by omega, by go_num, HO.out, HB.out, HS3.out, by omega⟩
            case measure => simp [intOf]; omega
          · have hcf : (c == 35) = false := by rw [beq_eq_false_iff_ne]; exact h35
            have hcn : ((c.toNat : Int) == 35) = false := by
              rw [beq_eq_false_iff_ne]
              intro e
              exact h35 (UInt8.toNat_inj.1 (by have : c.toNat = 35 := by omega
                                               rw [this]; rfl))
            rw [hcf] at hskd
            have hix2 : ∀ W, (Instr.index 9 (str (c :: t)) (.int .i64 0)).run Tryz.prog W = .ok (.int .u8 (c.toNat : Int)) W := hix
            clear hix hcf h35
            obtain ⟨X, hX⟩ : ∃ X, X = c.toNat := ⟨_, rfl⟩
            rw [← hX] at hix2 hcn
            clear hX
            obtain ⟨al, ro, te, ho, fr, ti⟩ := r
            cases ok with
            | false =>
              have hs3 : (acc, k + 1) = (RS, n) := by rw [← HSC.out, hskd, if_neg (by simp), if_neg (by simp)]
              obtain ⟨rfl, rfl⟩ : acc = RS ∧ k + 1 = n := by injection hs3 with h1 h2; exact ⟨h1, h2⟩
              have HQ := Lib.hid (HP.out.trans (if_pos (Nat.succ_pos k)))
              clear hskd hs3
              go_wp2_with fail
              refine (HLN.out _).mono ?_
              rintro e w2 ⟨rfl, hB2⟩
              have HB2 := Lib.hid ((HB.out.trans (hB2.mono HB.out.size)).alloc (by have := HB.out.size; have := hB2.size; omega) (.cells #[.bool al, str ro, str te, str ho, .int .i64 fr, .int .i64 ti] 33))
              clear hB2
              go_wp2_with fail
              first | go_ret3 | (rw [Exit.noGoto_ret]; go_ret3)
              unfold RefP
              rw [HQ.out]
              exact ⟨_, by first | rfl | simp, OwnR.nil _ _ _, HB1.out.trans (HB2.out.mono HB1.out.size)⟩
            | true =>
              have hrr := HR2.out rfl
              have HS3 := Lib.hid (show scanA (acc ++ [⟨al, ro, te, ho, fr, ti⟩]) (k + 1) (ls.drop (k + 1)) = (RS, n) by rw [← HSC.out, hskd, if_neg (by simp), if_pos rfl, hrr])
              have hac : acc.length ≤ 100000 := by omega
              have HAL : Hid ((acc ++ [(⟨al, ro, te, ho, fr, ti⟩ : RuL)]).length ≤ k + 1) := Lib.hid (by rw [List.length_append]; simp; omega)
              clear hskd hrr
              go_wp2_with fail
              refine (HLN.out _).mono ?_
              rintro e w2 ⟨rfl, hB2⟩
              have ha1 := (Below.refl w2.heap.size w2).alloc (Nat.le_refl _) (.cells #[.bool al, str ro, str te, str ho, .int .i64 fr, .int .i64 ti] 33)
              have ha2 := ha1.alloc (by simp) (.cells #[.bool al, str ro, str te, str ho, .int .i64 fr, .int .i64 ti] 33)
              have HOW := Lib.hid ((HO.out.below hB2).below ha2)
              have HBW := Lib.hid ((HB.out.trans (hB2.mono HB.out.size)).trans (ha2.mono (Nat.le_trans HB.out.size hB2.size)))
              have HNW := Lib.hid (show ((w2.alloc (.cells #[.bool al, str ro, str te, str ho, .int .i64 fr, .int .i64 ti] 33)).alloc (.cells #[.bool al, str ro, str te, str ho, .int .i64 fr, .int .i64 ti] 33)).heap[w2.heap.size + 1]? = some (.cells (rcl ⟨al, ro, te, ho, fr, ti⟩).toArray 33 (0, 0)) from by
                have := heap_alloc_new (w2.alloc (.cells #[.bool al, str ro, str te, str ho, .int .i64 fr, .int .i64 ti] 33)) (.cells #[.bool al, str ro, str te, str ho, .int .i64 fr, .int .i64 ti] 33)
                rwa [World.size_alloc] at this)
              clear hB2 ha1 ha2
              go_wp2_with (at_builtin; (refine wpList_appF2 rfl (.tmp 37) (.tmp 39) rfl w1.heap.size u5 acc rfl HOW.out (w2.heap.size + 1) ⟨al, ro, te, ho, fr, ti⟩ rfl HNW.out hac HBW.out.size ?_); intro v5 A1 hO5 hg5; have HO5 := Lib.hid hO5; have HB5 := Lib.hid (HBW.out.grown hg5 HBW.out.size (fun r e => (HOW.out.lt r e).1)); clear hO5 hg5)
              go_roundw
              case rel => exact ⟨k + 1, _, by omega, by go_num, HO5.out, HB5.out, HS3.out, HAL.out⟩
              case measure => simp [intOf]; omega
      · obtain rfl : k = M := by omega
        have hnil : ls.drop k = [] := List.drop_eq_nil_of_le (by rw [← HM.out]; exact Nat.le_refl _)
        rw [hnil, scanA] at hsc
        obtain ⟨rfl, rfl⟩ : acc = RS ∧ 0 = n := by injection hsc with h1 h2; exact ⟨h1, h2⟩
        have hq0 := HP.out.trans (if_neg (by omega))
        obtain ⟨A2, c2, rfl, _, _⟩ := hO.form
        clear hsc hnil hO hB
        by_cases h32 : 32 < acc.length
        · have HQ := Lib.hid (hq0.trans (if_pos h32))
          have h33 : (32 : Int) < (acc.length : Int) := by omega
          clear hq0
          go_wp2_with fail
          first | go_ret3 | (rw [Exit.noGoto_ret]; go_ret3)
          unfold RefP
          rw [HQ.out]
          exact ⟨_, by first | rfl | simp, OwnR.nil _ _ _, HB1.out.trans (HB.out.mono HB1.out.size)⟩
        · have HQ := Lib.hid (hq0.trans (if_neg h32))
          have h33 : ¬ (32 : Int) < (acc.length : Int) := by omega
          clear hq0
          go_wp2_with fail
          first | go_ret3 | (rw [Exit.noGoto_ret]; go_ret3)
          unfold RefP
          rw [HQ.out]
          exact ⟨_, by first | rfl | simp, HO.out.le HB1.out.size, HB1.out.trans (HB.out.mono HB1.out.size)⟩
end Go.Proofs.YthpkmdojeegleaaGreatDoor
