/- rule.Match, the rules' ports, what is valid, what holds. -/
import Derived.Test.YthpkmdojeegleaaGreatDoorRuFn
import Derived.Shelf.Small.Wraps
namespace Go.Proofs.YthpkmdojeegleaaGreatDoor
open Go.RowKit Go.Shelf
theorem belowM {w : World} (n : Nat) : Below w.heap.size w (w.drewN n) := (Below.refl _ w).trans ⟨rfl, rfl, rfl, Nat.le_refl _, fun _ _ => rfl⟩
theorem cut_ru (s sep : List UInt8) (w : World) (hE : Env w) (hs : s.length ≤ 100000) :
    Calls Tryz.prog 64 #[str s, str sep] w fun e w' => e = .returned (.tuple #[str (Lib.cut s sep).1, str (Lib.cut s sep).2.1, .bool (Lib.cut s sep).2.2]) ∧ Below w.heap.size w w' := by
  obtain ⟨m, hm⟩ := hE.looks
  refine (Tryz.strings_Cut ⟨s.toArray⟩ ⟨sep.toArray⟩ m w (by simp [ByteArray.size]; omega) hm).mono ?_
  rintro e w' ⟨rfl, n, rfl⟩
  exact ⟨by simp, belowM n⟩
theorem cutR_len (s sep : List UInt8) : (Lib.cut s sep).1.length ≤ s.length ∧ (Lib.cut s sep).2.1.length ≤ s.length := by
  unfold Lib.cut
  split
  · simp; omega
  · simp
/-- The pieces that the library's Split lays down. -/
theorem split_ru (c : UInt8) (s : List UInt8) (w : World) (hE : Env w) (hs : s.length ≤ 100000) :
    Calls Tryz.prog 25 #[str s, str [c]] w fun e w' => e = .returned (.slice (some ⟨w.heap.size, 0, none⟩) (spl c s).length (spl c s).length) ∧ Below w.heap.size w w' ∧ w.heap.size < w'.heap.size ∧ ∀ j x, (spl c s)[j]? = some x → w'.cell? ⟨w.heap.size, j, none⟩ = some (str x) := by
  obtain ⟨m, hm⟩ := hE.looks
  have hd := Lib.splitB_data ⟨[c].toArray⟩ 0 (Lib.countB ⟨s.toArray⟩ ⟨[c].toArray⟩) ⟨s.toArray⟩
  have hl : Lib.splitK [c] 0 (Lib.count s [c]) s = spl c s := split_spl c s
  have hc : Lib.countB ⟨s.toArray⟩ ⟨[c].toArray⟩ = Lib.count s [c] := rfl
  rw [hc] at hd
  have hd2 : (Lib.splitB ⟨[c].toArray⟩ 0 (Lib.count s [c]) ⟨s.toArray⟩).map (fun x => x.data.toList) = spl c s := hd.trans hl
  have hlen := Lib.splitB_all ⟨[c].toArray⟩ (by simp [ByteArray.size]) 0 _ ⟨s.toArray⟩ rfl
  rw [hc] at hlen
  have hz : (spl c s).length = Lib.count s [c] + 1 := by rw [← hd2, List.length_map]; exact hlen
  refine (Tryz.strings_Split ⟨s.toArray⟩ ⟨[c].toArray⟩ m w (by simp [ByteArray.size]; omega) hm (by simp [ByteArray.size])).mono ?_
  rintro e w' ⟨rfl, rfl⟩
  rw [hc]
  refine ⟨by rw [hz], (Below.refl _ w).alloc (Nat.le_refl _) _, by simp, fun j x hx => ?_⟩
  have hj0 : j < (spl c s).length := by
    rcases Nat.lt_or_ge j (spl c s).length with h | h
    · exact h
    · rw [List.getElem?_eq_none h] at hx; cases hx
  have hj : j < (Lib.splitB ⟨[c].toArray⟩ 0 (Lib.count s [c]) ⟨s.toArray⟩).length := by rw [hlen]; omega
  rw [World.cell?_alloc_at _ _ _ _ (by simp)]
  have he := congrArg (fun l : List (List UInt8) => l[j]?) hd2
  simp only [List.getElem?_map, List.getElem?_eq_getElem hj, hx, Option.map_some, Option.some.injEq] at he
  rw [← he]
  simp
  exact List.getElem?_eq_getElem hj
theorem greedy_cons {p : List UInt8} {l : List (List UInt8)} (hl : l ≠ []) (h : List UInt8) : greedy (p :: l) h = ((Lib.cut h p).2.2 && greedy l (Lib.cut h p).2.1) := by
  cases l with
  | nil => exact absurd rfl hl
  | cons q l => rfl
theorem trimP_len (s p : List UInt8) : (Lib.trimPrefix s p).length ≤ s.length := by unfold Lib.trimPrefix; split <;> simp
theorem take_one {α : Type} (l : List α) (h : 0 < l.length) : l.drop (l.length - 1) = [l[l.length - 1]'(by omega)] := by
  rw [List.drop_eq_getElem_cons (by omega : l.length - 1 < l.length), List.drop_eq_nil_of_le (by omega)]
set_option maxRecDepth 100000 in
set_option maxHeartbeats 4000000 in
theorem match_any (p h : List UInt8) (w : World) (hE : Env w) (hp : p.length ≤ 10000) (hh : h.length ≤ 1000) :
    Calls Tryz.prog 60 #[str p, str h] w fun e w' => e = .returned (.bool (matchB p h)) ∧ Below w.heap.size w w' := by
  have HE := Lib.hid hE
  rw [← progM_eq]
  have HL := Lib.hid (lower_any h w (by omega))
  have hH : (h.map rlow).length ≤ 1000 := by rw [List.length_map]; exact hh
  have hd : progM p h = if (Lib.cut p [42]).2.2 = false then h.map rlow == p else if Lib.hasPrefix (h.map rlow) (Lib.cut p [42]).1 = false then false else greedy (spl 42 (Lib.cut p [42]).2.1) (Lib.trimPrefix (h.map rlow) (Lib.cut p [42]).1) := rfl
  have HC := Lib.hid (fun W (hW : Env W) => cut_ru p [42] W hW (by omega))
  obtain ⟨l1, l2⟩ := cutR_len p [42]
  obtain ⟨R, hR⟩ : ∃ R, R = progM p h := ⟨_, rfl⟩
  rw [← hR] at hd ⊢
  obtain ⟨H, hHd⟩ : ∃ H, H = h.map rlow := ⟨_, rfl⟩
  rw [← hHd] at HL hH hd
  obtain ⟨A, B, b, hc⟩ : ∃ A B b, Lib.cut p [42] = (A, B, b) := ⟨_, _, _, rfl⟩
  rw [hc] at HC l1 l2 hd
  simp only at HC l1 l2 hd
  clear hR hHd hc hE
  cases b with
  | false =>
    rw [if_pos rfl] at hd
    by_cases hq : H = p
    · subst hq
      obtain rfl : R = true := by rw [hd]; simp
      clear hd
      go_enter Tryz.func60, Tryz.ntmps60
      go_wp2_with fail
      refine HL.out.mono ?_
      rintro e w1 ⟨rfl, hB⟩
      have HB := Lib.hid hB; have HE1 := Lib.hid (HE.out.below hB); clear hB
      go_wp2_with fail
      refine (HC.out _ HE1.out).mono ?_
      rintro e w2 ⟨rfl, hB⟩
      have HB2 := Lib.hid (HB.out.trans (hB.mono HB.out.size)); clear hB
      go_wp2_with fail
      go_ret
      first | exact ⟨rfl, HB2.out⟩ | exact ⟨by simp, HB2.out⟩
    · have hq2 : (H == p) = false := by rw [beq_eq_false_iff_ne]; exact hq
      rw [hq2] at hd
      subst hd
      clear hq
      go_enter Tryz.func60, Tryz.ntmps60
      go_wp2_with fail
      refine HL.out.mono ?_
      rintro e w1 ⟨rfl, hB⟩
      have HB := Lib.hid hB; have HE1 := Lib.hid (HE.out.below hB); clear hB
      go_wp2_with fail
      refine (HC.out _ HE1.out).mono ?_
      rintro e w2 ⟨rfl, hB⟩
      have HB2 := Lib.hid (HB.out.trans (hB.mono HB.out.size)); clear hB
      go_wp2_with fail
      go_ret
      first | exact ⟨rfl, HB2.out⟩ | exact ⟨by simp [hq2], HB2.out⟩
  | true =>
    rw [if_neg (by simp)] at hd
    have HPF := Lib.hid (fun W => Tryz.strings_CutPrefix ⟨H.toArray⟩ ⟨A.toArray⟩ W)
    simp only [] at HPF
    cases hpf : Lib.hasPrefix H A with
    | false =>
      rw [hpf] at HPF
      rw [hpf, if_pos rfl] at hd
      subst hd
      clear hpf
      go_enter Tryz.func60, Tryz.ntmps60
      go_wp2_with fail
      refine HL.out.mono ?_
      rintro e w1 ⟨rfl, hB⟩
      have HB := Lib.hid hB; have HE1 := Lib.hid (HE.out.below hB); clear hB
      go_wp2_with fail
      refine (HC.out _ HE1.out).mono ?_
      rintro e w2 ⟨rfl, hB⟩
      have HB2 := Lib.hid (HB.out.trans (hB.mono HB.out.size)); clear hB
      go_wp2_with fail
      refine (HPF.out _).mono ?_
      rintro e w3 ⟨rfl, rfl⟩
      go_wp2_with fail
      go_ret
      exact ⟨rfl, HB2.out⟩
    | true =>
      rw [hpf] at HPF
      rw [hpf, if_neg (by simp)] at hd
      have ht := trimP_len H A
      obtain ⟨h0, hh0⟩ : ∃ h0, h0 = Lib.trimPrefix H A := ⟨_, rfl⟩
      rw [← hh0] at HPF ht hd
      have HSP := Lib.hid (fun W (hW : Env W) => split_ru 42 B W hW (by omega))
      have hne := spl_ne 42 B
      obtain ⟨s1, s2⟩ := spl_len (c := 42) B
      obtain ⟨ps, hps⟩ : ∃ ps, ps = spl 42 B := ⟨_, rfl⟩
      rw [← hps] at HSP hne s1 s2 hd
      have hl0 : 0 < ps.length := List.length_pos_iff.2 hne
      obtain ⟨M, hM⟩ : ∃ M, M = ps.length := ⟨_, rfl⟩
      obtain ⟨N, hN⟩ : ∃ N : Nat, M = N + 1 := ⟨M - 1, by omega⟩
      rw [← hM] at HSP s1 hl0
      have hMN : (M : Int) - 1 = (N : Int) := by omega
      have hNb : N ≤ 20000 := by omega
      have hsl := fun (b : Nat) (W : World) => show (Instr.slice 58 (.slice (some ⟨b, 0, none⟩) M M) none (some (.int .i64 (N : Int))) none).run Tryz.prog W = .ok (.slice (some ⟨b, 0, none⟩) N M) W from by
        rw [run_slice_h W 58 (some ⟨b, 0, none⟩) M M Tryz.underlying58 .i64 N (by omega) (by omega)]
        have h0 : M ≠ 0 := by omega
        simp [sliced, go_sem, h0]
      have HD := Lib.hid hd
      have HM := Lib.hid hM
      have HN := Lib.hid hN
      have HS2 := Lib.hid s2
      clear hpf hh0 hps hne hd hM hN s2
      go_enter Tryz.func60, Tryz.ntmps60
      go_wp2_with fail
      refine HL.out.mono ?_
      rintro e w1 ⟨rfl, hB⟩
      have HB := Lib.hid hB; have HE1 := Lib.hid (HE.out.below hB); clear hB
      go_wp2_with fail
      refine (HC.out _ HE1.out).mono ?_
      rintro e w2 ⟨rfl, hB⟩
      have HB2 := Lib.hid (HB.out.trans (hB.mono HB.out.size)); have HE2 := Lib.hid (HE1.out.below hB); clear hB
      go_wp2_with fail
      refine (HPF.out _).mono ?_
      rintro e w3 ⟨rfl, rfl⟩
      go_wp2_with fail
      refine (HSP.out _ HE2.out).mono ?_
      rintro e w4 ⟨rfl, hB, hz, hcs⟩
      have HB4 := Lib.hid (HB2.out.trans (hB.mono HB2.out.size)); have HE4 := Lib.hid (HE2.out.below hB)
      have HCS := Lib.hid hcs
      obtain ⟨g, hg⟩ : ∃ g, g = w3.heap.size := ⟨_, rfl⟩
      rw [← hg] at HCS
      have hsg := fun W => hsl g W
      rw [← hg]
      clear hB hz hcs hsl hg
      go_wp2_with fail
      clear hsg hMN
      go_loopw [1, 7, 12, 43] (fun vh _ _ i wr => ∃ (k : Nat) (hk : List UInt8), k ≤ N ∧ i = .int .i64 (k : Int) ∧ vh = str hk ∧ hk.length ≤ 1000 ∧ R = greedy (ps.drop k) hk ∧ Below w4.heap.size w4 wr) (fun _ _ _ i _ => N - (intOf i).toNat)
      case atStart => exact ⟨0, h0, by omega, rfl, rfl, by omega, HD.out, Below.refl _ _⟩
      case round =>
        obtain ⟨k, hk, hkN, rfl, rfl, hkl, hR, hb⟩ := hrel
        have hkp : k < ps.length := by rw [← HM.out, HN.out]; omega
        have hlM : (N : Int) < (M : Int) := by have := HN.out; omega
        have hp1 : ps[k]? = some ps[k] := List.getElem?_eq_getElem hkp
        have ck := cell_below (HCS.out k _ hp1) hb
        have hdr : ps.drop k = ps[k] :: ps.drop (k + 1) := List.drop_eq_getElem_cons hkp
        have hpl := HS2.out _ (List.getElem_mem hkp)
        rw [hdr] at hR
        have hb4 : Env wr := HE4.out.below hb
        have HB5 := Lib.hid (HB4.out.trans (hb.mono HB4.out.size))
        have HBW := Lib.hid hb
        by_cases hlt : k < N
        · have hne2 : ps.drop (k + 1) ≠ [] := by
            intro e
            have := congrArg List.length e
            rw [List.length_drop, ← HM.out, HN.out] at this
            simp at this; omega
          rw [greedy_cons hne2] at hR
          obtain ⟨q, hq⟩ : ∃ q, q = ps[k] := ⟨_, rfl⟩
          rw [← hq] at ck hR hpl
          have HCQ := Lib.hid (cut_ru hk q wr hb4 (by omega))
          obtain ⟨c1, c2⟩ := cutR_len hk q
          obtain ⟨X, Y, z, hxy⟩ : ∃ X Y z, Lib.cut hk q = (X, Y, z) := ⟨_, _, _, rfl⟩
          rw [hxy] at HCQ c2 hR
          simp only at HCQ c2 hR
          have HR := Lib.hid hR
          clear hne2 hq hxy hdr hp1 hpl hb4 hb hR c1 hkp hlM
          cases z with
          | false =>
            have hr2 : R = false := by rw [HR.out]; rfl
            clear HR
            subst hr2
            go_wp2_with fail
            refine HCQ.out.mono ?_
            rintro e w5 ⟨rfl, hB⟩
            have HB6 := Lib.hid (HB5.out.trans (hB.mono HB5.out.size)); clear hB HCQ
            go_wp2_with fail
            go_ret
            exact ⟨rfl, HB6.out⟩
          | true =>
            have HR2 := Lib.hid (show R = greedy (ps.drop (k + 1)) Y from by rw [HR.out]; rfl)
            clear HR
            go_wp2_with fail
            refine HCQ.out.mono ?_
            rintro e w5 ⟨rfl, hB⟩
            have HB6 := Lib.hid (HBW.out.trans (hB.mono HBW.out.size)); clear hB HCQ
            go_wp2_with fail
            go_roundw
            case rel => exact ⟨k + 1, Y, by omega, by go_num, rfl, by omega, HR2.out, HB6.out⟩
            case measure => simp [intOf]; omega
        · obtain rfl : k = N := by omega
          have hnil : ps.drop (k + 1) = [] := List.drop_eq_nil_of_le (by rw [← HM.out, HN.out]; omega)
          rw [hnil] at hR
          obtain ⟨q, hq⟩ : ∃ q, q = ps[k] := ⟨_, rfl⟩
          rw [← hq] at ck hR
          have HSF := Lib.hid (Tryz.strings_HasSuffix ⟨hk.toArray⟩ ⟨q.toArray⟩ wr (by simp [ByteArray.size]; omega))
          have hr2 : R = Lib.hasSuffix hk q := hR
          simp only [] at HSF
          clear hnil hq hdr hp1 hpl hb4 hb hR hkp HD
          subst hr2
          go_wp2_with fail
          refine HSF.out.mono ?_
          rintro e w5 ⟨rfl, rfl⟩
          go_wp2_with fail
          go_ret
          exact ⟨rfl, HB5.out⟩
set_option maxRecDepth 100000 in
set_option maxHeartbeats 1000000 in
theorem ports_any (p : List UInt8) (w : World) (hE : Env w) (hp : p.length ≤ 10000) :
    Calls Tryz.prog 45 #[str p] w fun e w' => e = .returned (.tuple #[.int .i64 (portsP p).1, .int .i64 (portsP p).2]) ∧ Below w.heap.size w w' := by
  have HE := Lib.hid hE
  have hd : portsP p = if p = [42] then (1, 65535) else ((decP (Lib.cut p [45]).1 1 65535).1, (decP (if (Lib.cut p [45]).2.2 = true then (Lib.cut p [45]).2.1 else (Lib.cut p [45]).1) 1 65535).1) := rfl
  have HC := Lib.hid (fun W (hW : Env W) => cut_ru p [45] W hW (by omega))
  obtain ⟨l1, l2⟩ := cutR_len p [45]
  obtain ⟨A, B, b, hc⟩ : ∃ A B b, Lib.cut p [45] = (A, B, b) := ⟨_, _, _, rfl⟩
  rw [hc] at HC l1 l2 hd
  simp only at HC l1 l2 hd
  obtain ⟨R, hR⟩ : ∃ R, R = portsP p := ⟨_, rfl⟩
  rw [← hR] at hd ⊢
  clear hR hc hE
  by_cases h0 : p = [42]
  · rw [if_pos h0] at hd
    subst h0 hd
    clear HC
    go_enter Tryz.func45, Tryz.ntmps45
    go_wp2_with fail
    go_ret2
    exact ⟨rfl, Below.refl _ _⟩
  · rw [if_neg h0] at hd
    have h1 : (p == [42]) = false := by rw [beq_eq_false_iff_ne]; exact h0
    clear h0
    obtain ⟨x, hx⟩ : ∃ x, x = (if b = true then B else A) := ⟨_, rfl⟩
    rw [← hx] at hd
    have hxl : x.length ≤ 10000 := by rw [hx]; split <;> omega
    have HD1 := Lib.hid (fun W (hW : Env W) => dec_any A 1 65535 W hW (by omega))
    have HD2 := Lib.hid (fun W (hW : Env W) => dec_any x 1 65535 W hW (by omega))
    obtain ⟨n1, o1, hn1⟩ : ∃ n1 o1, decP A 1 65535 = (n1, o1) := ⟨_, _, rfl⟩
    obtain ⟨n2, o2, hn2⟩ : ∃ n2 o2, decP x 1 65535 = (n2, o2) := ⟨_, _, rfl⟩
    rw [hn1] at HD1 hd
    rw [hn2] at HD2 hd
    subst hd
    clear hn1 hn2 hxl l1 l2
    cases b with
    | false =>
      rw [if_neg (by simp)] at hx
      subst hx
      go_enter Tryz.func45, Tryz.ntmps45
      go_wp2_with fail
      refine (HC.out _ HE.out).mono ?_
      rintro e w1 ⟨rfl, hB⟩
      have HB := Lib.hid hB; have HE1 := Lib.hid (HE.out.below hB); clear hB
      go_wp2_with fail
      refine (HD1.out _ HE1.out).mono ?_
      rintro e w2 ⟨rfl, hB⟩
      have HB2 := Lib.hid (HB.out.trans (hB.mono HB.out.size)); have HE2 := Lib.hid (HE1.out.below hB); clear hB
      go_wp2_with fail
      refine (HD2.out _ HE2.out).mono ?_
      rintro e w3 ⟨rfl, hB⟩
      have HB3 := Lib.hid (HB2.out.trans (hB.mono HB2.out.size)); clear hB
      go_wp2_with fail
      go_ret2
      exact ⟨rfl, HB3.out⟩
    | true =>
      rw [if_pos rfl] at hx
      subst hx
      go_enter Tryz.func45, Tryz.ntmps45
      go_wp2_with fail
      refine (HC.out _ HE.out).mono ?_
      rintro e w1 ⟨rfl, hB⟩
      have HB := Lib.hid hB; have HE1 := Lib.hid (HE.out.below hB); clear hB
      go_wp2_with fail
      refine (HD1.out _ HE1.out).mono ?_
      rintro e w2 ⟨rfl, hB⟩
      have HB2 := Lib.hid (HB.out.trans (hB.mono HB.out.size)); have HE2 := Lib.hid (HE1.out.below hB); clear hB
      go_wp2_with fail
      refine (HD2.out _ HE2.out).mono ?_
      rintro e w3 ⟨rfl, hB⟩
      have HB3 := Lib.hid (HB2.out.trans (hB.mono HB2.out.size)); clear hB
      go_wp2_with fail
      go_ret2
      exact ⟨rfl, HB3.out⟩
end Go.Proofs.YthpkmdojeegleaaGreatDoor
