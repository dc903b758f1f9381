/- The reference's Unhex. -/
import Derived.Test.YtbjhaihfkncdoaaRefDec2
namespace Go.Proofs.Ytbjhaihfkncdoaa
open Go.RowKit

/-- What the reference has of k digits. -/
def pairs (hv : List Nat) (m : Nat) : List UInt8 := (List.range m).map fun j => UInt8.ofNat (16 * hv.getD (2 * j) 0 + hv.getD (2 * j + 1) 0)
def outU (hv : List Nat) (k : Nat) : List UInt8 := pairs hv (k / 2) ++ (if k % 2 = 1 then [UInt8.ofNat (16 * hv.getD (k - 1) 0)] else [])
theorem pairs_len (hv : List Nat) (m : Nat) : (pairs hv m).length = m := by simp [pairs]
theorem outU_even (hv : List Nat) (k : Nat) (h : k % 2 = 0) : outU hv (k + 1) = outU hv k ++ [UInt8.ofNat (16 * hv.getD k 0)] := by
  unfold outU
  rw [if_pos (by omega), if_neg (by omega), List.append_nil, show (k + 1) / 2 = k / 2 by omega, show k + 1 - 1 = k by omega]
theorem outU_odd (hv : List Nat) (k : Nat) (h : k % 2 = 1) : outU hv k = pairs hv (k / 2) ++ [UInt8.ofNat (16 * hv.getD (k - 1) 0)] := by
  unfold outU; rw [if_pos h]
theorem outU_next (hv : List Nat) (k : Nat) (h : k % 2 = 1) : outU hv (k + 1) = pairs hv (k / 2) ++ [UInt8.ofNat (16 * hv.getD (k - 1) 0) + UInt8.ofNat (hv.getD k 0)] := by
  unfold outU
  rw [if_neg (by omega), List.append_nil, show (k + 1) / 2 = k / 2 + 1 by omega]
  unfold pairs
  rw [List.range_succ, List.map_append, List.map_singleton, show 2 * (k / 2) = k - 1 by omega, show k - 1 + 1 = k by omega]
  congr 2
  apply UInt8.toNat_inj.1
  rw [UInt8.toNat_add, UInt8.toNat_ofNat', UInt8.toNat_ofNat', UInt8.toNat_ofNat']
  omega
theorem outU_len (hv : List Nat) (k : Nat) : (outU hv k).length ≤ k := by
  unfold outU; rw [List.length_append, pairs_len]; split <;> simp <;> omega
theorem pairs_byts (vs : List Nat) (h : ∀ d ∈ vs, d < 16) (m : Nat) (hm : 2 * m ≤ vs.length) : pairs vs m = byts 4 vs m := by
  unfold pairs byts
  apply List.map_congr_left
  intro j hj
  rw [List.mem_range] at hj
  unfold byt
  have e : vs = vs.take (2 * j) ++ [vs.getD (2 * j) 0] ++ [vs.getD (2 * j + 1) 0] ++ vs.drop (2 * j + 2) := by
    have e1 : vs.take (2 * j + 1) = vs.take (2 * j) ++ [vs.getD (2 * j) 0] := by
      rw [List.take_succ_eq_append_getElem (by omega), List.getD_eq_getElem?_getD, List.getElem?_eq_getElem (by omega)]; rfl
    have e2 : vs.take (2 * j + 1 + 1) = vs.take (2 * j + 1) ++ [vs.getD (2 * j + 1) 0] := by
      rw [List.take_succ_eq_append_getElem (by omega), List.getD_eq_getElem?_getD, List.getElem?_eq_getElem (by omega)]; rfl
    rw [← e1, ← e2, List.take_append_drop]
  have hl : (vs.drop (2 * j + 2)).length = vs.length - (2 * j + 2) := by rw [List.length_drop]
  have h3 := numW_lt 4 (vs.drop (2 * j + 2)) (fun d hd => h d (List.mem_of_mem_drop hd))
  rw [hl] at h3
  have e4 : 4 * vs.length - 8 * (j + 1) = 4 * (vs.length - (2 * j + 2)) := by omega
  rw [e4]
  conv => rhs; rw [e]
  rw [numW_append, numW_snoc, numW_snoc, ← e, hl]
  generalize 4 * (vs.length - (2 * j + 2)) = r at *
  rw [Nat.mul_comm _ (2 ^ r), Nat.mul_add_div (Nat.two_pow_pos _), Nat.div_eq_of_lt h3, Nat.add_zero]
  apply UInt8.toNat_inj.1
  rw [UInt8.toNat_ofNat', UInt8.toNat_ofNat']
  omega
/-- What the reference has found of the digits ahead of n. -/
def Found (c : UInt8) (n : Nat) (V : Int) : Prop := ((∀ j, j < n → alH[j]? ≠ some c) ∧ V = -1) ∨ (∃ j, j < n ∧ alH[j]? = some c ∧ V = (j : Int))
theorem Found.all {c : UInt8} {V : Int} (h : Found c 16 V) : V = Lib.indexByte alH c := by
  rcases h with ⟨h, rfl⟩ | ⟨j, hj, hc, rfl⟩
  · exact (indexByte_not alH c (fun k hk => h k (by exact hk))).symm
  · have := alph_H.2 j hj
    rw [List.getD_eq_getElem?_getD, hc] at this
    exact this.symm
theorem Found.yes {c : UInt8} {n : Nat} (h : alH[n]? = some c) : Found c (n + 1) n := .inr ⟨n, by omega, h, rfl⟩
theorem Found.no {c : UInt8} {n : Nat} {V : Int} (h : Found c n V) (hn : alH[n]? ≠ some c) : Found c (n + 1) V := by
  rcases h with ⟨h, rfl⟩ | ⟨j, hj, hc, rfl⟩
  · refine .inl ⟨fun j hj => ?_, rfl⟩
    by_cases e : j < n
    · exact h j e
    · obtain rfl : j = n := by omega
      exact hn
  · exact .inr ⟨j, by omega, hc, rfl⟩
theorem OwnB.last {w : World} {base g cap n : Nat} {l : List UInt8} {x : UInt8} (h : OwnB w base (.slice (some ⟨g, 0, none⟩) n cap) (l ++ [x])) (y : UInt8) :
    OwnB (w.setCell ⟨g, l.length, none⟩ (vb y)) base (.slice (some ⟨g, 0, none⟩) n cap) (l ++ [y]) ∧ w.grownBy (w.setCell ⟨g, l.length, none⟩ (vb y)) (some g) ∧ w.cell? ⟨g, l.length, none⟩ = some (vb x) ∧ w.frozen? ⟨g, l.length, none⟩ = false := by
  unfold OwnB at h ⊢
  have hn : n = (l ++ [x]).length := by
    rcases h.2 with ⟨h', _⟩ | ⟨g', cap', cur, h', _⟩
    · simp at h'
    · injection h' with _ h2
  have h2 := hn ▸ h
  obtain ⟨s1, s2⟩ := h2.stored l.length (vb y)
  have hc := h2.cellAt l.length (by simp)
  refine ⟨?_, s2, ?_, h2.frozenAt _⟩
  · rw [hn]
    have e : ((l ++ [x]).map vb).set l.length (vb y) = (l ++ [y]).map vb := by
      rw [List.map_append, List.map_append, List.set_append_right _ _ (by simp)]; simp
    rw [e] at s1
    rw [show (l ++ [y]).length = (l ++ [x]).length by simp]
    exact s1
  · rw [hc]; simp
theorem hexdig (s : List UInt8) (n k : Nat) (h1 : n < (ByteArray.mk #[48, 49, 50, 51, 52, 53, 54, 55, 56, 57, 97, 98, 99, 100, 101, 102]).size) (h2 : k < (ByteArray.mk s.toArray).size) :
    ((((ByteArray.mk #[48, 49, 50, 51, 52, 53, 54, 55, 56, 57, 97, 98, 99, 100, 101, 102])[n]'h1).toNat : Int) == (((ByteArray.mk s.toArray)[k]'h2).toNat : Int)) = decide (alH[n]? = some (s.getD k 0)) := by
  have h16 : n < 16 := h1
  have hk : k < s.length := by simpa [ByteArray.size] using h2
  have e2 : (ByteArray.mk s.toArray)[k]'h2 = s.getD k 0 := by simp [ByteArray.getElem_eq_getElem_data, List.getD_eq_getElem?_getD, hk]
  have e1 : alH[n]? = some ((ByteArray.mk #[48, 49, 50, 51, 52, 53, 54, 55, 56, 57, 97, 98, 99, 100, 101, 102])[n]'h1) := by
    have hl : n < alH.length := h16
    rw [List.getElem?_eq_getElem hl]
    rfl
  rw [e2, e1]
  generalize (ByteArray.mk #[48, 49, 50, 51, 52, 53, 54, 55, 56, 57, 97, 98, 99, 100, 101, 102])[n]'h1 = x
  generalize s.getD k 0 = y
  by_cases h : x = y
  · subst h; simp
  · have h3 : ((x.toNat : Nat) : Int) ≠ ((y.toNat : Nat) : Int) := fun e => h (UInt8.toNat_inj.1 (by omega))
    rw [beq_eq_false_iff_ne.2 h3]
    symm
    rw [decide_eq_false_iff_not]
    intro e; injection e with e; exact h e
set_option maxRecDepth 100000 in
set_option maxHeartbeats 2000000 in
theorem refUnhex_any (s : List UInt8) (w : World) (hl : s.length ≤ 100000) :
    Calls Try.prog 22 #[str s] w fun e w' => ∃ v', e = .returned (.tuple #[v', .int .i64 (decH s).2]) ∧ OwnB w' w.heap.size v' (decH s).1 ∧ Below w.heap.size w w' := by
  by_cases h1 : s.length % 2 = 0
  · have HR0 : Hid (decH s = unS 4 alH s) := Lib.hid (by unfold decH; rw [if_pos h1])
    have hb : (((s.length : Int)) % 2 == 0) = true := beq_iff_eq.2 (by omega)
    have hb2 : (((s.length : Int)) % 2 != 0) = false := by rw [bne_eq_false_iff_eq]; omega
    have H1 := Lib.hid h1; clear h1
    obtain ⟨vs, hvs⟩ : ∃ vs, vs = s.map (pos alH) := ⟨_, rfl⟩
    have Hvl : Hid (vs.length = s.length) := Lib.hid (by rw [hvs, List.length_map])
    have Hv16 : Hid (∀ d ∈ vs, d < 16) := Lib.hid (fun d hd => by
      rw [hvs, List.mem_map] at hd
      obtain ⟨c, _, rfl⟩ := hd
      exact pos_lt alH c (by decide))
    have Hvs := Lib.hid hvs; clear hvs
    go_enter Try.func22, Try.ntmps22
    go_wp2_with fail
    go_loopw [4, 5, 6, 7] (fun o i _ _ wr => ∃ k : Nat, k ≤ s.length ∧ i = .int .i64 (k : Int) ∧ (∀ c ∈ s.take k, 0 ≤ Lib.indexByte alH c) ∧ OwnB wr w.heap.size o (outU vs k) ∧ Below w.heap.size w wr) (fun _ i _ _ _ => s.length - (intOf i).toNat)
    case atStart => exact ⟨0, by omega, rfl, by simp, OwnB.nil _ _, Below.refl _ _⟩
    case round =>
      obtain ⟨k, hk, rfl, hbad, hO, hBl⟩ := hrel
      have HO := Lib.hid hO; clear hO
      have HBl := Lib.hid hBl; clear hBl
      have Hbad := Lib.hid hbad; clear hbad
      by_cases hlt : k < s.length
      · obtain ⟨c, hc⟩ : ∃ c, c = s.getD k 0 := ⟨_, rfl⟩
        have Htk : Hid (s.take (k + 1) = s.take k ++ [c]) := Lib.hid (by rw [List.take_succ_eq_append_getElem hlt, hc, List.getD_eq_getElem?_getD, List.getElem?_eq_getElem hlt]; rfl)
        have Hmem : Hid (c ∈ s) := Lib.hid (by rw [hc, List.getD_eq_getElem?_getD, List.getElem?_eq_getElem hlt]; exact List.getElem_mem _)
        have Hvk : Hid (vs.getD k 0 = pos alH c) := Lib.hid (by rw [Hvs.out, hc]; simp [List.getD_eq_getElem?_getD, hlt])
        have Hc := Lib.hid hc; clear hc
        go_wp2_with fail
        obtain ⟨wo, rfl⟩ : ∃ wo : World, wo = wr := ⟨_, rfl⟩
        go_loopw [6, 7] (fun v i wi => ∃ (n : Nat) (V : Int), n ≤ 16 ∧ i = .int .i64 (n : Int) ∧ v = .int .i64 V ∧ Found c n V ∧ Below wo.heap.size wo wi) (fun _ i _ => 16 - (intOf i).toNat)
        case atStart => exact ⟨0, -1, by omega, rfl, rfl, .inl ⟨fun j hj => by omega, rfl⟩, Below.refl _ _⟩
        case round =>
          obtain ⟨n, V, hn, rfl, rfl, hF, hBi⟩ := hrel
          have HF := Lib.hid hF; clear hF
          have HBi := Lib.hid hBi; clear hBi
          by_cases h16 : n < 16
          · go_wp2_with fail
            go_quiet (fail)
            rw [hexdig, ← Hc.out]
            by_cases hx : alH[n]? = some c
            · rw [decide_eq_true hx]
              have HF2 : Hid (Found c (n + 1) n) := Lib.hid (Found.yes hx)
              clear hx
              go_wp2_with fail
              go_roundw
              case rel => exact ⟨n + 1, n, by omega, by go_num, rfl, HF2.out, below_drewN HBi.out nq⟩
              case measure => simp [intOf]; omega
            · rw [decide_eq_false hx]
              have HF2 : Hid (Found c (n + 1) V) := Lib.hid (HF.out.no hx)
              clear hx
              go_wp2_with fail
              go_roundw
              case rel => exact ⟨n + 1, V, by omega, by go_num, rfl, HF2.out, below_drewN HBi.out nq⟩
              case measure => simp [intOf]; omega
          · obtain rfl : n = 16 := by omega
            rw [show (((16 : Nat) : Int)) = (16 : Int) from rfl]
            have HV : Hid (V = Lib.indexByte alH c) := Lib.hid HF.out.all
            have HO2 := Lib.hid (HO.out.below HBi.out)
            have HB2 := Lib.hid (HBl.out.trans (HBi.out.mono HBl.out.size))
            clear HF HO HBl
            by_cases hneg : V < 0
            · have HR : Hid (unS 4 alH s = ([], 5)) := Lib.hid (unS_bad 4 alH s ⟨c, Hmem.out, by rw [← HV.out]; exact hneg⟩)
              go_wp2_with fail
              go_ret2
              exact ⟨.slice none 0 0, by rw [HR0.out, HR.out]; rfl, by rw [HR0.out, HR.out]; exact OwnB.nil _ _, HB2.out⟩
            · obtain ⟨d, rfl⟩ := Int.eq_ofNat_of_zero_le (by omega : 0 ≤ V)
              have Hd : Hid (vs.getD k 0 = d) := Lib.hid (by rw [Hvk.out]; unfold pos; rw [← HV.out]; rfl)
              have hd16 : d < 16 := by
                have := pos_lt alH c (by decide)
                rw [← Hvk.out, Hd.out] at this; exact this
              have Hbad' : Hid (∀ c ∈ s.take (k + 1), 0 ≤ Lib.indexByte alH c) := Lib.hid (fun x hx => by
                rw [Htk.out, List.mem_append, List.mem_singleton] at hx
                rcases hx with hx | rfl
                · exact Hbad.out x hx
                · rw [← HV.out]; omega)
              have hlen := outU_len vs k
              by_cases hev : k % 2 = 0
              · have hb3 : (((k : Int)) % 2 == 0) = true := beq_iff_eq.2 (by omega)
                have HN : Hid (outU vs (k + 1) = outU vs k ++ [UInt8.ofNat (16 * d)]) := Lib.hid (by rw [outU_even vs k hev, Hd.out])
                have Hv : Hid (Value.int .u8 (16 * (d : Int)) = vb (UInt8.ofNat (16 * d))) := Lib.hid (by
                  have e : bn (UInt8.ofNat (16 * d)) = 16 * (d : Int) := by unfold bn; rw [UInt8.toNat_ofNat']; omega
                  rw [vb, e])
                clear hev
                go_wp2_with (at_builtin; ((with_reducible refine wpList_app ?g1 (.tmp 34) (.tmp 38) ?g2 w.heap.size u4 (outU vs k) [UInt8.ofNat (16 * d)] ?g3 ?g4 wr.heap.size 0 1 1 ?g5 ?g6 ?g7 ?g8 ?g9 ?_); (case g1 => rfl); (case g2 => rfl); (case g3 => rfl); (case g4 => exact HO2.out.below ((Below.refl _ _).alloc (Nat.le_refl _) _)); (case g5 => rfl); (case g6 => rfl); (case g7 => exact Bs.of_blk (Blk.newA _ _ _) 0 (fun j hj => by match j, hj with | 0, _ => exact congrArg some Hv.out)); (case g8 => omega); (case g9 => have := HB2.out.size; simp; omega); intro v' w1 hv hg; have Hv1 := Lib.hid hv; clear hv; have Hg := Lib.hid ((HB2.out.alloc (by have := HB2.out.size; omega) _).trans (OwnB.belowBase (w := wr.alloc _) (HO2.out.below ((Below.refl _ _).alloc (Nat.le_refl _) _)) hg (by have := HB2.out.size; simp; omega))); clear hg))
                exact ⟨⟨k + 1, by omega, by go_num, Hbad'.out, by rw [HN.out]; exact Hv1.out, Hg.out⟩, by simp [intOf]; omega⟩
              · have hb3 : (((k : Int)) % 2 == 0) = false := beq_eq_false_iff_ne.2 (by omega)
                have hod : k % 2 = 1 := by omega
                obtain ⟨l, hl'⟩ : ∃ l, l = pairs vs (k / 2) := ⟨_, rfl⟩
                obtain ⟨x, hx⟩ : ∃ x, x = UInt8.ofNat (16 * vs.getD (k - 1) 0) := ⟨_, rfl⟩
                have HN : Hid (outU vs (k + 1) = l ++ [x + UInt8.ofNat d]) := Lib.hid (by rw [outU_next vs k hod, hl', hx, Hd.out])
                have HOl := HO2.out
                rw [outU_odd vs k hod, ← hl', ← hx] at HOl
                have hll : l.length ≤ 100000 := by rw [hl', pairs_len]; omega
                clear hl' hx hev hod hlen
                obtain ⟨g, cap, rfl, hg1, hg2, hcap1, hcap2, _, _⟩ := HOl.form (by simp)
                obtain ⟨o1, o2, o3, o4⟩ := HOl.last (x + UInt8.ofNat d)
                have O1 := Lib.hid o1; clear o1
                have O2 := Lib.hid (HOl.belowBase o2 HB2.out.size); clear o2
                have HLen : Hid ((l ++ [x]).length = l.length + 1) := Lib.hid (by simp)
                obtain ⟨m, hm⟩ : ∃ m, m = (l ++ [x]).length := ⟨_, rfl⟩
                rw [← hm] at HLen hcap1 O1 ⊢
                have hml : m ≤ 100001 := by rw [HLen.out]; omega
                have hm1 : 1 ≤ m := by rw [HLen.out]; omega
                have hmi : ((m : Int) - 1).toNat = l.length := by rw [HLen.out]; omega
                unfold maxLen at hcap2
                clear hm HOl HO2
                have HE : Hid (Value.int .u8 ((bn x + (d : Int)) % 256) = vb (x + UInt8.ofNat d)) := Lib.hid (by
                  have e : bn (x + UInt8.ofNat d) = (bn x + (d : Int)) % 256 := by unfold bn; rw [UInt8.toNat_add, UInt8.toNat_ofNat']; omega
                  rw [vb, e])
                go_wp2_with fail
                rw [HE.out]
                exact ⟨⟨k + 1, by omega, by go_num, Hbad'.out, by rw [HN.out]; exact O1.out, HB2.out.trans O2.out⟩, by simp [intOf]; omega⟩
      · obtain rfl : k = s.length := by omega
        rw [List.take_length] at Hbad
        have HE : Hid (outU vs s.length = byts 4 vs (4 * s.length / 8)) := Lib.hid (by
          have h1 := H1.out
          unfold outU
          rw [if_neg (by omega), List.append_nil, pairs_byts vs Hv16.out _ (by rw [Hvl.out]; omega)]
          congr 1
          omega)
        have HR : Hid (unS 4 alH s = (byts 4 vs (4 * s.length / 8), 0)) := Lib.hid (unS_ok 4 alH s vs Hvs.out Hbad.out (by
          have h1 := H1.out
          unfold unused
          rw [Hvl.out, show 4 * s.length % 8 = 0 by omega, Nat.pow_zero, Nat.mod_one]))
        go_wp2_with fail
        go_ret2
        exact ⟨u4, by rw [HR0.out, HR.out]; rfl, by rw [HR0.out, HR.out, ← HE.out]; exact HO.out, HBl.out⟩
  · have HR : Hid (decH s = ([], 2)) := Lib.hid (by unfold decH; rw [if_neg h1])
    have hb : (((s.length : Int)) % 2 == 0) = false := beq_eq_false_iff_ne.2 (by omega)
    have hb2 : (((s.length : Int)) % 2 != 0) = true := by rw [bne_iff_ne]; omega
    clear h1
    go_enter Try.func22, Try.ntmps22
    go_wp2_with fail
    go_ret2
    exact ⟨.slice none 0 0, by rw [HR.out]; rfl, by rw [HR.out]; exact OwnB.nil _ _, Below.refl _ _⟩
end Go.Proofs.Ytbjhaihfkncdoaa
