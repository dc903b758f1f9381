/- The reference's Encode. -/
import Derived.Test.YtbjhaihfkncdoaaRefEnc
import Derived.Test.YtbjhaihfkncdoaaNumB
import Derived.Deep.LoopGhost
namespace Go.Proofs.Ytbjhaihfkncdoaa
open Go.RowKit

theorem firsts_dig (al l : List UInt8) (q : Nat) : firsts 6 al l (q + 1) = firsts 6 al l q ++ [al.getD (digT 6 l q 6) 0] := by
  rw [firsts_succ, digT_full]
/-- How many signs of equality a slice of letters lacks. -/
def padM : Value → Nat
  | .slice _ n _ => (4 - n % 4) % 4
  | _ => 0
theorem pad_step (a j P : Nat) (h : j + (4 - (a + j) % 4) % 4 = P) (h4 : ¬ (a + j) % 4 = 0) : j + 1 + (4 - (a + (j + 1)) % 4) % 4 = P := by omega
theorem pad_done (a j P : Nat) (h : j + (4 - (a + j) % 4) % 4 = P) (h4 : (a + j) % 4 = 0) : j = P := by omega
theorem bit_u8 (x : UInt8) (r : Nat) : bits .and .u8 (bn x / 2 ^ r) 1 = ((x.toNat / 2 ^ r % 2 : Nat) : Int) := by
  have e : bn x / 2 ^ r = ((x.toNat / 2 ^ r : Nat) : Int) := by unfold bn; rw [Int.natCast_ediv, Int.natCast_pow]; rfl
  have hx : x.toNat / 2 ^ r < 256 := Nat.lt_of_le_of_lt (Nat.div_le_self _ _) x.toNat_lt
  rw [e]
  generalize x.toNat / 2 ^ r = y at hx
  show IntKind.u8.wrap ((BitVec.ofInt 8 (y : Int) &&& BitVec.ofInt 8 1).toNat : Int) = _
  have e1 : (BitVec.ofInt 8 (1 : Int)).toNat = 1 := rfl
  rw [BitVec.toNat_and, e1, BitVec.ofInt_natCast, BitVec.toNat_ofNat, Nat.mod_eq_of_lt (by omega), Nat.and_one_is_mod, IntKind.wrap_u8]
  omega
theorem bit_here (l : List UInt8) (i : Nat) (h : i < 8 * l.length) : bits .and .u8 (bn (l[i / 8]?.getD 0) / 2 ^ (7 - i % 8)) 1 = ((bitAt l i : Nat) : Int) := by
  rw [bit_u8]; unfold bitAt; rw [if_pos h, List.getD_eq_getElem?_getD]
theorem bit_le (l : List UInt8) (i : Nat) : bitAt l i < 2 := by unfold bitAt; split <;> omega
theorem bit_yes (l : List UInt8) (i : Nat) (h : i < 8 * l.length) (e : (bits .and .u8 (bn (l[i / 8]?.getD 0) / 2 ^ (7 - i % 8)) 1 == 1) = true) : bitAt l i = 1 := by
  rw [bit_here l i h, beq_iff_eq] at e; omega
theorem bit_no (l : List UInt8) (i : Nat) (h : i < 8 * l.length) (e : (bits .and .u8 (bn (l[i / 8]?.getD 0) / 2 ^ (7 - i % 8)) 1 == 1) = false) : bitAt l i = 0 := by
  rw [bit_here l i h, beq_eq_false_iff_ne] at e; have := bit_le l i; omega
theorem bit_out (l : List UInt8) (i : Nat) (h : ¬ i < 8 * l.length) : bitAt l i = 0 := by unfold bitAt; rw [if_neg h]
set_option maxRecDepth 100000 in
set_option maxHeartbeats 1000000 in
theorem refEncode_any (B : Nat) (v : Value) (l : List UInt8) (u : Bool) (w : World) (hv : Sl w B v l) (hB : B ≤ w.heap.size) (hl : l.length ≤ 100000) :
    Calls Try.prog 14 #[v, .bool u] w fun e w' => e = .returned (str (if u then encU l else encS l)) ∧ Below w.heap.size w w' := by
  obtain ⟨A, c, rfl, _, h1, h2, h3⟩ := hv
  have H3 := Lib.hid h3; clear h3
  go_enter Try.func14, Try.ntmps14
  go_wp2_with fail
  go_loopw [5, 7, 8, 9] (fun o a _ _ wr => ∃ q : Nat, a = .int .i64 ((6 * q : Nat) : Int) ∧ 6 * q ≤ 8 * l.length + 5 ∧ OwnB wr w.heap.size o (firsts 6 (alX u) l q) ∧ Below w.heap.size w wr) (fun _ a _ _ _ => 8 * l.length + 6 - (intOf a).toNat)
  case atStart => exact ⟨0, rfl, by omega, OwnB.nil _ _, Below.refl _ _⟩
  case round =>
    obtain ⟨q, rfl, hq, hO, hBl⟩ := hrel
    have HO := Lib.hid hO; clear hO
    have HBl := Lib.hid hBl; clear hBl
    by_cases hlt : 6 * q < 8 * l.length
    · obtain ⟨a, ha⟩ : ∃ a, 6 * q = a := ⟨_, rfl⟩
      rw [ha] at hlt hq ⊢
      have Ha := Lib.hid ha; clear ha
      go_wp2_with fail
      obtain ⟨wo, rfl⟩ : ∃ wo : World, wo = wr := ⟨_, rfl⟩
      go_loop [8, 9] (fun n i => ∃ t : Nat, t ≤ 6 ∧ i = .int .i64 ((a + t : Nat) : Int) ∧ n = .int .i64 (digT 6 l q t)) (fun _ i => a + 6 - (intOf i).toNat)
      case atStart => exact ⟨0, by omega, rfl, by rw [digT_zero]; rfl⟩
      case round =>
        obtain ⟨t, ht, rfl, rfl⟩ := hrel
        have hd := digT_lt 6 l q t
        obtain ⟨d, hd'⟩ : ∃ d, digT 6 l q t = d := ⟨_, rfl⟩
        rw [hd'] at hd ⊢
        have h64 : d < 64 := Nat.lt_of_lt_of_le hd (Nat.pow_le_pow_right (by decide) ht)
        have Hd := Lib.hid hd'; clear hd' hd
        by_cases h6 : t < 6
        · by_cases hin : a + t < 8 * l.length
          · obtain ⟨b, o, rfl, hb, hbs⟩ := H3.out (by omega)
            have hc := (hbs.below HBl.out (by omega)).getD (j := (a + t) / 8) (by omega)
            clear hbs
            have hs := digT_succ 6 l q t (by rw [Ha.out]; omega)
            rw [Ha.out, Hd.out] at hs
            have Hs := Lib.hid hs; clear hs
            go_wp2_with fail
            · go_round
              case rel =>
                have hbit := bit_yes l (a + t) hin (by assumption)
                exact ⟨t + 1, by omega, by go_num, by rw [Hs.out, hbit]; go_num⟩
              case measure => simp [intOf]; omega
            · go_round
              case rel =>
                have hbit := bit_no l (a + t) hin (by assumption)
                exact ⟨t + 1, by omega, by go_num, by rw [Hs.out, hbit]; go_num⟩
              case measure => simp [intOf]; omega
          · have hs := digT_succ 6 l q t (by rw [Ha.out]; omega)
            rw [Ha.out, Hd.out, bit_out l (a + t) hin] at hs
            have Hs := Lib.hid hs; clear hs
            go_wp2_with fail
            go_round
            case rel => exact ⟨t + 1, by omega, by go_num, by rw [Hs.out]; go_num⟩
            case measure => simp [intOf]; omega
        · obtain rfl : t = 6 := by omega
          go_wp2_with fail
          refine (letter_any d u h64 wo).mono ?_
          rintro e w1 ⟨rfl, rfl⟩
          go_wp2_with (at_builtin; ((with_reducible refine wpList_app ?g1 (.tmp 45) (.tmp 49) ?g2 w.heap.size u5 (firsts 6 (alX u) l q) [(alX u).getD d 0] ?g3 ?g4 wo.heap.size 0 1 1 ?g5 ?g6 ?g7 ?g8 ?g9 ?_); (case g1 => rfl); (case g2 => rfl); (case g3 => rfl); (case g4 => exact HO.out.below ((Below.refl _ _).alloc (Nat.le_refl _) _)); (case g5 => rfl); (case g6 => rfl); (case g7 => exact Bs.of_blk (Blk.newA _ _ _) 0 (fun j hj => by match j, hj with | 0, _ => rfl)); (case g8 => rw [firsts_length]; have := Ha.out; omega); (case g9 => have := HBl.out.size; simp; omega); intro v' w1 hv hg; have Hv := Lib.hid hv; clear hv; have Hg := Lib.hid ((HBl.out.alloc (by have := HBl.out.size; omega) _).trans (OwnB.belowBase (w := wo.alloc _) (HO.out.below ((Below.refl _ _).alloc (Nat.le_refl _) _)) hg (by have := HBl.out.size; simp; omega))); clear hg))
          go_roundw
          case rel => exact ⟨q + 1, by rw [Nat.mul_succ, Ha.out]; go_num, by rw [Nat.mul_succ, Ha.out]; omega, by rw [firsts_dig, Hd.out]; exact Hv.out, Hg.out⟩
          case measure => simp [intOf]; omega
    · have HT : Hid (firsts 6 (alX u) l q = letters 6 (alX u) l) := Lib.hid (by rw [letters_firsts, show many 6 l.length = q from by unfold many; omega])
      obtain ⟨t, ht⟩ : ∃ t, t = firsts 6 (alX u) l q := ⟨_, rfl⟩
      rw [← ht] at HO HT
      have htl : t.length ≤ 1000000 := by rw [ht, firsts_length]; omega
      clear ht
      obtain ⟨a, ha⟩ : ∃ a, 6 * q = a := ⟨_, rfl⟩
      rw [ha] at hlt hq ⊢
      clear ha
      cases u
      · have HR : Hid (encS l = t ++ List.replicate ((4 - t.length % 4) % 4) 61) := Lib.hid (by rw [HT.out]; rfl)
        clear HT
        go_wp2_with fail
        obtain ⟨wo, rfl⟩ : ∃ wo : World, wo = wr := ⟨_, rfl⟩
        go_loopw [5] (fun o wi => ∃ j : Nat, j + (4 - (t.length + j) % 4) % 4 = (4 - t.length % 4) % 4 ∧ OwnB wi w.heap.size o (t ++ List.replicate j 61) ∧ Below w.heap.size w wi) (fun o _ => padM o)
        case atStart => exact ⟨0, by simp, by simpa using HO.out, HBl.out⟩
        case round =>
          clear HO HBl
          obtain ⟨j, hj, hO, hBl⟩ := hrel
          obtain ⟨A', c', rfl, _, hc1, hc2, _⟩ := hO.sl
          have HO := Lib.hid hO; clear hO
          have HBl := Lib.hid hBl; clear hBl
          have HL : Hid ((t ++ List.replicate j (61 : UInt8)).length = t.length + j) := Lib.hid (by rw [List.length_append, List.length_replicate])
          have hj4 : j < 4 := by omega
          obtain ⟨m, hm⟩ : ∃ m, m = (t ++ List.replicate j (61 : UInt8)).length := ⟨_, rfl⟩
          rw [← hm] at HO HL hc1 ⊢
          have Hm := Lib.hid hm; clear hm
          have hml : m ≤ 2000000 := by rw [HL.out]; omega
          by_cases h4 : m % 4 = 0
          · have hb : (((m : Int)) % 4 == 0) = true := beq_iff_eq.2 (by omega)
            have hb2 : (((m : Int)) % 4 != 0) = false := by rw [bne_eq_false_iff_eq]; omega
            have Hj : Hid (j = (4 - t.length % 4) % 4) := Lib.hid (pad_done _ _ _ hj (by rw [← HL.out]; exact h4))
            clear hj h4
            have hcv := conv_sl HO.out.sl
            go_wp2_with fail
            go_ret
            exact ⟨by rw [HR.out, ← Hj.out]; rfl, HBl.out⟩
          · have hb : (((m : Int)) % 4 == 0) = false := beq_eq_false_iff_ne.2 (by omega)
            have hb2 : (((m : Int)) % 4 != 0) = true := by rw [bne_iff_ne]; omega
            have Hj : Hid (j + 1 + (4 - (t.length + (j + 1)) % 4) % 4 = (4 - t.length % 4) % 4) := Lib.hid (pad_step _ _ _ hj (by rw [← HL.out]; exact h4))
            have H4 := Lib.hid h4; clear hj h4
            go_wp2_with (at_builtin; ((with_reducible refine wpList_app ?g1 (.tmp 59) (.tmp 60) ?g2 w.heap.size (.slice A' m c') (t ++ List.replicate j 61) [61] ?g3 ?g4 wr.heap.size 0 1 1 ?g5 ?g6 ?g7 ?g8 ?g9 ?_); (case g1 => rfl); (case g2 => rfl); (case g3 => rfl); (case g4 => exact HO.out.below ((Below.refl _ _).alloc (Nat.le_refl _) _)); (case g5 => rfl); (case g6 => rfl); (case g7 => exact Bs.of_blk (Blk.newA _ _ _) 0 (fun j hj => by match j, hj with | 0, _ => rfl)); (case g8 => rw [← Hm.out]; omega); (case g9 => have := HBl.out.size; simp; omega); intro v' w1 hv hg; have Hv := Lib.hid hv; clear hv; have Hg := Lib.hid ((HBl.out.alloc (by have := HBl.out.size; omega) _).trans (OwnB.belowBase (w := wr.alloc _) (HO.out.below ((Below.refl _ _).alloc (Nat.le_refl _) _)) hg (by have := HBl.out.size; simp; omega))); clear hg))
            have HV2 : Hid (OwnB w1 w.heap.size v' (t ++ List.replicate (j + 1) 61)) := Lib.hid (by rw [List.replicate_succ', ← List.append_assoc]; exact Hv.out)
            obtain ⟨A2, c2, e2, _, _, _, _⟩ := HV2.out.sl
            subst e2
            go_roundw
            case rel => exact ⟨j + 1, Hj.out, HV2.out, Hg.out⟩
            case measure =>
              have e1 := HL.out
              have e2 := H4.out
              show padM (.slice A2 (t ++ List.replicate (j + 1) (61 : UInt8)).length c2) < padM (.slice A' m c')
              simp only [padM, List.length_append, List.length_replicate]
              omega
      · have HR : Hid (encU l = t) := Lib.hid (by rw [HT.out]; rfl)
        clear HT
        go_wp2_with fail
        obtain ⟨wo, rfl⟩ : ∃ wo : World, wo = wr := ⟨_, rfl⟩
        go_loopw [5] (fun o wi => OwnB wi w.heap.size o t ∧ Below w.heap.size w wi) (fun _ _ => 0)
        case atStart => exact ⟨HO.out, HBl.out⟩
        case round =>
          clear HO HBl
          obtain ⟨hO, hBl⟩ := hrel
          have hcv := conv_sl hO.sl
          clear hO
          have HBl := Lib.hid hBl; clear hBl
          go_wp2_with fail
          go_ret
          exact ⟨by rw [HR.out]; rfl, HBl.out⟩
end Go.Proofs.Ytbjhaihfkncdoaa
