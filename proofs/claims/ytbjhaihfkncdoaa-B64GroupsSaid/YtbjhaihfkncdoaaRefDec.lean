/- The reference's Decode. -/
import Derived.Test.YtbjhaihfkncdoaaNumber
import Derived.Test.YtbjhaihfkncdoaaBitsW
import Derived.Deep.DeepCutAuto
import Derived.Deep.RegionLaw
namespace Go.Proofs.Ytbjhaihfkncdoaa
open Go.RowKit

/-- How many letters stand ahead of the signs of equality. -/
def refN (u : Bool) (s : List UInt8) : Nat := if u then s.length else (strip 2 s).length
theorem trim_last (s : List UInt8) : Lib.trimSuffix s [61] = if s.length ≠ 0 ∧ s[s.length - 1]? = some 61 then s.take (s.length - 1) else s := by
  unfold Lib.trimSuffix Lib.hasSuffix
  by_cases h : s.length ≠ 0 ∧ s[s.length - 1]? = some 61
  · rw [if_pos h, if_pos]
    · rfl
    · rw [List.isSuffixOf_iff_suffix]
      refine ⟨s.take (s.length - 1), ?_⟩
      have hlt : s.length - 1 < s.length := by omega
      have e := List.take_succ_eq_append_getElem hlt
      rw [show s.length - 1 + 1 = s.length by omega, List.take_length] at e
      have h2 := h.2
      rw [List.getElem?_eq_getElem hlt] at h2
      injection h2 with h2
      rw [h2] at e
      exact e.symm
  · rw [if_neg h, if_neg]
    intro hs
    rw [List.isSuffixOf_iff_suffix] at hs
    obtain ⟨y, hy⟩ := hs
    apply h
    rw [← hy]
    simp
theorem byte61 (s : List UInt8) (i : Nat) (h : i < (ByteArray.mk s.toArray).size) : ((((ByteArray.mk s.toArray)[i]'h).toNat : Int) == 61) = decide (s[i]? = some 61) := by
  have hi : i < s.length := by simpa [ByteArray.size] using h
  have e : (ByteArray.mk s.toArray)[i]'h = s[i] := by simp [ByteArray.getElem_eq_getElem_data]
  rw [e, List.getElem?_eq_getElem hi]
  by_cases h2 : s[i] = 61
  · rw [h2]; decide
  · have h3 : ((s[i].toNat : Nat) : Int) ≠ 61 := fun hh => h2 (UInt8.toNat_inj.1 (by show s[i].toNat = 61; omega))
    rw [beq_eq_false_iff_ne.2 h3]
    symm
    rw [decide_eq_false_iff_not]
    intro hh; injection hh with hh; exact h2 hh
theorem refN_0 (u : Bool) (s : List UInt8) (h : (!u && decide (s.length ≠ 0 ∧ s[s.length - 1]? = some 61)) = false) : refN u s = s.length := by
  unfold refN
  cases u
  · simp only [Bool.not_false, Bool.true_and, decide_eq_false_iff_not] at h
    have e : Lib.trimSuffix s [61] = s := by rw [trim_last, if_neg h]
    rw [if_neg (by decide)]
    show (Lib.trimSuffix (Lib.trimSuffix s [61]) [61]).length = _
    rw [e, e]
  · rfl
theorem refN_12 (u : Bool) (s : List UInt8) (h : (!u && decide (s.length ≠ 0 ∧ s[s.length - 1]? = some 61)) = true) (h2 : 2 ≤ s.length) : refN u s = if s[s.length - 2]? = some 61 then s.length - 2 else s.length - 1 := by
  unfold refN
  cases u
  · simp only [Bool.not_false, Bool.true_and, decide_eq_true_eq] at h
    rw [if_neg (by decide)]
    show (Lib.trimSuffix (Lib.trimSuffix s [61]) [61]).length = _
    rw [trim_last s, if_pos h, trim_last]
    have hl : (s.take (s.length - 1)).length = s.length - 1 := by rw [List.length_take]; omega
    have e : (s.take (s.length - 1))[s.length - 2]? = s[s.length - 2]? := by rw [List.getElem?_take, if_pos (by omega)]
    rw [hl, show s.length - 1 - 1 = s.length - 2 by omega, e]
    by_cases h3 : s[s.length - 2]? = some 61
    · rw [if_pos h3, if_pos (And.intro (by omega) h3), List.length_take, hl]; omega
    · rw [if_neg h3, if_neg (fun hh => h3 hh.2), hl]
  · simp at h
theorem refN_mod (u : Bool) (s : List UInt8) (h4 : if u then s.length % 4 ≠ 1 else s.length % 4 = 0) : refN u s % 4 ≠ 1 := by
  cases hb : (!u && decide (s.length ≠ 0 ∧ s[s.length - 1]? = some 61))
  · rw [refN_0 u s hb]; cases u <;> simp at h4 <;> omega
  · cases u
    · simp at h4
      have h := hb
      simp only [Bool.not_false, Bool.true_and, decide_eq_true_eq] at h
      rw [refN_12 false s hb (by omega)]
      split <;> omega
    · simp at hb
/-- A slice's length. -/
def lenM : Value → Nat
  | .slice _ n _ => n
  | _ => 0
theorem u8_two (x : UInt8) : bn x * 2 % 256 = bn (x * 2) := by unfold bn; rw [UInt8.toNat_mul]; simp
theorem u8_add (x y : UInt8) : (bn x + bn y) % 256 = bn (x + y) := by unfold bn; rw [UInt8.toNat_add]; simp
/-- append of bytes as one step of a region that draws. -/
theorem step_app {ops : Array Oper} {o : Oper} {a : Act} {w : World} {K : Act → World → Prop} {Q : Exit → Act → World → Prop} {E : Prop}
    (hgd : o.guard = none) (s x : Operand) (ho : o.op = .call { callee := .builtin .append, args := #[s, x], argTypes := #[22, 22] })
    (base : Nat) (v : Value) (l ms : List UInt8) (hs : a.eval s = v) (hown : OwnB w base v l) (sb so m c : Nat) (hx : a.eval x = .slice (some ⟨sb, so, none⟩) m c) (hm : ms.length = m) (hsrc : Bs w sb so ms)
    (hlen : l.length + m ≤ 1099511627776) (hbase : base ≤ w.heap.size)
    (h : ∀ v' w', OwnB w' base v' (l ++ ms) → w.grownBy w' v.ownBlock → K (a.put o.dst v') w') : if Region.wanted o (yielded ops a.tmps) = true then Oper.wp Try.prog o a w K Q else E := by
  rw [if_pos (show Region.wanted o (yielded ops a.tmps) = true by simp [Region.wanted, hgd])]
  obtain ⟨i0, hi, hz0, hz1, hz2⟩ := info_parts info_b
  refine wp_append_own w s x 22 ho base 5 i0 (.int .u8 0) 1 1 Try.underlying22 hi hz0 hz1 hz2 rfl (by decide) v l.length (l.map vb) hs hown ⟨sb, so, none⟩ m c (ms.map vb) hx (by simp [hm]) ?_ ?_ (by unfold maxLen; omega) (by omega) hbase ?_
  · intro j u hu
    rw [Addr.add_mid]
    rw [List.getElem?_map] at hu
    by_cases hj : j < ms.length
    · rw [List.getElem?_eq_getElem hj] at hu; cases hu; exact hsrc j hj
    · rw [List.getElem?_eq_none (by omega)] at hu; cases hu
  · intro u hu; rw [List.mem_map] at hu; obtain ⟨b, _, rfl⟩ := hu; rfl
  · intro v' w' h1 h2 _
    refine h v' w' ?_ h2
    unfold OwnB
    rw [List.length_append, hm, List.map_append]
    exact h1
/-- What stands behind the first k bytes. -/
theorem slice_from (A : Option Addr) (n c k : Nat) (hk : k ≤ n) (hn : n ≤ c) : ∃ V, (∀ w, (Instr.slice 22 (.slice A n c) (some (.int .i64 (k : Int))) none none).run Try.prog w = .ok V w) ∧
    ∀ w B l, Sl w B (.slice A n c) l → l.length = n → Sl w B V (l.drop k) := by
  refine ⟨sliced A k n c 1, fun w => ?_, fun w B l h hl => ?_⟩
  · rw [run_slice_l w 22 A n c Try.underlying22 .i64 k (by omega) (by omega)]
    simp [go_sem]
  · obtain ⟨A', c', e, h0, h1, h2, h3⟩ := h
    injection e with e1 e2 e3
    subst e1; subst e3
    have e4 : (l.drop k).length = n - k := by rw [List.length_drop]; omega
    unfold sliced
    refine ⟨_, c - k, by rw [e4], ?_, by omega, by omega, fun hp => ?_⟩
    · intro hz
      by_cases hck : c = k
      · omega
      · rw [if_neg hck] at hz
        have := h0 (by simpa using hz)
        omega
    · obtain ⟨b, o, rfl, hb, hbs⟩ := h3 (by omega)
      rw [if_neg (by omega)]
      refine ⟨b, o + k, ?_, hb, hbs.drop k⟩
      simp [Addr.add_mid]
theorem i64_bit (d r : Nat) (h : d < 64) : bits .and .i64 ((d : Int) / 2 ^ r) 1 = ((d / 2 ^ r % 2 : Nat) : Int) := by
  have e : (d : Int) / 2 ^ r = ((d / 2 ^ r : Nat) : Int) := by rw [Int.natCast_ediv, Int.natCast_pow]; rfl
  have hx : d / 2 ^ r < 64 := Nat.lt_of_le_of_lt (Nat.div_le_self _ _) h
  rw [e]
  generalize d / 2 ^ r = y at hx
  show IntKind.i64.wrap ((BitVec.ofInt 64 (y : Int) &&& BitVec.ofInt 64 1).toNat : Int) = _
  have e1 : (BitVec.ofInt 64 (1 : Int)).toNat = 1 := rfl
  rw [BitVec.toNat_and, e1, BitVec.ofInt_natCast, BitVec.toNat_ofNat, Nat.mod_eq_of_lt (by omega), Nat.and_one_is_mod, IntKind.wrap_i64]
  omega
theorem bits6_take (d t : Nat) (ht : t < 6) : (bits6 d).take (t + 1) = (bits6 d).take t ++ [UInt8.ofNat (d / 2 ^ (5 - t) % 2)] := by
  rw [List.take_succ_eq_append_getElem (by rw [bits6_len]; exact ht)]
  simp [bits6]
theorem char_str (s : List UInt8) (k : Nat) (h : k < (ByteArray.mk s.toArray).size) : Value.int .u8 ((((ByteArray.mk s.toArray)[k]'h).toNat : Nat) : Int) = vb (s.getD k 0) := by
  have hi : k < s.length := by simpa [ByteArray.size] using h
  simp [ByteArray.getElem_eq_getElem_data, List.getD_eq_getElem?_getD, hi, bn]
attribute [local go_sem] u8_two u8_add
set_option maxRecDepth 100000 in
set_option maxHeartbeats 2000000 in
theorem refDecode_any (s : List UInt8) (u : Bool) (w : World) (hl : s.length ≤ 100000) (h4 : if u then s.length % 4 ≠ 1 else s.length % 4 = 0) :
    Calls Try.prog 21 #[str s, .bool u] w fun e w' => ∃ v', e = .returned (.tuple #[v', .int .i64 (unS 6 (alX u) (s.take (refN u s))).2]) ∧ OwnB w' w.heap.size v' (unS 6 (alX u) (s.take (refN u s))).1 ∧ Below w.heap.size w w' := by
  obtain ⟨n, hn⟩ : ∃ n, refN u s = n := ⟨_, rfl⟩
  have hnl : n ≤ s.length := by rw [← hn]; unfold refN; split; exact Nat.le_refl _; exact strip_le 2 s
  rw [hn]
  have Hn := Lib.hid hn; clear hn
  have H4 := Lib.hid h4; clear h4
  obtain ⟨p, hp⟩ : ∃ p, p = s.take n := ⟨_, rfl⟩
  rw [← hp]
  obtain ⟨al, hal⟩ : ∃ al, al = alX u := ⟨_, rfl⟩
  rw [← hal]
  have hall : al.length = 64 := by rw [hal]; exact alX_len u
  obtain ⟨vs, hvs⟩ : ∃ vs, vs = p.map (pos al) := ⟨_, rfl⟩
  have Hvl : Hid (vs.length = n) := Lib.hid (by rw [hvs, List.length_map, hp, List.length_take]; omega)
  have Hpl : Hid (p.length = n) := Lib.hid (by rw [hp, List.length_take]; omega)
  have Hv64 : Hid (∀ d ∈ vs, d < 64) := Lib.hid (fun d hd => by
    rw [hvs, List.mem_map] at hd
    obtain ⟨c, _, rfl⟩ := hd
    have := pos_lt al c (by rw [hall]; omega)
    rw [hall] at this; exact this)
  have Hp := Lib.hid hp; clear hp
  have Hal := Lib.hid hal; clear hal
  have Hall := Lib.hid hall; clear hall
  have Hvs := Lib.hid hvs; clear hvs
  go_enter Try.func21, Try.ntmps21
  go_upto_region 1 with fail
  go_cut [33] (fun s33 wx => w = wx ∧ s33 = .bool false)
  case first =>
    cases u
    · have hb : (((s.length : Int)) % 4 == 0) = true := beq_iff_eq.2 (by have := H4.out; simp at this; omega)
      have hb2 : (((s.length : Int)) % 4 != 0) = false := by rw [bne_eq_false_iff_eq]; have := H4.out; simp at this; omega
      go_wp2_with fail
      go_meet
      exact ⟨rfl, rfl⟩
    · have hb : (((s.length : Int)) % 4 == 1) = false := beq_eq_false_iff_ne.2 (by have := H4.out; simp at this; omega)
      go_wp2_with fail
      go_meet
      exact ⟨rfl, rfl⟩
  case rest =>
    obtain ⟨rfl, rfl⟩ := hcut
    go_upto_region 4 with fail
    go_cut [48] (fun s48 wx => w = wx ∧ s48 = .bool (!u && decide (s.length ≠ 0 ∧ s[s.length - 1]? = some 61)))
    case first =>
      cases u
      · by_cases h0 : s.length = 0
        · go_wp2_with fail
          go_meet
          exact ⟨rfl, by simp [h0]⟩
        · have h1 : 1 ≤ s.length := by omega
          go_wp2_with fail
          go_meet
          case rel =>
            refine ⟨rfl, ?_⟩
            rw [byte61]
            simp [h0]
      · go_wp2_with fail
        go_meet
        exact ⟨rfl, rfl⟩
    case rest =>
      obtain ⟨rfl, hs48⟩ := hcut
      obtain ⟨b, hb⟩ : ∃ b, (!u && decide (s.length ≠ 0 ∧ s[s.length - 1]? = some 61)) = b := ⟨_, rfl⟩
      rw [hb] at hs48
      subst hs48
      have Hb := Lib.hid hb; clear hb
      go_upto_if 48 with fail
      go_cut [6] (fun s6 wx => w = wx ∧ s6 = .int .i64 (n : Int))
      case first =>
        cases b
        · have HN : Hid (n = s.length) := Lib.hid (by rw [← Hn.out]; exact refN_0 u s Hb.out)
          go_wp2_with fail
          go_meet
          case rel => exact ⟨rfl, by rw [HN.out]⟩
        · have h2 : 2 ≤ s.length := by
            have h := Hb.out
            cases u
            · simp only [Bool.not_false, Bool.true_and, decide_eq_true_eq] at h
              have h4 := H4.out
              simp at h4
              omega
            · simp at h
          have hN := refN_12 u s Hb.out h2
          have HN := Lib.hid hN; clear hN
          have h3 : 1 ≤ (s.length : Int) - 1 := by omega
          go_wp2_with fail
          · go_meet
            case rel =>
              have h9 : ((((ByteArray.mk s.toArray)[s.length - 1 - 1]'(by show _ < s.toArray.size; simp; omega)).toNat : Int) == 61) = true := by assumption
              rw [byte61, decide_eq_true_eq, show s.length - 1 - 1 = s.length - 2 by omega] at h9
              have := HN.out
              rw [if_pos h9, Hn.out] at this
              exact ⟨rfl, congrArg (Value.int .i64) (by omega)⟩
          · go_meet
            case rel =>
              have h9 : ((((ByteArray.mk s.toArray)[s.length - 1 - 1]'(by show _ < s.toArray.size; simp; omega)).toNat : Int) == 61) = false := by assumption
              rw [byte61, decide_eq_false_iff_not, show s.length - 1 - 1 = s.length - 2 by omega] at h9
              have := HN.out
              rw [if_neg h9, Hn.out] at this
              exact ⟨rfl, congrArg (Value.int .i64) (by omega)⟩
      case rest =>
        obtain ⟨rfl, rfl⟩ := hcut
        have hn1 : (((n : Int)) % 4 == 1) = false := beq_eq_false_iff_ne.2 (by have := refN_mod u s H4.out; rw [Hn.out] at this; omega)
        go_wp2_with fail
        clear Hb hn1 H4
        go_loopw [7, 8, 9, 10] (fun x i _ _ wr => ∃ k : Nat, k ≤ n ∧ i = .int .i64 (k : Int) ∧ (∀ c ∈ p.take k, 0 ≤ Lib.indexByte al c) ∧ OwnB wr w.heap.size x (bitsW (vs.take k)) ∧ Below w.heap.size w wr) (fun _ i _ _ _ => n - (intOf i).toNat)
        case atStart => exact ⟨0, by omega, rfl, by simp, OwnB.nil _ _, Below.refl _ _⟩
        case round =>
          obtain ⟨k, hk, rfl, hbad, hO, hBl⟩ := hrel
          have HO := Lib.hid hO; clear hO
          have HBl := Lib.hid hBl; clear hBl
          have Hbad := Lib.hid hbad; clear hbad
          by_cases hlt : k < n
          · have hkl : k < s.length := by omega
            have Hc : Hid (s.getD k 0 = p.getD k 0) := Lib.hid (by rw [Hp.out]; simp [List.getD_eq_getElem?_getD, hlt])
            have Htk : Hid (p.take (k + 1) = p.take k ++ [p.getD k 0]) := Lib.hid (by rw [List.take_succ_eq_append_getElem (by rw [Hpl.out]; exact hlt), List.getD_eq_getElem?_getD, List.getElem?_eq_getElem (by rw [Hpl.out]; exact hlt)]; rfl)
            have Htv : Hid (vs.take (k + 1) = vs.take k ++ [pos al (p.getD k 0)]) := Lib.hid (by rw [Hvs.out, ← List.map_take, ← List.map_take, Htk.out, List.map_append]; rfl)
            have Hmem : Hid (p.getD k 0 ∈ p) := Lib.hid (by rw [List.getD_eq_getElem?_getD, List.getElem?_eq_getElem (by rw [Hpl.out]; exact hlt)]; exact List.getElem_mem _)
            have Hp64 : Hid (pos al (p.getD k 0) < 64) := Lib.hid (by have := pos_lt al (p.getD k 0) (by rw [Hall.out]; omega); rw [Hall.out] at this; exact this)
            go_wp2_with fail
            rw [char_str, Hc.out]
            refine (number_any _ u _).mono ?_
            rintro e w1 ⟨rfl, rfl⟩
            rw [← Hal.out]
            have Hpos : Hid (pos al (p.getD k 0) = (Lib.indexByte al (p.getD k 0)).toNat) := Lib.hid rfl
            obtain ⟨D, hD⟩ : ∃ D, Lib.indexByte al (p.getD k 0) = D := ⟨_, rfl⟩
            rw [hD]
            have HD := Lib.hid hD; clear hD
            by_cases hneg : D < 0
            · have HR : Hid (unS 6 al p = ([], 5)) := Lib.hid (unS_bad 6 al p ⟨_, Hmem.out, by rw [HD.out]; exact hneg⟩)
              go_wp2_with fail
              go_ret2
              exact ⟨.slice none 0 0, by rw [HR.out]; rfl, by rw [HR.out]; exact OwnB.nil _ _, HBl.out⟩
            · obtain ⟨d, rfl⟩ := Int.eq_ofNat_of_zero_le (by omega : 0 ≤ D)
              have Hd : Hid (pos al (p.getD k 0) = d) := Lib.hid (by rw [Hpos.out, HD.out]; rfl)
              have hd64 : d < 64 := by rw [← Hd.out]; exact Hp64.out
              have Hbad' : Hid (∀ c ∈ p.take (k + 1), 0 ≤ Lib.indexByte al c) := Lib.hid (fun c hc => by
                rw [Htk.out, List.mem_append, List.mem_singleton] at hc
                rcases hc with hc | rfl
                · exact Hbad.out c hc
                · rw [HD.out]; omega)
              have hdneg : decide (((d : Nat) : Int) < 0) = false := by simp
              go_wp2_with fail
              obtain ⟨wo, rfl⟩ : ∃ wo : World, wo = wr := ⟨_, rfl⟩
              go_loopw [7, 10] (fun x i wi => ∃ (t : Nat) (K : Int), t ≤ 6 ∧ K = 5 - (t : Int) ∧ i = .int .i64 K ∧ OwnB wi w.heap.size x (bitsW (vs.take k) ++ (bits6 d).take t) ∧ Below w.heap.size w wi) (fun _ i _ => (intOf i + 1).toNat)
              case atStart => exact ⟨0, 5, by omega, by omega, rfl, by simpa using HO.out, HBl.out⟩
              case round =>
                clear HO HBl
                obtain ⟨t, K, ht, hK, rfl, hO, hBl⟩ := hrel
                have HO := Lib.hid hO; clear hO
                have HBl := Lib.hid hBl; clear hBl
                by_cases h6 : t < 6
                · obtain ⟨r, rfl⟩ := Int.eq_ofNat_of_zero_le (by omega : 0 ≤ K)
                  have Hr : Hid (5 - t = r) := Lib.hid (by omega)
                  have hr5 : r ≤ 5 := by omega
                  clear hK
                  have hbit := i64_bit d r hd64
                  obtain ⟨y, hy⟩ : ∃ y, y = d / 2 ^ r % 2 := ⟨_, rfl⟩
                  rw [← hy] at hbit
                  have hy2 : y < 2 := by rw [hy]; omega
                  have Hy : Hid ((bits6 d).take (t + 1) = (bits6 d).take t ++ [UInt8.ofNat y]) := Lib.hid (by rw [bits6_take d t h6, Hr.out, hy])
                  clear hy
                  have Hv : Hid (Value.int .u8 ((y : Nat) : Int) = vb (UInt8.ofNat y)) := Lib.hid (by
                    have e : bn (UInt8.ofNat y) = ((y : Nat) : Int) := by unfold bn; rw [UInt8.toNat_ofNat']; omega
                    rw [vb, e])
                  have HLen : Hid ((bitsW (vs.take k) ++ (bits6 d).take t).length ≤ 1000000) := Lib.hid (by rw [List.length_append, bitsW_len, List.length_take, List.length_take, bits6_len]; omega)
                  go_wp2_with (at_builtin; ((with_reducible refine wpList_app ?g1 (.tmp 77) (.tmp 83) ?g2 w.heap.size u7 (bitsW (vs.take k) ++ (bits6 d).take t) [UInt8.ofNat y] ?g3 ?g4 wr.heap.size 0 1 1 ?g5 ?g6 ?g7 ?g8 ?g9 ?_); (case g1 => rfl); (case g2 => rfl); (case g3 => rfl); (case g4 => exact HO.out.below ((Below.refl _ _).alloc (Nat.le_refl _) _)); (case g5 => rfl); (case g6 => rfl); (case g7 => exact Bs.of_blk (Blk.newA _ _ _) 0 (fun j hj => by match j, hj with | 0, _ => exact congrArg some Hv.out)); (case g8 => have := HLen.out; omega); (case g9 => have := HBl.out.size; simp; omega); intro v' w1 hv hg; have Hv1 := Lib.hid hv; clear hv; have Hg := Lib.hid ((HBl.out.alloc (by have := HBl.out.size; omega) _).trans (OwnB.belowBase (w := wr.alloc _) (HO.out.below ((Below.refl _ _).alloc (Nat.le_refl _) _)) hg (by have := HBl.out.size; simp; omega))); clear hg))
                  go_roundw
                  case rel => exact ⟨t + 1, (r : Int) - 1, by omega, by have := Hr.out; omega, rfl, by rw [Hy.out, ← List.append_assoc]; exact Hv1.out, Hg.out⟩
                  case measure => simp [intOf]
                · obtain rfl : t = 6 := by omega
                  have HO6 : Hid (OwnB wr w.heap.size u7 (bitsW (vs.take (k + 1)))) := Lib.hid (by
                    have := HO.out
                    rw [List.take_of_length_le (l := bits6 d) (by rw [bits6_len]; exact Nat.le_refl _)] at this
                    rw [Htv.out, bitsW_snoc, Hd.out]; exact this)
                  obtain rfl : K = -1 := by omega
                  clear hK
                  go_wp2_with fail
                  exact ⟨⟨k + 1, by omega, by go_num, Hbad'.out, HO6.out, HBl.out⟩, by simp [intOf]; omega⟩
          · obtain rfl : k = n := by omega
            have HBI : Hid (OwnB wr w.heap.size u7 (bitsW vs)) := Lib.hid (by have := HO.out; rwa [List.take_of_length_le (by rw [Hvl.out]; exact Nat.le_refl _)] at this)
            rw [List.take_of_length_le (by rw [Hpl.out]; exact Nat.le_refl _)] at Hbad
            clear HO
            obtain ⟨bl, hbl⟩ : ∃ bl, bl = bitsW vs := ⟨_, rfl⟩
            have Hbll : Hid (bl.length = 6 * k) := Lib.hid (by rw [hbl, bitsW_len, Hvl.out])
            rw [← hbl] at HBI
            have Hbl := Lib.hid hbl; clear hbl
            have hkl : k ≤ 100000 := by omega
            go_wp2_with fail
            obtain ⟨wb, rfl⟩ : ∃ wb : World, wb = wr := ⟨_, rfl⟩
            go_loopw [7, 11, 12, 14] (fun x o _ _ wi => ∃ j : Nat, 8 * j ≤ bl.length ∧ Sl wi wb.heap.size x (bl.drop (8 * j)) ∧ OwnB wi wb.heap.size o (octets bl j) ∧ Below wb.heap.size wb wi) (fun x _ _ _ _ => lenM x)
            case atStart => exact ⟨0, by omega, by simpa using HBI.out.sl, OwnB.nil _ _, Below.refl _ _⟩
            case round =>
              clear HBI
              obtain ⟨j, hj, hS, hO, hB3⟩ := hrel
              have HB3 := Lib.hid hB3; clear hB3
              have HO := Lib.hid hO; clear hO
              obtain ⟨r, hr⟩ : ∃ r, r = bl.drop (8 * j) := ⟨_, rfl⟩
              rw [← hr] at hS
              have HS := Lib.hid hS
              obtain ⟨A, c, rfl, _, hc1, hc2, hS3⟩ := hS
              have HS3 := Lib.hid hS3; clear hS3
              have hrl : r.length ≤ 1000000 := by rw [hr, List.length_drop, Hbll.out]; omega
              have hjl : j ≤ 1000000 := by rw [Hbll.out] at hj; omega
              have Hrl : Hid (r.length = bl.length - 8 * j) := Lib.hid (by rw [hr, List.length_drop])
              have Hr := Lib.hid hr; clear hr
              have Hj := Lib.hid hj; clear hj
              by_cases h8 : 8 ≤ r.length
              · obtain ⟨b, o, rfl, hb, hbs⟩ := HS3.out (by omega)
                have Hbs := Lib.hid hbs; clear hbs
                obtain ⟨ch, hch⟩ : ∃ ch, ch = r.take 8 := ⟨_, rfl⟩
                have Hchl : Hid (ch.length = 8) := Lib.hid (by rw [hch, List.length_take]; omega)
                have Hch := Lib.hid hch; clear hch
                go_wp2_with fail
                obtain ⟨wo, rfl⟩ : ∃ wo : World, wo = wr := ⟨_, rfl⟩
                go_loop [12, 14, 91] (fun f _ i => ∃ t : Nat, t ≤ 8 ∧ i = .int .i64 (t : Int) ∧ f = vb (fold8 (ch.take t))) (fun _ _ i => 8 - (intOf i).toNat)
                case atStart => exact ⟨0, by omega, rfl, rfl⟩
                case round =>
                  obtain ⟨t, ht, rfl, rfl⟩ := hrel
                  by_cases h8t : t < 8
                  · obtain ⟨f, hf⟩ : ∃ f, f = fold8 (ch.take t) := ⟨_, rfl⟩
                    rw [← hf]
                    obtain ⟨x, hx⟩ : ∃ x, x = r.getD t 0 := ⟨_, rfl⟩
                    have hc : wo.cell? ⟨b, o + t, none⟩ = some (vb x) := by rw [hx]; exact Hbs.out.getD (by omega)
                    have Hn : Hid (fold8 (ch.take (t + 1)) = f * 2 + x) := Lib.hid (by
                      rw [List.take_succ_eq_append_getElem (by rw [Hchl.out]; exact h8t), fold8_snoc, hf, hx]
                      congr 1
                      rw [List.getD_eq_getElem?_getD, List.getElem?_eq_getElem (by omega)]
                      simp [Hch.out])
                    clear hf hx
                    go_wp2_with fail
                    go_round
                    case rel => exact ⟨t + 1, by omega, by go_num, by rw [Hn.out]; exact congrArg (Value.int .u8) (u8_add _ _)⟩
                    case measure => simp [intOf]; omega
                  · obtain rfl : t = 8 := by omega
                    have Hf : Hid (fold8 (ch.take 8) = fold8 ((bl.drop (8 * j)).take 8)) := Lib.hid (by rw [List.take_of_length_le (by rw [Hchl.out]; exact Nat.le_refl _), Hch.out, Hr.out])
                    obtain ⟨f, hf⟩ : ∃ f, f = fold8 (ch.take 8) := ⟨_, rfl⟩
                    rw [← hf] at Hf ⊢
                    clear hf
                    rw [show (((8 : Nat) : Int)) = (8 : Int) from rfl]
                    have hl8 : 8 ≤ (r.length : Int) := by omega
                    obtain ⟨V, hrunV, hSV⟩ := slice_from (some ⟨b, o, none⟩) r.length c 8 h8 hc1
                    rw [show (((8 : Nat) : Int)) = (8 : Int) from rfl] at hrunV
                    have HSV := Lib.hid (hSV wo wb.heap.size r HS.out rfl); clear hSV
                    obtain ⟨AV, cV, eV, _, _, _, _⟩ := HSV.out
                    rw [List.length_drop] at eV
                    subst eV
                    have HLV : Hid (r.length - 8 < r.length) := Lib.hid (by omega)
                    have HRD : Hid (r.drop 8 = bl.drop (8 * (j + 1))) := Lib.hid (by rw [Hr.out, List.drop_drop, Nat.mul_succ])
                    have HJ1 : Hid (8 * (j + 1) ≤ bl.length) := Lib.hid (by have := Hj.out; have := Hrl.out; omega)
                    have hss := HB3.out.size
                    go_wp2_with fail
                    go_region_law (((refine step_app rfl (.tmp 100) (.tmp 102) rfl wb.heap.size u11 (octets bl j) [f] rfl (by exact HO.out.below (((Below.refl wo.heap.size wo).drew).alloc (Nat.le_refl _) _)) wo.heap.size 0 1 1 rfl rfl (by exact Bs.of_blk (Blk.newA _ _ _) 0 (fun j hj => by match j, hj with | 0, _ => rfl)) (by rw [octets_len]; omega) (by simp; omega) ?_; intro v' w1 hv hg; have Hv := Lib.hid hv; clear hv; have Hg := Lib.hid (OwnB.belowBase (w := wo.drew.alloc _) (HO.out.below (((Below.refl wo.heap.size wo).drew).alloc (Nat.le_refl _) _)) hg (by simp; omega)); clear hg)))
                    all_goals
                      have HS2 : Hid (Sl w1 wb.heap.size (.slice AV (r.length - 8) cV) (bl.drop (8 * (j + 1)))) := Lib.hid (by
                        rw [← HRD.out]
                        exact (HSV.out.below ((Below.refl wb.heap.size wo).drew) (Nat.le_refl _)).below (((Below.refl wb.heap.size wo.drew).alloc (by simpa using hss) _).trans Hg.out) (Nat.le_refl _))
                      have HB4 : Hid (Below wb.heap.size wb w1) := Lib.hid ((HB3.out.drew.alloc (by simpa using hss) _).trans Hg.out)
                      have HOc : Hid (OwnB w1 wb.heap.size v' (octets bl (j + 1))) := Lib.hid (by rw [octets_succ, ← Hf.out]; exact Hv.out)
                      clear hrunV
                      go_simp
                      go_roundw
                      case rel => (repeat apply Exists.intro); exact ⟨⟨j + 1, HJ1.out, HS2.out, HOc.out, HB4.out⟩, rfl⟩
                      case measure => exact HLV.out
              · have HJ : Hid (j = 6 * k / 8) := Lib.hid (by have := Hrl.out; have := Hbll.out; have := Hj.out; omega)
                have HU : Hid (unused 6 vs = numB r) := Lib.hid (by rw [unused_bits vs Hv64.out, Hr.out, Hbl.out, Hvl.out, HJ.out])
                go_wp2_with fail
                go_loop [16, 108] (fun _ i => ∃ t : Nat, t ≤ r.length ∧ i = .int .i64 (t : Int) ∧ ∀ i, i < t → r.getD i 0 = 0) (fun _ i => r.length - (intOf i).toNat)
                case atStart => exact ⟨0, by omega, rfl, fun i hi => by omega⟩
                case round =>
                  obtain ⟨t, ht, rfl, hz⟩ := hrel
                  have Hz := Lib.hid hz; clear hz
                  by_cases htl : t < r.length
                  · obtain ⟨b, o, rfl, hb, hbs⟩ := HS3.out (by omega)
                    obtain ⟨x, hx⟩ : ∃ x, x = r.getD t 0 := ⟨_, rfl⟩
                    have hc : wr.cell? ⟨b, o + t, none⟩ = some (vb x) := by rw [hx]; exact hbs.getD (by omega)
                    have Hx := Lib.hid hx; clear hx hbs
                    by_cases h0 : x = 0
                    · subst h0
                      have hb0 : (bn 0 == 0) = true := rfl
                      have hb1 : (bn 0 != 0) = false := rfl
                      go_wp2_with fail
                      go_round
                      case rel => exact ⟨t + 1, by omega, by go_num, fun i hi => by
                        by_cases h : i < t
                        · exact Hz.out i h
                        · obtain rfl : i = t := by omega
                          exact Hx.out.symm⟩
                      case measure => simp [intOf]; omega
                    · have hne : bn x ≠ 0 := fun e => h0 (bn_inj (y := 0) e)
                      have hb0 : (bn x == 0) = false := beq_eq_false_iff_ne.2 hne
                      have hb1 : (bn x != 0) = true := by rw [bne_iff_ne]; exact hne
                      have HR : Hid (unS 6 al p = ([], 4)) := Lib.hid (unS_form 6 al p vs Hvs.out Hbad.out (by
                        rw [HU.out]
                        intro e
                        apply h0
                        rw [Hx.out]
                        refine (numB_zero r).1 e _ ?_
                        rw [List.getD_eq_getElem?_getD, List.getElem?_eq_getElem htl]
                        exact List.getElem_mem htl))
                      clear hne
                      go_wp2_with fail
                      go_ret2
                      exact ⟨.slice none 0 0, by rw [HR.out]; rfl, by rw [HR.out]; exact OwnB.nil _ _, HBl.out.trans (HB3.out.mono HBl.out.size)⟩
                  · obtain rfl : t = r.length := by omega
                    have HR : Hid (unS 6 al p = (octets bl j, 0)) := Lib.hid (by
                      rw [unS_ok 6 al p vs Hvs.out Hbad.out (by
                        rw [HU.out, numB_zero]
                        intro x hx
                        obtain ⟨i, hi, rfl⟩ := List.getElem_of_mem hx
                        have := Hz.out i hi
                        rw [List.getD_eq_getElem?_getD, List.getElem?_eq_getElem hi] at this
                        exact this), Hpl.out, Hbl.out, HJ.out, octets_byts vs Hv64.out _ (by rw [Hvl.out]; omega)])
                    go_wp2_with fail
                    go_ret2
                    exact ⟨u11, by rw [HR.out]; rfl, by rw [HR.out]; exact HO.out.lower HBl.out.size, HBl.out.trans (HB3.out.mono HBl.out.size)⟩
end Go.Proofs.Ytbjhaihfkncdoaa
