/- proof: texts joined, their bytes; a plain box's Hash; a box made. proof: the document's example, reckoned. hmac.Equal alone (out of RqFS). -/
import Derived.Test.YteadncmhcbdicaaDoorShaSum
import Derived.Test.YteadncmhcbdicaaDoorSlsN
import Derived.Test.YteadncmhcbdicaaDoorCutE
import Derived.Test.YteadncmhcbdicaaDoorStrI
import Derived.Test.YteadncmhcbdicaaDoorSlNew
import Derived.Lib.ConvBytes
import Derived.Lib.SlBytesConst
import Derived.Lib.AtoiErrMem
import Derived.Test.YteadncmhcbdicaaDoorHexN
import Derived.Test.YteadncmhcbdicaaDoorSl
import Derived.Test.YteadncmhcbdicaaDoorSlH
import Derived.Test.YteadncmhcbdicaaDoorBits
import Derived.Deep.QuietTactic
import Derived.BigQuiet
set_option maxRecDepth 100000
namespace Go.Proofs.YteadncmhcbdicaaDoor
open Go.RowKit
attribute [local go_sem] Oper.semAt_some
/-- A text's bytes. -/
theorem conv_tx (s : List UInt8) (w : World) (hs : s.length ≤ 100000) : ∃ v W, (convert 9 26 (str s)).run Tryd.prog w = .ok v W ∧ Below w.heap.size w W ∧ Sl W W.heap.size v s := by
  have hz : (ByteArray.mk s.toArray).size = s.length := by simp [ByteArray.size]
  have hge := grownCap_ge w s.length 0 5
  have hle := grownCap_le_maxLen w s.length 0 5 (by unfold maxLen; omega)
  refine ⟨_, _, Lib.run_convert_string_bytes w 9 26 5 ⟨s.toArray⟩ Tryd.underlying9 Tryd.underlying26 Tryd.underlying5, Lib.bytesWorld_below w _ _, _, _, by rw [hz], (fun h => by cases h), hge, by unfold maxLen at hle; omega, fun _ => ⟨_, 0, rfl, by rw [Lib.bytesWorld_size]; omega, fun j h => ?_⟩⟩
  rw [Nat.zero_add, Lib.bytesWorld_cell w _ _ j (by simpa [ByteArray.size] using h)]
  simp [vb, bn, List.getD_eq_getElem?_getD, List.getElem?_eq_getElem h]
theorem wpOp_valueX {P : Program} {ops : Array Oper} {Q : Exit → Act → World → Prop} {K : Act → World → Prop} {a : Act} {w : World} {i : Nat} {o : Oper} (d : Tmp) (hi : ops[i]? = some o) (hd : o.dst = some d) (hw : Region.wanted o (yielded ops a.tmps) = true) (v : Value) (w' : World) (hr : (execOp a.eval o).run P w = .ok (.value v) w') (h : K (a.put (some d) v) w') : wpOp P ops Q i K a w :=
  wpOp_of_wp hi hw (by unfold Oper.wp; rw [hr]; rw [← hd] at h; exact h)
theorem newBox_p (sym : Bool) (w : World) :
    Calls Tryd.prog 6 #[.bool sym] w fun e w' => ∃ b, e = .returned (.pointer (some ⟨b, 0, none⟩)) ∧ (∃ cs, Blk w' b (.bool sym :: .bool false :: .slice none 0 0 :: cs)) ∧ w.heap.size ≤ b ∧ Below w.heap.size w w' := by
  have hmm := run_makeMap (P := Tryd.prog) 43 w
  have HB := Lib.hid (show Below w.heap.size w ((w.alloc (.map #[] 0)).alloc (.cells #[.bool sym, .bool false, .slice none 0 0, .map (some w.heap.size)] 46)) from ((Below.refl _ _).alloc (Nat.le_refl _) _).alloc (by simp) _)
  have HP := Lib.hid (show Blk ((w.alloc (.map #[] 0)).alloc (.cells #[.bool sym, .bool false, .slice none 0 0, .map (some w.heap.size)] 46)) (w.heap.size + 1) [.bool sym, .bool false, .slice none 0 0, .map (some w.heap.size)] from Blk.newAt (w.alloc (.map #[] 0)) _ _ (by simp) rfl)
  go_enter Tryd.func6, Tryd.ntmps6
  go_wp2_with fail
  go_ret
  exact ⟨w.heap.size + 1, rfl, ⟨_, HP.out⟩, by omega, HB.out⟩
/-- Hash of a plain box. -/
theorem hash_plain (bx : Nat) (cs : List Value) (v : Value) (ls : List (List UInt8)) (w : World) (hb : Blk w bx (.bool false :: cs)) (hs : Sls w w.heap.size v ls) (hl : ∀ l ∈ ls, l.length ≤ 1000000) (hT : TabA w) :
    Calls Tryd.prog 21 #[.pointer (some ⟨bx, 0, none⟩), v] w fun e w' => ∃ v', e = .returned v' ∧ OwnB w' w.heap.size v' (sumL ls.flatten) ∧ Below w.heap.size w w' := by
  have c0 : w.cell? ⟨bx, 0, none⟩ = some (.bool false) := hb.at (o := 0) rfl
  have HM := Lib.hid (shaSum_any v ls w hs hl hT)
  clear hs hl hT hb
  go_enter Tryd.func21, Tryd.ntmps21
  go_wp2_with fail
  refine HM.out.mono ?_
  rintro e w1 ⟨v', rfl, hO, hB⟩
  have HO := Lib.hid hO
  have HB := Lib.hid hB
  clear hO hB
  go_wp2_with fail
  go_ret
  exact ⟨_, rfl, HO.out, HB.out⟩
theorem str_lit (n : Nat) (a : List UInt8) (h : a.length = n) : (ByteArray.mk a.toArray).size = n := by subst h; simp [ByteArray.size]
set_option maxHeartbeats 2000000 in
theorem ha1_any (bx : Nat) (cs : List Value) (u r p : List UInt8) (w : World) (hb : Blk w bx (.bool false :: cs)) (hu : u.length ≤ 10000) (hr : r.length ≤ 10000) (hp : p.length ≤ 10000) (hT : TabA w) :
    Calls Tryd.prog 15 #[.pointer (some ⟨bx, 0, none⟩), str u, str r, str p] w fun e w' => ∃ v', e = .returned v' ∧ OwnB w' w.heap.size v' (sumL (u ++ 58 :: (r ++ 58 :: p))) ∧ Below w.heap.size w w' := by
  obtain ⟨a1, h1⟩ : ∃ a, a = u ++ [58] := ⟨_, rfl⟩
  obtain ⟨a2, h2⟩ : ∃ a, a = a1 ++ r := ⟨_, rfl⟩
  obtain ⟨a3, h3⟩ : ∃ a, a = a2 ++ [58] := ⟨_, rfl⟩
  obtain ⟨a4, h4⟩ : ∃ a, a = a3 ++ p := ⟨_, rfl⟩
  have HE := Lib.hid (show u ++ 58 :: (r ++ 58 :: p) = a4 from by rw [h4, h3, h2, h1]; simp)
  have l1 : a1.length ≤ 10001 := by rw [h1]; simp; omega
  have l2 : a2.length ≤ 20001 := by rw [h2]; simp; omega
  have l3 : a3.length ≤ 20002 := by rw [h3]; simp; omega
  have HL := Lib.hid (show a4.length ≤ 30002 from by rw [h4]; simp; omega)
  have e1 : ByteArray.mk u.toArray ++ ByteArray.mk #[58] = ByteArray.mk a1.toArray := by rw [h1]; exact str_app u [58]
  have e2 : ByteArray.mk a1.toArray ++ ByteArray.mk r.toArray = ByteArray.mk a2.toArray := by rw [h2]; exact str_app a1 r
  have e3 : ByteArray.mk a2.toArray ++ ByteArray.mk #[58] = ByteArray.mk a3.toArray := by rw [h3]; exact str_app a2 [58]
  have e4 : ByteArray.mk a3.toArray ++ ByteArray.mk p.toArray = ByteArray.mk a4.toArray := by rw [h4]; exact str_app a3 p
  have g1 : (u.length : Int) + 1 ≤ 9223372036854775807 := by omega
  have g2 : (a1.length : Int) + (r.length : Int) ≤ 9223372036854775807 := by omega
  have g3 : (a2.length : Int) + 1 ≤ 9223372036854775807 := by omega
  have g4 : (a3.length : Int) + (p.length : Int) ≤ 9223372036854775807 := by omega
  clear h1 h2 h3 h4 l1 l2 l3
  obtain ⟨vc, Wc, hcv, hbc, hsl⟩ := conv_tx a4 w (by have := HL.out; omega)
  obtain ⟨Ac, cc, rfl, -⟩ := id hsl
  have HBc := Lib.hid hbc
  obtain ⟨X2, hX2⟩ : ∃ X, X = Wc.alloc (.cells #[.slice Ac a4.length cc] 26) := ⟨_, rfl⟩
  have hb2 : Below Wc.heap.size Wc X2 := by rw [hX2]; exact (Below.refl _ _).alloc (Nat.le_refl _) _
  have HB2 := Lib.hid (hbc.trans (hb2.mono hbc.size))
  have HS2 := Lib.hid (show Sls X2 X2.heap.size (.slice (some ⟨Wc.heap.size, 0, none⟩) 1 1) [a4] from by rw [hX2, World.size_alloc]; exact Sls.one Wc a4 _ _ hsl)
  have HH := Lib.hid (hash_plain bx cs (.slice (some ⟨Wc.heap.size, 0, none⟩) 1 1) [a4] X2 (hb.below HB2.out hb.lt) HS2.out (fun l hl => by rw [List.mem_singleton] at hl; rw [hl]; have := HL.out; omega) (hT.below HB2.out (tab_lt hT)))
  clear hsl hb hT hbc hb2
  go_enter Tryd.func15, Tryd.ntmps15
  go_wp2_with fail
  rw [← hX2]
  refine HH.out.mono ?_
  rintro e w1 ⟨v', rfl, hO, hB⟩
  rw [List.flatten_cons, List.flatten_nil, List.append_nil] at hO
  have HO := Lib.hid (hO.lower HB2.out.size)
  have HB := Lib.hid (HB2.out.trans (hB.mono HB2.out.size))
  clear hO hB
  go_wp2_with fail
  go_ret
  exact ⟨_, rfl, by rw [HE.out]; exact HO.out, HB.out⟩
end Go.Proofs.YteadncmhcbdicaaDoor
set_option maxRecDepth 100000
namespace Go.Proofs.YteadncmhcbdicaaDoor
open Go.RowKit
def egA : List UInt8 := [77, 117, 102, 97, 115, 97, 58, 104, 116, 116, 112, 45, 97, 117, 116, 104, 64, 101, 120, 97, 109, 112, 108, 101, 46, 111, 114, 103, 58, 67, 105, 114, 99, 108, 101, 32, 111, 102, 32, 76, 105, 102, 101]
def egB : List UInt8 := [71, 69, 84, 58, 47, 100, 105, 114, 47, 105, 110, 100, 101, 120, 46, 104, 116, 109, 108]
def egN : List UInt8 := [55, 121, 112, 102, 47, 120, 108, 106, 57, 88, 88, 119, 102, 68, 80, 69, 111, 77, 52, 85, 82, 114, 118, 47, 120, 119, 102, 57, 52, 66, 99, 67, 65, 122, 70, 90, 72, 52, 71, 105, 84, 111, 48, 118]
def egC : List UInt8 := [102, 50, 47, 119, 69, 52, 113, 55, 52, 69, 54, 122, 73, 74, 69, 116, 87, 97, 72, 75, 97, 102, 53, 119, 118, 47, 72, 53, 81, 122, 122, 112, 88, 117, 115, 113, 71, 101, 109, 120, 85, 82, 90, 74]
def egHA : List UInt8 := [121, 135, 198, 76, 48, 226, 95, 27, 116, 190, 83, 249, 102, 180, 155, 144, 242, 128, 138, 169, 47, 175, 154, 0, 38, 35, 146, 215, 180, 121, 66, 50]
def egHB : List UInt8 := [154, 63, 218, 233, 166, 34, 254, 141, 225, 119, 194, 79, 169, 192, 112, 242, 177, 129, 236, 133, 225, 93, 203, 220, 50, 225, 12, 130, 173, 69, 11, 4]
def egT : List UInt8 := [55, 57, 56, 55, 99, 54, 52, 99, 51, 48, 101, 50, 53, 102, 49, 98, 55, 52, 98, 101, 53, 51, 102, 57, 54, 54, 98, 52, 57, 98, 57, 48, 102, 50, 56, 48, 56, 97, 97, 57, 50, 102, 97, 102, 57, 97, 48, 48, 50, 54, 50, 51, 57, 50, 100, 55, 98, 52, 55, 57, 52, 50, 51, 50, 58, 55, 121, 112, 102, 47, 120, 108, 106, 57, 88, 88, 119, 102, 68, 80, 69, 111, 77, 52, 85, 82, 114, 118, 47, 120, 119, 102, 57, 52, 66, 99, 67, 65, 122, 70, 90, 72, 52, 71, 105, 84, 111, 48, 118, 58, 48, 48, 48, 48, 48, 48, 48, 49, 58, 102, 50, 47, 119, 69, 52, 113, 55, 52, 69, 54, 122, 73, 74, 69, 116, 87, 97, 72, 75, 97, 102, 53, 119, 118, 47, 72, 53, 81, 122, 122, 112, 88, 117, 115, 113, 71, 101, 109, 120, 85, 82, 90, 74, 58, 97, 117, 116, 104, 58, 57, 97, 51, 102, 100, 97, 101, 57, 97, 54, 50, 50, 102, 101, 56, 100, 101, 49, 55, 55, 99, 50, 52, 102, 97, 57, 99, 48, 55, 48, 102, 50, 98, 49, 56, 49, 101, 99, 56, 53, 101, 49, 53, 100, 99, 98, 100, 99, 51, 50, 101, 49, 48, 99, 56, 50, 97, 100, 52, 53, 48, 98, 48, 52]
theorem egA_sum : sumL egA = egHA := by decide +kernel
theorem egB_sum : sumL egB = egHB := by decide +kernel
theorem egT_eq : encH egHA ++ (58 :: egN ++ (58 :: encH [0, 0, 0, 1] ++ (58 :: egC ++ (58 :: [97, 117, 116, 104] ++ (58 :: encH egHB))))) = egT := by decide +kernel
theorem egT_sum : (sumL egT).take 4 = [117, 57, 39, 250] := by decide +kernel
end Go.Proofs.YteadncmhcbdicaaDoor
set_option maxRecDepth 100000
namespace Go.Proofs.YteadncmhcbdicaaDoor
open Go.RowKit
theorem bv_or8 (x y : UInt8) : bits .or .u8 (bn x) (bn y) = bn (x ||| y) := by
  show IntKind.u8.wrap ((BitVec.ofInt 8 (bn x) ||| BitVec.ofInt 8 (bn y)).toNat : Int) = _
  rw [ofInt_bn, ofInt_bn, IntKind.wrap_u8]
  have h2 : (x.toBitVec ||| y.toBitVec).toNat = (x ||| y).toNat := rfl
  rw [h2]
  unfold bn
  have := (x ||| y).toNat_lt
  omega
theorem bv_xor8 (x y : UInt8) : bits .xor .u8 (bn x) (bn y) = bn (x ^^^ y) := by
  show IntKind.u8.wrap ((BitVec.ofInt 8 (bn x) ^^^ BitVec.ofInt 8 (bn y)).toNat : Int) = _
  rw [ofInt_bn, ofInt_bn, IntKind.wrap_u8]
  have h2 : (x.toBitVec ^^^ y.toBitVec).toNat = (x ^^^ y).toNat := rfl
  rw [h2]
  unfold bn
  have := (x ^^^ y).toNat_lt
  omega
theorem or_zero8 (z t : UInt8) : z ||| t = 0 ↔ z = 0 ∧ t = 0 := by
  constructor
  · intro h
    have hb : z.toBitVec ||| t.toBitVec = 0#8 := congrArg UInt8.toBitVec h
    have h1 : ∀ i, (z.toBitVec.getLsbD i || t.toBitVec.getLsbD i) = false := fun i => by
      have := congrArg (fun v => v.getLsbD i) hb
      simpa using this
    refine ⟨UInt8.toBitVec_inj.1 (BitVec.eq_of_getLsbD_eq fun i hi => ?_), UInt8.toBitVec_inj.1 (BitVec.eq_of_getLsbD_eq fun i hi => ?_)⟩
    · have := h1 i
      simp only [Bool.or_eq_false_iff] at this
      simpa using this.1
    · have := h1 i
      simp only [Bool.or_eq_false_iff] at this
      simpa using this.2
  · rintro ⟨rfl, rfl⟩; rfl
theorem xor_zero8 (x y : UInt8) : x ^^^ y = 0 ↔ x = y := by
  constructor
  · intro h
    have h2 : (x ^^^ y) ^^^ y = 0 ^^^ y := by rw [h]
    simpa [UInt8.xor_assoc] using h2
  · rintro rfl; simp
set_option maxRecDepth 100000 in
set_option maxHeartbeats 2000000 in
theorem equal_any (B : Nat) (v1 v2 : Value) (a b : List UInt8) (w : World) (h1 : Sl w B v1 a) (h2 : Sl w B v2 b) (hla : a.length ≤ 10000) (hB : B ≤ w.heap.size) :
    Calls Tryd.prog 20 #[v1, v2] w fun e w' => e = .returned (.bool (a == b)) ∧ Below w.heap.size w w' := by
  obtain ⟨A1, c1, rfl, _, p1, p2, p3⟩ := h1
  obtain ⟨A2, c2, rfl, _, q1, q2, q3⟩ := h2
  have P3 := Lib.hid p3; clear p3
  have Q3 := Lib.hid q3; clear q3
  by_cases hne : a.length = b.length
  · obtain ⟨n, hn⟩ : ∃ n : Nat, n = a.length := ⟨_, rfl⟩
    have hnb : b.length = n := by omega
    rw [hnb] at q1 Q3 ⊢
    rw [← hn] at p1 P3 ⊢
    have HA := Lib.hid hn; clear hn
    have HB := Lib.hid hnb; clear hnb hne
    have hla' : n ≤ 10000 := by have := HA.out; omega
    clear hla
    go_enter Tryd.func20, Tryd.ntmps20
    go_wp2_with fail
    go_loopw [5, 6, 14] (fun d _ i wr => ∃ (j : Nat) (z : UInt8), j ≤ n ∧ i = .int .i64 j ∧ d = vb z ∧ (z = 0 ↔ a.take j = b.take j) ∧ Below w.heap.size w wr) (fun _ _ i _ => n - (intOf i).toNat)
    case atStart => exact ⟨0, 0, by omega, rfl, rfl, by simp, Below.refl _ _⟩
    case round =>
      obtain ⟨j, z, hj, rfl, rfl, hz, hb⟩ := hrel
      have HZ := Lib.hid hz; clear hz
      by_cases hlt : j < n
      · obtain ⟨b1, o1, rfl, hb1, hc1⟩ := P3.out (by omega)
        obtain ⟨b2, o2, rfl, hb2, hc2⟩ := Q3.out (by omega)
        obtain ⟨x, hx⟩ : ∃ x, x = a[j]'(by have := HA.out; omega) := ⟨_, rfl⟩
        obtain ⟨y, hy2⟩ : ∃ y, y = b[j]'(by have := HB.out; omega) := ⟨_, rfl⟩
        have d1 : wr.cell? ⟨b1, o1 + j, none⟩ = some (vb x) := by rw [hx]; exact (hc1.below hb (by omega)) j (by have := HA.out; omega)
        have d2 : wr.cell? ⟨b2, o2 + j, none⟩ = some (vb y) := by rw [hy2]; exact (hc2.below hb (by omega)) j (by have := HB.out; omega)
        have hnext : (z ||| (x ^^^ y) = 0) ↔ a.take (j + 1) = b.take (j + 1) := by
          rw [or_zero8, xor_zero8, HZ.out, List.take_succ_eq_append_getElem (by have := HA.out; omega), List.take_succ_eq_append_getElem (by have := HB.out; omega), hx, hy2]
          constructor
          · rintro ⟨e1, e2⟩; rw [e1, e2]
          · intro e
            have := List.append_inj' e rfl
            exact ⟨this.1, by simpa using this.2⟩
        have hbx := bv_xor8 x y
        have hbo := bv_or8 z (x ^^^ y)
        have HN := Lib.hid hnext; clear hnext
        have HBl := Lib.hid hb; clear hb
        clear hx hy2 hc1 hc2
        go_wp2_with fail
        go_quiet (fail)
        go_wp2_with fail
        go_roundw
        case rel => exact ⟨j + 1, z ||| (x ^^^ y), by omega, by go_num, rfl, HN.out, below_drewN HBl.out nq⟩
        case measure => simp [intOf]; omega
      · obtain rfl : j = n := by omega
        have hall : (z = 0) ↔ a = b := by
          rw [HZ.out, List.take_of_length_le (by have := HA.out; omega), List.take_of_length_le (by have := HB.out; omega)]
        have HBl := Lib.hid hb; clear hb
        by_cases hz : z = 0
        · subst hz
          have he : a = b := hall.1 rfl
          have hbn : bn 0 = 0 := rfl
          clear hall HZ
          go_wp2_with fail
          go_ret
          exact ⟨by first | (simp [he]; done) | (rw [show (a == b) = true by simp [he]]; rfl), HBl.out⟩
        · have he : ¬ a = b := fun e => hz (hall.2 e)
          have hbn : ¬ bn z = 0 := fun e => hz (bn_inj (y := 0) e)
          clear hall HZ
          go_wp2_with fail
          go_ret
          exact ⟨by rw [show (a == b) = false by simp [he]]; simp [hbn], HBl.out⟩
  · have he : ¬ a = b := fun e => hne (by rw [e])
    have hne2 : ¬ (a.length : Int) = (b.length : Int) := by omega
    go_enter Tryd.func20, Tryd.ntmps20
    go_wp2_with fail
    go_ret
    exact ⟨by simp [he], Below.refl _ _⟩
end Go.Proofs.YteadncmhcbdicaaDoor
