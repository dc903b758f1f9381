/- box: Xor (it stands in HmBx). (*Box).tagOf, where no entry is made. box: tagOf's two other roads. (By mkbepg.py.) -/
import Derived.Test.YtlnjpmpddomjiaaGreatDoorGmBeSu
import Derived.Test.YtlnjpmpddomjiaaGreatDoorGmHmBx

set_option maxRecDepth 100000
namespace Go.Proofs.YtlnjpmpddomjiaaGreatDoor
open Go.RowKit
attribute [local go_sem] Oper.semAt_some
set_option maxHeartbeats 2000000 in
/-- No numbers, and a mask that looks like no handle: the mask itself. -/
theorem tagOf_mask {w : World} {b B : Nat} {vl vm : Value} {mk : List UInt8} (hl : JS w B vl []) (hm : Sl w w.heap.size vm mk) (hk : looks mk = false) :
    Calls Tryz.prog 39 #[tP b, .agg #[vl, vm]] w fun e w' => e = .returned vm ∧ Below w.heap.size w w' := by
  have HM := Lib.hid hm
  obtain ⟨A1, c1, rfl, _⟩ := hl
  obtain ⟨A2, c2, rfl, _⟩ := hm
  simp only [List.length_nil]
  obtain ⟨W1, hW1⟩ : ∃ W, W = w.alloc (.cells #[.slice A1 0 c1, .slice A2 mk.length c2] 82) := ⟨_, rfl⟩
  have HB1 := Lib.hid (show Below w.heap.size w W1 from by rw [hW1]; exact (Below.refl _ _).alloc (Nat.le_refl _) _)
  have HLK := Lib.hid (looks_any w.heap.size _ mk W1 (HM.out.below HB1.out (Nat.le_refl _)))
  rw [hk] at HLK
  have hc0 : W1.cell? ⟨w.heap.size, 0, none⟩ = some (.slice A1 0 c1) := by rw [hW1]; exact (Blk.new w [.slice A1 0 c1, .slice A2 mk.length c2] _).at (o := 0) rfl
  have hc1 : W1.cell? ⟨w.heap.size, 1, none⟩ = some (.slice A2 mk.length c2) := by rw [hW1]; exact (Blk.new w [.slice A1 0 c1, .slice A2 mk.length c2] _).at (o := 1) rfl
  clear hk
  go_enter Tryz.func39, Tryz.ntmps39
  go_wp2_with fail
  rw [← hW1]
  clear hW1
  refine HLK.out.mono ?_
  rintro e W2 ⟨rfl, rfl⟩
  go_wp2_with fail
  go_ret
  exact ⟨rfl, HB1.out⟩
set_option maxHeartbeats 2000000 in
/-- One number, and no mask: its handle. -/
theorem tagOf_one {w : World} {b n : Nat} {vl vm : Value} (hl : JS w w.heap.size vl [n]) (hm : Sl w w.heap.size vm noughtsL) (hn : n < 4294967296) :
    Calls Tryz.prog 39 #[tP b, .agg #[vl, vm]] w fun e w' => ∃ v', e = .returned v' ∧ OwnB w' w.heap.size v' (fro ++ len4 n) ∧ Below w.heap.size w w' := by
  have HM := Lib.hid hm
  have HL := Lib.hid hl
  obtain ⟨A1, c1, rfl, _, _, _, hq⟩ := hl
  obtain ⟨g, o, rfl, _, hcs0⟩ := hq (by simp)
  have hcw : w.cell? ⟨g, o, none⟩ = some (.int .i64 (n : Int)) := hcs0 0 (by simp)
  clear hcs0 hq
  obtain ⟨A2, c2, rfl, _⟩ := hm
  have hzl : noughtsL.length = 32 := by decide
  rw [hzl] at HM ⊢
  simp only [List.length_cons, List.length_nil, Nat.zero_add] at HL ⊢
  obtain ⟨W1, hW1⟩ : ∃ W, W = w.alloc (.cells #[.slice (some ⟨g, o, none⟩) 1 c1, .slice A2 32 c2] 82) := ⟨_, rfl⟩
  have HB1 := Lib.hid (show Below w.heap.size w W1 from by rw [hW1]; exact (Below.refl _ _).alloc (Nat.le_refl _) _)
  have hcv := conv_sl (HM.out.below HB1.out (Nat.le_refl _))
  rw [show noughtsL = [0, 0, 0, 0, 0, 0, 0, 0, 0, 0, 0, 0, 0, 0, 0, 0, 0, 0, 0, 0, 0, 0, 0, 0, 0, 0, 0, 0, 0, 0, 0, 0] from by decide] at hcv
  have HJ1 := HL.out.below HB1.out (Nat.le_refl _)
  have hcn : W1.cell? ⟨g, o, none⟩ = some (.int .i64 (n : Int)) := by
    obtain ⟨A', c', e', _, _, _, hq⟩ := HJ1
    obtain ⟨g', o', eg, _, hcs⟩ := hq (by simp)
    injection e' with e1
    rw [eg] at e1
    injection e1 with e1
    injection e1 with e2 e3
    subst e2 e3
    exact hcs 0 (by simp)
  clear HJ1
  have hc0 : W1.cell? ⟨w.heap.size, 0, none⟩ = some (.slice (some ⟨g, o, none⟩) 1 c1) := by rw [hW1]; exact (Blk.new w [.slice (some ⟨g, o, none⟩) 1 c1, .slice A2 32 c2] _).at (o := 0) rfl
  have hc1 : W1.cell? ⟨w.heap.size, 1, none⟩ = some (.slice A2 32 c2) := by rw [hW1]; exact (Blk.new w [.slice (some ⟨g, o, none⟩) 1 c1, .slice A2 32 c2] _).at (o := 1) rfl
  have HH := Lib.hid (fun W => handle_any n hn W)
  go_enter Tryz.func39, Tryz.ntmps39
  rw [hW1] at hcv
  go_wp2_with fail
  rw [← hW1]
  clear hW1 hcv
  refine (HH.out _).mono ?_
  rintro e W2 ⟨v', rfl, hO, hB⟩
  have HF := Lib.hid (show OwnB W2 w.heap.size v' (fro ++ len4 n) ∧ Below w.heap.size w W2 from ⟨hO.lower HB1.out.size, HB1.out.trans (hB.mono HB1.out.size)⟩)
  clear hO hB
  go_wp2_with fail
  go_ret
  exact ⟨_, rfl, HF.out.1, HF.out.2⟩
def turnE (ns : List Nat) (mk : List UInt8) : EnL := ⟨4, [], [], 0, (ns.map len4).flatten, mk⟩
set_option maxHeartbeats 4000000 in
/-- Two numbers or more: an entry. -/
theorem tagOf_many {w : World} {base b m : Nat} {rv vl vm : Value} {sym full : Bool} {es : List EnL} {ns : List Nat} {mk : List UInt8} (h : BX w base b m rv sym full es) (hl : JS w w.heap.size vl ns) (hm : Sl w w.heap.size vm mk) (h2 : 2 ≤ ns.length) (h5 : ns.length ≤ 5000) (hn : ∀ x ∈ ns, x < 4294967296) (hmk : mk.length ≤ 100000) (hB : base ≤ w.heap.size) :
    Calls Tryz.prog 39 #[tP b, .agg #[vl, vm]] w (EnR w base b m rv sym (tagE es (turnE ns mk)) (fullE full es (turnE ns mk)) (esE es (turnE ns mk))) := by
  have HM := Lib.hid hm
  have HL := Lib.hid hl
  have HX := Lib.hid h
  obtain ⟨A1, c1, rfl, _, _, _, hq⟩ := hl
  obtain ⟨g, o, rfl, _, _⟩ := hq (by omega)
  clear hq h
  obtain ⟨A2, c2, rfl, _⟩ := hm
  have hn0 : ((ns.length : Int) == 0) = false := by rw [beq_eq_false_iff_ne]; omega
  have hn1 : ((ns.length : Int) == 1) = false := by rw [beq_eq_false_iff_ne]; omega
  have hn0' : ¬ ns.length = 0 := by omega
  have hn1' : ¬ ns.length = 1 := by omega
  obtain ⟨W1, hW1⟩ : ∃ W, W = w.alloc (.cells #[.slice (some ⟨g, o, none⟩) ns.length c1, .slice A2 mk.length c2] 82) := ⟨_, rfl⟩
  have HB1 := Lib.hid (show Below w.heap.size w W1 from by rw [hW1]; exact (Below.refl _ _).alloc (Nat.le_refl _) _)
  have HK1 := Lib.hid (show Blk W1 w.heap.size [.slice (some ⟨g, o, none⟩) ns.length c1, .slice A2 mk.length c2] from by rw [hW1]; exact Blk.new w _ _)
  have hz1 : W1.heap.size = w.heap.size + 1 := by rw [hW1]; simp
  obtain ⟨E, hE⟩ : ∃ E, E = turnE ns mk := ⟨_, rfl⟩
  rw [← hE]
  have HE := Lib.hid hE
  clear hE
  go_enter Tryz.func39, Tryz.ntmps39
  go_wp2_with fail
  rw [← hW1]
  clear hW1
  go_loopw [5, 7, 40] (fun u _ i wr => ∃ k : Nat, k ≤ ns.length ∧ i = .int .i64 (k : Int) ∧ OwnB wr W1.heap.size u ((ns.take k).map len4).flatten ∧ Below W1.heap.size W1 wr) (fun _ _ i _ => ns.length - (intOf i).toNat)
  case atStart => exact ⟨0, by omega, rfl, OwnB.nil _ _, Below.refl _ _⟩
  case round =>
    obtain ⟨k, hk, rfl, hO, hBl⟩ := hrel
    have HBl := Lib.hid hBl
    by_cases hlt : k < ns.length
    · have hi : (k : Int) < (ns.length : Int) := by omega
      have hcn : wr.cell? ⟨g, o + k, none⟩ = some (.int .i64 (ns[k] : Int)) := by
        obtain ⟨A', c', e', _, _, _, hq⟩ := (HL.out.below HB1.out (Nat.le_refl _)).below hBl (by omega)
        obtain ⟨g', o', eg, _, hcs⟩ := hq (by omega)
        injection e' with e1
        rw [eg] at e1
        injection e1 with e1
        injection e1 with e2 e3
        subst e2 e3
        exact hcs k hlt
      have hfl : ((ns.take k).map len4).flatten.length ≤ 100000 := by rw [flat4_len, List.length_take]; omega
      have HAN := Lib.hid (appendNumber_any W1.heap.size u5 _ ns[k] wr hO hBl.size hfl (hn _ (List.getElem_mem _)))
      have HTS := Lib.hid (show ((ns.take k).map len4).flatten ++ len4 ns[k] = ((ns.take (k + 1)).map len4).flatten from by rw [List.take_succ_eq_append_getElem hlt, List.map_append, List.flatten_append]; simp)
      clear hO hBl hfl
      go_wp2_with fail
      refine HAN.out.mono ?_
      rintro e W2 ⟨v', rfl, hO2, hB2⟩
      rw [HTS.out] at hO2
      have HO2 := Lib.hid hO2
      have HB2 := Lib.hid (HBl.out.trans hB2)
      clear hO2 hB2
      go_wp2_with fail
      go_roundw
      case rel => exact ⟨k + 1, by omega, by go_num, HO2.out, HB2.out⟩
      case measure => simp [intOf]; omega
    · have hi : ¬ (k : Int) < (ns.length : Int) := by omega
      have hkn : ns.take k = ns := List.take_of_length_le (by omega)
      rw [hkn] at hO
      have HO := Lib.hid hO
      have HBW := Lib.hid (HB1.out.trans (hBl.mono (by omega)))
      have HR := Lib.hid (show ∀ X, EnR wr base b m rv sym (tagE es E) (fullE full es E) (esE es E) X = EnR wr base b m rv sym (tagE es E) (fullE full es E) (esE es E) X from fun _ => rfl)
      have hcv1 := conv_sl hO.sl
      have hcv2 := conv_sl ((HM.out.below HB1.out (Nat.le_refl _)).below hBl (by omega))
      have hc1 := (HK1.out.below hBl HK1.out.lt).at (o := 1) rfl
      have hzw := HBW.out.size
      have hfl : (ns.map len4).flatten.length ≤ 100000 := by rw [flat4_len]; omega
      obtain ⟨LS, hLS⟩ : ∃ L, L = (ns.map len4).flatten := ⟨_, rfl⟩
      have hEE : E = ⟨4, [], [], 0, LS, mk⟩ := by rw [HE.out, hLS]; rfl
      rw [← hLS] at hcv1 hfl
      have HEN := Lib.hid (enter_any ⟨4, [], [], 0, LS, mk⟩ (HX.out.below HBW.out) ⟨by simp, by simp, by simp, by simp, by simp, by simp, by show LS.length ≤ 1000000; omega, by show mk.length ≤ 1000000; omega⟩ (by omega))
      rw [← hEE] at HEN
      have HEE := Lib.hid (show eagg E = .agg #[.int .i64 4, str [], str [], .int .i64 0, str LS, str mk] from by rw [hEE])
      clear hO hkn hBl hLS hEE HR hfl
      go_wp2_with fail
      rw [← HEE.out]
      refine HEN.out.mono ?_
      intro e w2 hR
      have HR := Lib.hid (hR.lift HBW.out)
      obtain ⟨v', rv', rfl, _⟩ := hR
      go_wp2_with fail
      go_ret
      exact HR.out
end Go.Proofs.YtlnjpmpddomjiaaGreatDoor
set_option maxRecDepth 100000
namespace Go.Proofs.YtlnjpmpddomjiaaGreatDoor
open Go.RowKit
attribute [local go_sem] Oper.semAt_some
theorem take1_step (n k : Nat) (h : k < 1) : ((([n] : List Nat).take k).map len4).flatten ++ len4 n = ((([n] : List Nat).take (k + 1)).map len4).flatten := by
  obtain rfl : k = 0 := by omega
  simp
set_option maxHeartbeats 4000000 in
/-- One number, and a mask: an entry. -/
theorem tagOf_one_mask {w : World} {base b m : Nat} {rv vl vm : Value} {sym full : Bool} {es : List EnL} {n : Nat} {mk : List UInt8} (h : BX w base b m rv sym full es) (hl : JS w w.heap.size vl [n]) (hm : Sl w w.heap.size vm mk) (hmz : mk ≠ noughtsL) (hn : n < 4294967296) (hmk : mk.length ≤ 100000) (hB : base ≤ w.heap.size) :
    Calls Tryz.prog 39 #[tP b, .agg #[vl, vm]] w (EnR w base b m rv sym (tagE es (turnE [n] mk)) (fullE full es (turnE [n] mk)) (esE es (turnE [n] mk))) := by
  have HM := Lib.hid hm
  have HL := Lib.hid hl
  have HX := Lib.hid h
  obtain ⟨A1, c1, rfl, _, _, _, hq⟩ := hl
  obtain ⟨g, o, rfl, _, _⟩ := hq (by simp)
  clear hq h
  simp only [List.length_cons, List.length_nil, Nat.zero_add] at HL ⊢
  obtain ⟨A2, c2, rfl, _⟩ := hm
  obtain ⟨W1, hW1⟩ : ∃ W, W = w.alloc (.cells #[.slice (some ⟨g, o, none⟩) 1 c1, .slice A2 mk.length c2] 82) := ⟨_, rfl⟩
  have HB1 := Lib.hid (show Below w.heap.size w W1 from by rw [hW1]; exact (Below.refl _ _).alloc (Nat.le_refl _) _)
  have HK1 := Lib.hid (show Blk W1 w.heap.size [.slice (some ⟨g, o, none⟩) 1 c1, .slice A2 mk.length c2] from by rw [hW1]; exact Blk.new w _ _)
  have hz1 : W1.heap.size = w.heap.size + 1 := by rw [hW1]; simp
  obtain ⟨E, hE⟩ : ∃ E, E = turnE [n] mk := ⟨_, rfl⟩
  rw [← hE]
  have HE := Lib.hid hE
  have hcv := conv_sl (HM.out.below HB1.out (Nat.le_refl _))
  have hc1 := HK1.out.at (o := 1) rfl
  have hmz2 : (mk == [0, 0, 0, 0, 0, 0, 0, 0, 0, 0, 0, 0, 0, 0, 0, 0, 0, 0, 0, 0, 0, 0, 0, 0, 0, 0, 0, 0, 0, 0, 0, 0]) = false := by rw [beq_eq_false_iff_ne]; exact hmz
  have hmz3 : ¬ mk = [0, 0, 0, 0, 0, 0, 0, 0, 0, 0, 0, 0, 0, 0, 0, 0, 0, 0, 0, 0, 0, 0, 0, 0, 0, 0, 0, 0, 0, 0, 0, 0] := hmz
  rw [hW1] at hcv hc1
  clear hE hmz
  go_enter Tryz.func39, Tryz.ntmps39
  go_wp2_with fail
  rw [← hW1]
  clear hW1 hcv hc1 hmz2 hmz3
  go_loopw [5, 7, 40] (fun u _ i wr => ∃ k : Nat, k ≤ 1 ∧ i = .int .i64 (k : Int) ∧ OwnB wr W1.heap.size u ((([n] : List Nat).take k).map len4).flatten ∧ Below W1.heap.size W1 wr) (fun _ _ i _ => 1 - (intOf i).toNat)
  case atStart => exact ⟨0, by omega, rfl, OwnB.nil _ _, Below.refl _ _⟩
  case round =>
    obtain ⟨k, hk, rfl, hO, hBl⟩ := hrel
    have HBl := Lib.hid hBl
    by_cases hlt : k < 1
    · have hi : (k : Int) < (1 : Int) := by omega
      have hcn : wr.cell? ⟨g, o + k, none⟩ = some (.int .i64 (n : Int)) := by
        obtain ⟨A', c', e', _, _, _, hq⟩ := (HL.out.below HB1.out (Nat.le_refl _)).below hBl (by omega)
        obtain ⟨g', o', eg, _, hcs⟩ := hq (by simp)
        injection e' with e1
        rw [eg] at e1
        injection e1 with e1
        injection e1 with e2 e3
        subst e2 e3
        obtain rfl : k = 0 := by omega
        exact hcs 0 (by simp)
      have hfl : ((([n] : List Nat).take k).map len4).flatten.length ≤ 100000 := by rw [flat4_len, List.length_take]; simp; omega
      have HAN := Lib.hid (appendNumber_any W1.heap.size u5 _ n wr hO hBl.size hfl hn)
      have HTS := Lib.hid (show ((([n] : List Nat).take k).map len4).flatten ++ len4 n = ((([n] : List Nat).take (k + 1)).map len4).flatten from take1_step n k hlt)
      clear hO hBl hfl
      go_wp2_with fail
      refine HAN.out.mono ?_
      rintro e W2 ⟨v', rfl, hO2, hB2⟩
      rw [HTS.out] at hO2
      have HO2 := Lib.hid hO2
      have HB2 := Lib.hid (HBl.out.trans hB2)
      clear hO2 hB2
      go_wp2_with fail
      go_roundw
      case rel => exact ⟨k + 1, by omega, by go_num, HO2.out, HB2.out⟩
      case measure => simp [intOf]; omega
    · have hi : ¬ (k : Int) < (1 : Int) := by omega
      have hkn : ([n] : List Nat).take k = [n] := List.take_of_length_le (by simp; omega)
      rw [hkn] at hO
      have HO := Lib.hid hO
      have HBW := Lib.hid (HB1.out.trans (hBl.mono (by omega)))
      have HR := Lib.hid (show ∀ X, EnR wr base b m rv sym (tagE es E) (fullE full es E) (esE es E) X = EnR wr base b m rv sym (tagE es E) (fullE full es E) (esE es E) X from fun _ => rfl)
      have hcv1 := conv_sl hO.sl
      have hcv2 := conv_sl ((HM.out.below HB1.out (Nat.le_refl _)).below hBl (by omega))
      have hc1 := (HK1.out.below hBl HK1.out.lt).at (o := 1) rfl
      have hzw := HBW.out.size
      have hfl : ([n].map len4).flatten.length ≤ 100000 := by rw [flat4_len]; simp
      obtain ⟨LS, hLS⟩ : ∃ L, L = ([n].map len4).flatten := ⟨_, rfl⟩
      have hEE : E = ⟨4, [], [], 0, LS, mk⟩ := by rw [HE.out, hLS]; rfl
      rw [← hLS] at hcv1 hfl
      have HEN := Lib.hid (enter_any ⟨4, [], [], 0, LS, mk⟩ (HX.out.below HBW.out) ⟨by simp, by simp, by simp, by simp, by simp, by simp, by show LS.length ≤ 1000000; omega, by show mk.length ≤ 1000000; omega⟩ (by omega))
      rw [← hEE] at HEN
      have HEE := Lib.hid (show eagg E = .agg #[.int .i64 4, str [], str [], .int .i64 0, str LS, str mk] from by rw [hEE])
      clear hO hkn hBl hLS hEE HR hfl
      go_wp2_with fail
      rw [← HEE.out]
      refine HEN.out.mono ?_
      intro e w2 hR
      have HR := Lib.hid (hR.lift HBW.out)
      obtain ⟨v', rv', rfl, _⟩ := hR
      go_wp2_with fail
      go_ret
      exact HR.out
set_option maxHeartbeats 4000000 in
/-- No number, and a mask that looks like a handle: an entry. -/
theorem tagOf_looks {w : World} {base b m : Nat} {rv vl vm : Value} {sym full : Bool} {es : List EnL} {mk : List UInt8} (h : BX w base b m rv sym full es) (hl : JS w w.heap.size vl []) (hm : Sl w w.heap.size vm mk) (hlk : looks mk = true) (hmk : mk.length ≤ 100000) (hB : base ≤ w.heap.size) :
    Calls Tryz.prog 39 #[tP b, .agg #[vl, vm]] w (EnR w base b m rv sym (tagE es (turnE [] mk)) (fullE full es (turnE [] mk)) (esE es (turnE [] mk))) := by
  have HM := Lib.hid hm
  have HX := Lib.hid h
  obtain ⟨A1, c1, rfl, _⟩ := hl
  obtain ⟨A2, c2, rfl, _⟩ := hm
  clear h
  simp only [List.length_nil]
  obtain ⟨W1, hW1⟩ : ∃ W, W = w.alloc (.cells #[.slice A1 0 c1, .slice A2 mk.length c2] 82) := ⟨_, rfl⟩
  have HB1 := Lib.hid (show Below w.heap.size w W1 from by rw [hW1]; exact (Below.refl _ _).alloc (Nat.le_refl _) _)
  have HLK := Lib.hid (looks_any w.heap.size _ mk W1 (HM.out.below HB1.out (Nat.le_refl _)))
  rw [hlk] at HLK
  have HK1 := Lib.hid (show Blk W1 w.heap.size [.slice A1 0 c1, .slice A2 mk.length c2] from by rw [hW1]; exact Blk.new w _ _)
  have hc0 := HK1.out.at (o := 0) rfl
  have hc1 := HK1.out.at (o := 1) rfl
  have hcv0 : ∀ (A : Option Addr) (c : Nat) (W : World), (convert 34 9 (.slice A 0 c)).run Tryz.prog W = .ok (str []) W := fun A c W => conv_zero W A c
  have hcv1 := conv_sl (HM.out.below HB1.out (Nat.le_refl _))
  have hzw := HB1.out.size
  have HEN := Lib.hid (enter_any ⟨4, [], [], 0, [], mk⟩ (HX.out.below HB1.out) ⟨by simp, by simp, by simp, by simp, by simp, by simp, by simp, by show mk.length ≤ 1000000; omega⟩ (by omega))
  obtain ⟨E, hE⟩ : ∃ E : EnL, E = ⟨4, [], [], 0, [], mk⟩ := ⟨_, rfl⟩
  rw [← hE] at HEN
  have HEE := Lib.hid (show eagg E = .agg #[.int .i64 4, str [], str [], .int .i64 0, str [], str mk] from by rw [hE])
  have HTE := Lib.hid (show turnE [] mk = E from by rw [hE]; rfl)
  clear hlk hE
  go_enter Tryz.func39, Tryz.ntmps39
  go_wp2_with fail
  rw [← hW1]
  clear hW1
  refine HLK.out.mono ?_
  rintro e W2 ⟨rfl, rfl⟩
  go_wp2_with fail
  go_loopw [5, 7, 40] (fun u _ i wr => u = .slice none 0 0 ∧ i = .int .i64 0 ∧ wr = W1) (fun _ _ _ _ => 0)
  case atStart => exact ⟨rfl, rfl, rfl⟩
  case round =>
    obtain ⟨rfl, rfl, rfl⟩ := hrel
    go_wp2_with fail
    rw [← HEE.out]
    refine HEN.out.mono ?_
    intro e w2 hR
    have HR := Lib.hid (hR.lift HB1.out)
    obtain ⟨v', rv', rfl, _⟩ := hR
    go_wp2_with fail
    go_ret
    rw [HTE.out]
    exact HR.out
end Go.Proofs.YtlnjpmpddomjiaaGreatDoor
