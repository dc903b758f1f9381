/- The law's awake: the document's example. -/
import Derived.Test.YtgldfobfchnkeaaFrNext
import Derived.Lib.SlBytesConst
namespace Go.Proofs.Ytgldfobfchnkeaa
open Go.RowKit

theorem bn_two : bn 2 = 2 := rfl
theorem vb_eq (x : UInt8) (n : Int) (h : bn x = n) : Value.int .u8 n = vb x := by rw [← h]
/-- A new row of bytes, marked or not. -/
theorem Sl.newF (W : World) (cs : Array Value) (t : TypeId) (fr : Nat × Nat) (l : List UInt8) {b n B : Nat} (h : cs.toList = l.map vb) (hb : b = W.heap.size) (hn : n = l.length) (hB : W.heap.size < B) (hl : l.length ≤ 1000000) :
    Sl (W.alloc (.cells cs t fr)) B (.slice (some ⟨b, 0, none⟩) n n) l := by
  subst hb; subst hn
  refine ⟨_, _, rfl, (fun h => by cases h), Nat.le_refl _, by omega, fun _ => ⟨_, 0, rfl, hB, fun j hj => ?_⟩⟩
  have e := heap_alloc_new W (.cells cs t fr)
  have e2 : cs[j]? = some (vb l[j]) := by
    have := congrArg (fun x : List Value => x[j]?) h
    simp only [List.getElem?_map, List.getElem?_eq_getElem hj, Option.map_some, Array.getElem?_toList] at this
    exact this
  unfold World.cell?
  simp only [Nat.zero_add]
  rw [e]
  exact e2
set_option maxRecDepth 100000 in
set_option maxHeartbeats 2000000 in
theorem awake6 (w : World) : Calls Try.prog 8 #[] w fun e w' => e = .returned (.bool true) ∧ Below w.heap.size w w' := by
  have HP : Hid (∀ (v : Value) (B : Nat) (w : World), Sl w B v [97] → B ≤ w.heap.size → Calls Try.prog 11 #[.agg #[.int .u8 2, v]] w fun e w' => ∃ v', e = .returned (.tuple #[v', .int .i64 0]) ∧ OwnB w' w.heap.size v' (frm 2 [97]) ∧ Below w.heap.size w w') :=
    Lib.hid fun v B w h hB => pack_ok 2 v [97] B w h hB (by decide) (by decide) (by decide)
  have kc := fun (w : World) (C : Array Value) (n c : Nat) => Lib.run_convert_bytes_const (P := Try.prog) w 22 5 C n c Try.underlying22 Try.underlying5
  have HU : Hid (un ([] ++ List.take 2 [2, 0] ++ List.take 2 [1, 97]) = .fr 2 [97] []) := Lib.hid (un_frm 2 [97] [] (chk_ok (by decide) (by decide) (by decide)) (by decide))
  have HF := Lib.hid (show frm 2 [97] = [2, 0, 1, 97] from rfl)
  go_enter Try.func8, Try.ntmps8
  go_wp2_with fail
  refine (HP.out _ (w.heap.size + 1) _ (Sl.newF w #[.int .u8 97] _ _ [97] rfl rfl rfl (by omega) (by simp)) (by simp)).mono ?_
  rintro e w1 ⟨p, rfl, hO, hb⟩
  rw [HF.out] at hO
  obtain ⟨PA, PC, rfl, _, _, _, _⟩ := hO.sl
  have HB1 := Lib.hid (((Below.refl w.heap.size w).alloc (Nat.le_refl _) (.cells #[.int .u8 97] 5 (1, 2))).trans (hb.mono (by simp)))
  have HO1 := Lib.hid hO.sl; clear hO hb
  have hW1 : w.heap.size ≤ w1.heap.size := HB1.out.size
  go_wp2_with fail
  refine (newReader w1).mono ?_
  rintro e w2 ⟨V0, rfl, hr, hb⟩
  have HR2 := Lib.hid hr; clear hr
  have HB2 := Lib.hid (HB1.out.trans (hb.mono HB1.out.size))
  have HO2 := Lib.hid (HO1.out.below hb (Nat.le_refl _))
  have hs12 : w1.heap.size ≤ w2.heap.size := hb.size
  clear hb HO1 HB1
  go_wp2_with fail
  refine (feed_any (HR2.out.below ((Below.refl _ _).alloc (Nat.le_refl _) _)) (w2.heap.size + 1) _ [2, 0] (Sl.newA w2 #[.int .u8 2, .int .u8 0] _ [2, 0] rfl rfl rfl (by omega) (by simp)) 2 rfl).mono ?_
  rintro e w3 ⟨rfl, V1, hr, hc, _⟩
  have hb := ((Below.refl w1.heap.size w2).alloc hs12 (.cells #[.int .u8 2, .int .u8 0] 5)).trans ((HR2.out.below ((Below.refl _ _).alloc (Nat.le_refl _) _)).chgBelow hc)
  have HR3 := Lib.hid hr; clear hr hc HR2
  have HB3 := Lib.hid (HB2.out.trans (hb.mono hW1))
  have HO3 := Lib.hid (HO2.out.below hb (Nat.le_refl _))
  clear hb HO2 HB2
  go_wp2_with fail
  refine (next_short HR3.out rfl).mono ?_
  rintro e w4 ⟨rfl, hb⟩
  have hs34 : w3.heap.size ≤ w4.heap.size := hb.size
  have hs13 : w1.heap.size < w3.heap.size := HR3.out.size
  have HR4 := Lib.hid (HR3.out.below hb)
  have HB4 := Lib.hid (HB3.out.trans (hb.mono (by omega)))
  have HO4 := Lib.hid (HO3.out.below hb (by omega))
  clear hb HO3 HB3 HR3
  go_wp2_with fail
  have HA := Lib.hid ((Below.refl w4.heap.size w4).alloc (Nat.le_refl _) (.cells #[.int .u8 0, .slice none 0 0] 27))
  have HA2 := Lib.hid (HA.out.alloc (by simp) (.cells #[.int .u8 1, .int .u8 97] 5))
  refine (feed_any (HR4.out.below HA2.out) (w4.heap.size + 2) _ [1, 97] (Sl.newA (w4.alloc (.cells #[.int .u8 0, .slice none 0 0] 27)) #[.int .u8 1, .int .u8 97] _ [1, 97] rfl (by simp) rfl (by simp) (by simp)) 2 rfl).mono ?_
  rintro e w5 ⟨rfl, V2, hr, hc, _⟩
  have hb := (HA2.out.mono (by omega)).trans ((HR4.out.below HA2.out).chgBelow hc)
  have HR5 := Lib.hid hr; clear hr hc HR4
  have HB5 := Lib.hid (HB4.out.trans (hb.mono hW1))
  have HO5 := Lib.hid (HO4.out.below hb (Nat.le_refl _))
  have hs45 : w4.heap.size ≤ w5.heap.size := hb.size
  clear hb HO4 HB4 HA HA2
  go_wp2_with fail
  refine (next_fr HR5.out 2 [97] [] HU.out).mono ?_
  rintro e w6 ⟨v6, V3, rfl, ho, hr, hc, _⟩
  obtain ⟨XA, XC, rfl, _, _, _, _⟩ := ho.sl
  have hb := HR5.out.chgBelow hc
  have hs56 : w5.heap.size ≤ w6.heap.size := hc.size
  have HX := Lib.hid ho.sl; clear ho hr hc HR5
  have HB6 := Lib.hid (HB5.out.trans (hb.mono hW1))
  have HO6 := Lib.hid (HO5.out.below hb (Nat.le_refl _))
  clear hb HO5 HB5
  go_wp2_with fail
  have HA := Lib.hid (((Below.refl w6.heap.size w6).alloc (Nat.le_refl _) (.cells #[.int .u8 (bn 2), .slice XA 1 XC] 27)).alloc (by simp) (.cells #[.int .u8 2, .int .u8 0, .int .u8 1, .int .u8 97] 5))
  have hcv : (convert 22 9 (.slice XA 1 XC)).run Try.prog ((w6.alloc (.cells #[.int .u8 (bn 2), .slice XA 1 XC] 27)).alloc (.cells #[.int .u8 2, .int .u8 0, .int .u8 1, .int .u8 97] 5)) = .ok (.string ⟨#[97]⟩) ((w6.alloc (.cells #[.int .u8 (bn 2), .slice XA 1 XC] 27)).alloc (.cells #[.int .u8 2, .int .u8 0, .int .u8 1, .int .u8 97] 5)) := conv_sl (HX.out.below HA.out (Nat.le_refl _))
  have hb2 : ((bn 2 : Int) == 2) = true := rfl
  refine (same_true w1.heap.size (w6.heap.size + 2) _ _ [2, 0, 1, 97] _ (HO6.out.below HA.out (by omega)) (Sl.newA (w6.alloc (.cells #[.int .u8 (bn 2), .slice XA 1 XC] 27)) #[.int .u8 2, .int .u8 0, .int .u8 1, .int .u8 97] _ [2, 0, 1, 97] rfl (by simp) rfl (by simp) (by simp))).mono ?_
  rintro e w7 ⟨rfl, rfl⟩
  go_wp2_with fail
  go_ret
  exact ⟨rfl, HB6.out.trans (HA.out.mono (by omega))⟩
end Go.Proofs.Ytgldfobfchnkeaa
