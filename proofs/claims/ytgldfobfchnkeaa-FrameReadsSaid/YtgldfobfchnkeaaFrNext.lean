/- frame.Reader.Next. -/
import Derived.Test.YtgldfobfchnkeaaFrRd
import Derived.RegionTactic
namespace Go.Proofs.Ytgldfobfchnkeaa
open Go.RowKit

set_option maxRecDepth 100000 in
set_option maxHeartbeats 1000000 in
theorem next_nil (w : World) : Calls Try.prog 18 #[.pointer none] w fun e w' => e = .returned (.tuple #[.agg #[.int .u8 0, .slice none 0 0], .int .i64 6]) ∧ Below w.heap.size w w' := by
  go_enter Try.func18, Try.ntmps18
  go_wp2_with fail
  refine bodyPost_ret (v := .tuple #[.agg #[.int .u8 0, .slice none 0 0], .int .i64 6]) (by simp [results, Try.results18, go_sem]) rfl ⟨rfl, ?_⟩
  exact (Below.refl _ _).alloc (Nat.le_refl _) _
set_option maxRecDepth 100000 in
set_option maxHeartbeats 1000000 in
theorem next_bad {w : World} {base g bad : Nat} {V : Value} {l : List UInt8} (h : Rd w base g V l bad) (hb : bad ≠ 0) : Calls Try.prog 18 #[.pointer (some ⟨g, 0, none⟩)] w fun e w' => e = .returned (.tuple #[.agg #[.int .u8 0, .slice none 0 0], .int .i64 (bad : Int)]) ∧ Below w.heap.size w w' := by
  have c1 := h.blk.at (o := 1) rfl
  have hlt := h.blk.lt
  clear h
  have hb2 : ((bad : Int) != 0) = true := by simp; omega
  have hne : g ≠ w.heap.size := by omega
  go_enter Try.func18, Try.ntmps18
  go_wp2_with fail
  go_region
  all_goals
    go_wp2_with fail
    refine bodyPost_ret (v := .tuple #[.agg #[.int .u8 0, .slice none 0 0], .int .i64 (bad : Int)]) (by simp [results, Try.results18, go_sem]) rfl ⟨rfl, ?_⟩
    exact ((Below.refl _ _).alloc (Nat.le_refl _) _).drew
set_option maxRecDepth 100000 in
set_option maxHeartbeats 1000000 in
theorem next_short {w : World} {base g : Nat} {V : Value} {l : List UInt8} (h : Rd w base g V l 0) (hu : un l = .no 2) : Calls Try.prog 18 #[.pointer (some ⟨g, 0, none⟩)] w fun e w' => e = .returned (.tuple #[.agg #[.int .u8 0, .slice none 0 0], .int .i64 2]) ∧ Below w.heap.size w w' := by
  have c0 := h.blk.at (o := 0) rfl
  have c1 := h.blk.at (o := 1) rfl
  have hlt := h.blk.lt
  have HR := Lib.hid h
  have hfit := h.fit
  have hne : g ≠ w.heap.size := by omega
  have HB0 := Lib.hid ((Below.refl w.heap.size w).alloc (Nat.le_refl _) (.cells #[.int .u8 0, .slice none 0 0] 27))
  have HK0 := Lib.hid (Blk.new w [.int .u8 0, .slice none 0 0] 27)
  obtain ⟨A, c, rfl, _, _, _, _⟩ := h.own.sl
  have HU := Lib.hid (unpack_any w.heap.size (.slice A l.length c) l _ (HR.out.own.sl.below HB0.out (Nat.le_refl _)) (by simp) (by omega))
  rw [hu] at HU
  clear h hu
  go_enter Try.func18, Try.ntmps18
  go_wp2_with (go_at_call 14; refine HU.out.mono ?_; rintro e w2 ⟨rfl, hb⟩; have hk := HK0.out.below hb (by simp); have hk0 := hk.at (o := 0) rfl; have hk1 := hk.at (o := 1) rfl; have hf0 := hk.free 0; have hf1 := hk.free 1; have HB2 := Lib.hid (HB0.out.trans (hb.mono (by simp))); clear hb; have hsz : w.heap.size < w2.heap.size := hk.lt; clear hk)
  refine bodyPost_ret (v := .tuple #[.agg #[.int .u8 0, .slice none 0 0], .int .i64 2]) (by simp [results, Try.results18, go_sem, hk0, hk1, hsz]) rfl ⟨rfl, ?_⟩
  exact ((HB2.out.setCell (Nat.le_refl _) _).setCell (Nat.le_refl _) _).alloc (Nat.le_of_lt (by simpa using hsz)) _
set_option maxRecDepth 100000 in
set_option maxHeartbeats 1000000 in
theorem next_err {w : World} {base g : Nat} {V : Value} {l : List UInt8} (h : Rd w base g V l 0) (c : Nat) (hc : c = 1 ∨ c = 3) (hu : un l = .no c) : Calls Try.prog 18 #[.pointer (some ⟨g, 0, none⟩)] w fun e w' => e = .returned (.tuple #[.agg #[.int .u8 0, .slice none 0 0], .int .i64 (c : Int)]) ∧ Rd w' base g (.slice none 0 0) [] c ∧ Chg w w' g V := by
  have c0 := h.blk.at (o := 0) rfl
  have c1 := h.blk.at (o := 1) rfl
  have hlt := h.blk.lt
  have HR := Lib.hid h
  have hfit := h.fit
  have hne : g ≠ w.heap.size := by omega
  have HB0 := Lib.hid ((Below.refl w.heap.size w).alloc (Nat.le_refl _) (.cells #[.int .u8 0, .slice none 0 0] 27))
  have HK0 := Lib.hid (Blk.new w [.int .u8 0, .slice none 0 0] 27)
  obtain ⟨A, cp, rfl, _, _, _, _⟩ := h.own.sl
  have HU := Lib.hid (unpack_any w.heap.size (.slice A l.length cp) l _ (HR.out.own.sl.below HB0.out (Nat.le_refl _)) (by simp) (by omega))
  rw [hu] at HU
  clear h hu
  rcases hc with rfl | rfl
  all_goals
    go_enter Try.func18, Try.ntmps18
    go_wp2_with (go_at_call 14; refine HU.out.mono ?_; rintro e w2 ⟨rfl, hb⟩; have hk := HK0.out.below hb (by simp); have hk0 := hk.at (o := 0) rfl; have hk1 := hk.at (o := 1) rfl; have hf0 := hk.free 0; have hf1 := hk.free 1; have HB2 := Lib.hid (HB0.out.trans (hb.mono (by simp))); clear hb; have hsz : w.heap.size < w2.heap.size := hk.lt; clear hk; have hg2 := HR.out.blk.below HB2.out hlt; have hg0 := hg2.at (o := 0) rfl; have hg1 := hg2.at (o := 1) rfl; have hgf0 := hg2.free 0; have hgf1 := hg2.free 1; have HG := Lib.hid hg2; clear hg2; have hgs : g < w2.heap.size := by omega)
    refine bodyPost_ret (v := .tuple #[.agg #[.int .u8 0, .slice none 0 0], .int .i64 _]) (by simp [results, Try.results18, go_sem, hk0, hk1, hsz]) rfl ⟨rfl, ⟨?_, OwnB.nil _ _, by simp [Value.ownBlock], HR.out.le, by simp⟩, ?_⟩
    · exact (((((HG.out.set 1 _).set 0 _).setOther (by simpa using Ne.symm hne) _).setOther (by simpa using Ne.symm hne) _).alloc _)
    · exact (((((Chg.of_below HB2.out g _).set 1 _).set 0 _).setNew _ (Nat.le_refl _) _).setNew _ (Nat.le_refl _) _).alloc _
set_option maxRecDepth 100000 in
set_option maxHeartbeats 1000000 in
theorem next_fr {w : World} {base g : Nat} {V : Value} {l : List UInt8} (h : Rd w base g V l 0) (k : UInt8) (body rest : List UInt8) (hu : un l = .fr k body rest) : Calls Try.prog 18 #[.pointer (some ⟨g, 0, none⟩)] w fun e w' => ∃ v' V', e = .returned (.tuple #[.agg #[vb k, v'], .int .i64 0]) ∧ OwnB w' w.heap.size v' body ∧ Rd w' base g V' rest 0 ∧ Chg w w' g V ∧ V'.ownBlock = V.ownBlock := by
  obtain ⟨_, hb2, hlen, hrest, _, _⟩ := un_len hu
  have HR := Lib.hid h
  have c0 := h.blk.at (o := 0) rfl
  have c1 := h.blk.at (o := 1) rfl
  have hlt := h.blk.lt
  have hfit := h.fit
  have hne : g ≠ w.heap.size := by omega
  have hVne := Lib.hid h.ne
  have HB0 := Lib.hid ((Below.refl w.heap.size w).alloc (Nat.le_refl _) (.cells #[.int .u8 0, .slice none 0 0] 27))
  have HK0 := Lib.hid (Blk.new w [.int .u8 0, .slice none 0 0] 27)
  rcases h.own.parts with ⟨_, rfl⟩ | ⟨gv, cp, rfl, hgb, hgv, _, _, _, _⟩
  · simp at hlen; omega
  have hgg : gv ≠ g := fun e => h.ne (by rw [e]; rfl)
  have HU := Lib.hid (unpack_any w.heap.size (.slice (some ⟨gv, 0, none⟩) l.length cp) l _ (HR.out.own.sl.below HB0.out (Nat.le_refl _)) (by simp) (by omega))
  rw [hu] at HU
  obtain ⟨n, hn⟩ : ∃ n, n = 3 + body.length := ⟨_, rfl⟩
  have hcast : Hid ((3 : Int) + (body.length : Int) = (n : Int)) := Lib.hid (by omega)
  have hnl : n ≤ l.length := by omega
  have Hrest : Hid (rest = l.drop n) := Lib.hid (by rw [hn]; exact hrest)
  have hn0 : 0 < n := by omega
  clear h hu hrest hlen hn
  go_enter Try.func18, Try.ntmps18
  go_wp2_with fail
  refine HU.out.mono ?_
  rintro e w2 ⟨⟨v', rfl, hO⟩, hb⟩
  rw [hcast.out]
  obtain ⟨A2, d2, rfl, _, _, _, _⟩ := hO.sl
  have hk := HK0.out.below hb (by simp)
  have hk0 := hk.at (o := 0) rfl
  have hk1 := hk.at (o := 1) rfl
  have hf0 := hk.free 0
  have hf1 := hk.free 1
  have HB2 := Lib.hid (HB0.out.trans (hb.mono (by simp)))
  clear hb
  have hsz : w.heap.size < w2.heap.size := hk.lt
  have HKw := Lib.hid hk; clear hk
  have HR2 := Lib.hid (HR.out.below HB2.out)
  have hg0 := HR2.out.blk.at (o := 0) rfl
  have hg1 := HR2.out.blk.at (o := 1) rfl
  have hgf0 := HR2.out.blk.free 0
  have hgf1 := HR2.out.blk.free 1
  have hgs : g < w2.heap.size := by omega
  have HOb := Lib.hid hO; clear hO
  go_wp2_with fail
  refine (delete_any base gv cp l n _ (HR2.out.own.below ((Below.refl _ _).alloc (Nat.le_refl _) _)) hnl hn0 (by omega)).mono ?_
  rintro e w3 ⟨rfl, hO3, hg3⟩
  have hkg := (HR2.out.blk.alloc (.cells #[.int .u8 (bn k), .slice A2 body.length d2] 27)).grown hg3 (by simpa using Ne.symm hgg)
  have hkn := (Blk.new w2 [.int .u8 (bn k), .slice A2 body.length d2] 27).grown hg3 (by simp; omega)
  have hkw := (HKw.out.alloc (.cells #[.int .u8 (bn k), .slice A2 body.length d2] 27)).grown hg3 (by simp; omega)
  have i0 := hkg.at (o := 0) rfl
  have i1 := hkg.free 0
  have i2 := hkn.at (o := 0) rfl
  have i3 := hkn.at (o := 1) rfl
  have i4 := hkw.at (o := 0) rfl
  have i5 := hkw.at (o := 1) rfl
  have i6 := hkw.free 0
  have i7 := hkw.free 1
  have hs3 : w2.heap.size + 1 ≤ w3.heap.size := by simpa using hg3.size
  have hn1 : g ≠ w2.heap.size := by omega
  have hn2 : w.heap.size ≠ w2.heap.size := by omega
  have HKG := Lib.hid hkg; clear hkg
  clear hkn hkw
  have HO3 := Lib.hid hO3; clear hO3
  have HG3 := Lib.hid hg3; clear hg3
  go_wp2_with fail
  refine bodyPost_ret (v := .tuple #[.agg #[vb k, .slice A2 body.length d2], .int .i64 0]) (by simp [results, Try.results18, go_sem, i4, i5]) rfl ⟨_, .slice (some ⟨gv, 0, none⟩) (l.length - n) cp, rfl, ?_, ⟨?_, ?_, ?_, HR2.out.le, ?_⟩, ?_, rfl⟩
  · have h1 := (HOb.out.below ((Below.refl w2.heap.size w2).alloc (Nat.le_refl _) (.cells #[.int .u8 (bn k), .slice A2 body.length d2] 27))).kept HG3.out (by
      by_cases hn : (Value.slice A2 body.length d2).ownBlock = none
      · exact .inl hn
      · right
        intro e
        have := HOb.out.lt gv e
        simp at this
        omega)
    exact (((h1.setLow ⟨g, 0, none⟩ (by simp; omega) _).setLow ⟨w.heap.size, 0, none⟩ (by simp) _).setLow ⟨w.heap.size, 1, none⟩ (by simp) _).lower (by simp)
  · exact ((HKG.out.set 0 _).setOther (a := ⟨w.heap.size, 0, none⟩) (Ne.symm hne) _).setOther (a := ⟨w.heap.size, 1, none⟩) (Ne.symm hne) _
  · rw [Hrest.out]
    exact ((HO3.out.kept (grown_set _ ⟨g, 0, none⟩ _) (.inr (by simpa [Value.ownBlock] using hgg))).kept (grown_set _ ⟨w.heap.size, 0, none⟩ _) (.inr (by simp [Value.ownBlock]; omega))).kept (grown_set _ ⟨w.heap.size, 1, none⟩ _) (.inr (by simp [Value.ownBlock]; omega))
  · simpa [Value.ownBlock] using hgg
  · rw [Hrest.out, List.length_drop]; omega
  · have h1 : Chg w (w2.alloc (.cells #[.int .u8 (bn k), .slice A2 body.length d2] 27)) g (.slice (some ⟨gv, 0, none⟩) l.length cp) := (Chg.of_below HB2.out g _).alloc _
    have h2 := h1.trans (Newer.refl _ _) (Chg.of_grown HG3.out (.inr (.inr rfl)))
    exact ((h2.set 0 _).setNew ⟨w.heap.size, 0, none⟩ (Nat.le_refl _) _).setNew ⟨w.heap.size, 1, none⟩ (Nat.le_refl _) _
/-- What Next answers to a Reader that holds l and isn't broken. -/
def NxP (w : World) (base g : Nat) (V : Value) (l : List UInt8) (u : Un) (e : Ending) (w' : World) : Prop :=
  match u with
  | .no c => e = .returned (.tuple #[.agg #[.int .u8 0, .slice none 0 0], .int .i64 (c : Int)]) ∧ ((c = 2 ∧ ∃ V', Rd w' base g V' l 0 ∧ Chg w w' g V ∧ Newer w V V') ∨ ((c = 1 ∨ c = 3) ∧ ∃ V', Rd w' base g V' [] c ∧ Chg w w' g V ∧ Newer w V V'))
  | .fr k body rest => ∃ v', e = .returned (.tuple #[.agg #[vb k, v'], .int .i64 0]) ∧ OwnB w' w.heap.size v' body ∧ ∃ V', Rd w' base g V' rest 0 ∧ Chg w w' g V ∧ Newer w V V'
theorem un_no {l : List UInt8} {c : Nat} (h : un l = .no c) : c = 1 ∨ c = 2 ∨ c = 3 := by
  match l, h with
  | [], h => cases h; simp
  | [_], h => cases h; simp
  | [_, _], h => cases h; simp
  | k :: a :: b :: r, h =>
    rcases chk_cases k (num2 a b) with ⟨h1, _⟩ | ⟨h1, _⟩ | ⟨h1, _⟩
    · rw [un_bad (by omega), h1] at h; injection h with h; omega
    · rw [un_bad (by omega), h1] at h; injection h with h; omega
    · by_cases h2 : r.length < num2 a b
      · rw [un_part h1 h2] at h; injection h with h; omega
      · rw [un_fr h1 (by omega)] at h; cases h
theorem next_any {w : World} {base g : Nat} {V : Value} {l : List UInt8} (h : Rd w base g V l 0) : Calls Try.prog 18 #[.pointer (some ⟨g, 0, none⟩)] w fun e w' => NxP w base g V l (un l) e w' := by
  rcases hu : un l with c | ⟨k, body, rest⟩
  · rcases un_no hu with rfl | rfl | rfl
    · exact (next_err h 1 (.inl rfl) hu).mono fun e w' ⟨he, hr, hc⟩ => ⟨he, .inr ⟨.inl rfl, _, hr, hc, Newer.none _ _ _ _⟩⟩
    · exact (next_short h hu).mono fun e w' ⟨he, hb⟩ => ⟨he, .inl ⟨rfl, V, h.below hb, Chg.of_below hb _ _, Newer.refl _ _⟩⟩
    · exact (next_err h 3 (.inr rfl) hu).mono fun e w' ⟨he, hr, hc⟩ => ⟨he, .inr ⟨.inr rfl, _, hr, hc, Newer.none _ _ _ _⟩⟩
  · exact (next_fr h k body rest hu).mono fun e w' ⟨v', V', he, hO, hr, hc, hV⟩ => ⟨v', he, hO, V', hr, hc, fun k' e' => .inl (by rw [← hV, e'])⟩
end Go.Proofs.Ytgldfobfchnkeaa
