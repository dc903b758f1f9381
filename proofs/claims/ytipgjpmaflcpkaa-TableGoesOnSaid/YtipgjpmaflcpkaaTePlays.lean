/- The statement TablePlays' own text, walked. -/
import Derived.Test.YtipgjpmaflcpkaaTeArgs
import Derived.Test.YtipgjpmaflcpkaaTbAwake
set_option maxRecDepth 100000
namespace Go.Proofs.Ytipgjpmaflcpkaa
open Go.RowKit Go.Shelf
/-- Two Tables in step, or two nil ones. -/
def Two (w : World) (b0 : Nat) (Tv Xv : Value) : Prop := b0 ≤ w.heap.size ∧ ((Tv = tN ∧ Xv = tN) ∨ ∃ T m cap X xs, Tv = tP T ∧ Xv = tP X ∧ DX w b0 T m cap X xs)
section
variable {w w' : World} {b0 : Nat} {Tv Xv : Value}
theorem Two.keep (h : Two w b0 Tv Xv) (hb : Below w.heap.size w w') : Two w' b0 Tv Xv := by
  obtain ⟨h0, h | ⟨T, m, cap, X, xs, e1, e2, h⟩⟩ := h
  · exact ⟨Nat.le_trans h0 hb.size, .inl h⟩
  · exact ⟨Nat.le_trans h0 hb.size, .inr ⟨T, m, cap, X, xs, e1, e2, h.keep hb⟩⟩
theorem Two.do (h : Two w b0 Tv Xv) (d : Int) (s : List UInt8) (v : Int) (hd0 : 0 ≤ d) (hd1 : d ≤ 255) (hs : s.length ≤ 9223372036854775807) :
    Calls Try.prog 7 #[Tv, Xv, .agg #[.int .u8 d, strT s, .int .i64 v]] w fun e w' => e = .returned (.bool true) ∧ Two w' b0 Tv Xv ∧ Below b0 w w' ∧ ∀ (P : Nat) (cs : List Value), BlkT w P tO cs → BlkT w' P tO cs := by
  obtain ⟨h0, ⟨rfl, rfl⟩ | ⟨T, m, cap, X, xs, rfl, rfl, h⟩⟩ := h
  · refine (do_nil d s v w hd0 hd1 hs).mono ?_
    rintro e w1 ⟨rfl, hb⟩
    exact ⟨rfl, ⟨Nat.le_trans h0 hb.size, .inl ⟨rfl, rfl⟩⟩, hb.mono h0, fun P cs hP => hP.below hb hP.lt⟩
  · refine (do_any h d s v hd0 hd1 hs).mono ?_
    rintro e w1 ⟨rfl, xs', hst⟩
    exact ⟨rfl, ⟨Nat.le_trans h0 hst.tr.size, .inr ⟨T, m, cap, X, xs', rfl, rfl, hst.dx⟩⟩, hst.low h, fun P cs hP => hst.box h hP (by decide) (by decide) (by decide)⟩
theorem Two.same (h : Two w b0 Tv Xv) (k : List UInt8) (hk : k.length ≤ 100000) :
    Calls Try.prog 8 #[Tv, Xv, strT k] w fun e w' => e = .returned (.bool true) ∧ Below w.heap.size w w' := by
  obtain ⟨h0, ⟨rfl, rfl⟩ | ⟨T, m, cap, X, xs, rfl, rfl, h⟩⟩ := h
  · exact same_nil k w
  · exact same_any h k hk
end
theorem DX.new {w w1 w' : World} {b0 T m cap X : Nat} (h : TB w1 w.heap.size T m cap []) (hb : b0 ≤ w.heap.size) (hw : Below w1.heap.size w1 w') (hX : BlkT w' X tX [.int .i64 (cap : Int), .slice none 0 0]) (hx : b0 ≤ X) : DX w' b0 T m cap X [] := by
  obtain ⟨xs, h1, h2, h3, h4, _⟩ := h
  obtain rfl : xs = [] := by
    unfold tbs at h2
    exact List.map_eq_nil_iff.1 h2
  refine ⟨h1.keep hw, fun k hk => ?_, ⟨_, hX, ER.nil _ _⟩⟩
  simp at hk
  omega
set_option maxHeartbeats 4000000 in
theorem tablePlays_law (B : Nat) (f : Bool) (room : Int) (v : Value) (ls : List (Int × List UInt8 × Int)) (w : World) (hs : TOps w B v ls) (hB : B ≤ w.heap.size) :
    Calls Try.prog 3 #[.bool f, .int .i64 room, v] w fun e w' => e = .returned (.bool true) ∧ Below w.heap.size w w' := by
  obtain ⟨A, c, rfl, hl1, hl2, hl3⟩ := hs
  have HL := Lib.hid hl3
  clear hl3
  rcases (show (1 ≤ room ∧ room ≤ 4096) ∨ room < 1 ∨ 4096 < room by omega) with hr | hr | hr
  · obtain ⟨r, rfl⟩ : ∃ r : Nat, room = (r : Int) := ⟨room.toNat, by omega⟩
    have hr1 : 1 ≤ r := by omega
    have hr2 : r ≤ 4096 := by omega
    have hg1 : (1 : Int) ≤ (r : Int) := hr.1
    have hg2 : (r : Int) ≤ 4096 := hr.2
    cases f
    · go_enter Try.func3, Try.ntmps3
      go_wp2_with fail
      refine (awakeT w).mono ?_
      rintro e w1 ⟨rfl, hb1⟩
      have HB1 := Lib.hid hb1; clear hb1
      go_wp2_with fail
      refine (new_tb r w1 hr1 hr2).mono ?_
      rintro e w2 ⟨T, rfl, ⟨m, h2⟩, hb2⟩
      obtain ⟨W, hW⟩ : ∃ W, W = w2.alloc (.cells #[.int .i64 (r : Int), .slice none 0 0] tX) := ⟨_, rfl⟩
      have hbx : Below w2.heap.size w2 W := by rw [hW]; exact (Below.refl _ _).alloc (Nat.le_refl _) _
      have hdx : DX W w.heap.size T m r w2.heap.size [] := DX.new h2 HB1.out.size hbx (by rw [hW]; exact heap_alloc_new w2 _) (by have := HB1.out.size; have := hb2.size; omega)
      have HBW := Lib.hid (HB1.out.trans ((hb2.mono HB1.out.size).trans (hbx.mono (by have := HB1.out.size; have := hb2.size; omega))))
      have HTW : Hid (Two W w.heap.size (tP T) (tP w2.heap.size)) := Lib.hid ⟨HBW.out.size, .inr ⟨T, m, r, w2.heap.size, [], rfl, rfl, hdx⟩⟩
      clear h2 hb2 hbx hdx hr
      go_wp2_with fail
      rw [← hW]
      clear hW
      go_loopw [54] (fun i wr => ∃ j : Nat, j ≤ ls.length ∧ j ≤ 60 ∧ i = .int .i64 (j : Int) ∧ Two wr w.heap.size (tP T) (tP w2.heap.size) ∧ Below w.heap.size w wr) (fun i _ => ls.length - (intOf i).toNat)
      case atStart => exact ⟨0, by omega, by omega, rfl, HTW.out, HBW.out⟩
      case round =>
        obtain ⟨j, hj, hj6, rfl, htw, hB'⟩ := hrel
        have HT := Lib.hid htw
        clear htw
        by_cases hlt : j < ls.length
        · obtain ⟨g, o, rfl, hg, hc⟩ := HL.out (by omega)
          obtain ⟨⟨d, s, v⟩, hq⟩ : ∃ q, q = ls[j] := ⟨_, rfl⟩
          obtain ⟨e1, e2, e3, k1, k3⟩ := hc j hlt
          rw [← hq] at e1 e2 e3 k1 k3
          simp only at e1 e2 e3 k1 k3
          have f1 : wr.cell? ⟨g, o + j * 3, none⟩ = some (.int .u8 d) := (hB'.cell (p := ⟨g, o + j * 3, none⟩) (by show g < w.heap.size; omega)).trans e1
          have f2 : wr.cell? ⟨g, o + j * 3 + 1, none⟩ = some (strT s) := (hB'.cell (p := ⟨g, o + j * 3 + 1, none⟩) (by show g < w.heap.size; omega)).trans e2
          have f3 : wr.cell? ⟨g, o + j * 3 + 2, none⟩ = some (.int .i64 v) := (hB'.cell (p := ⟨g, o + j * 3 + 2, none⟩) (by show g < w.heap.size; omega)).trans e3
          have HBr := Lib.hid hB'
          clear hB' e1 e2 e3 hc hq
          by_cases h60 : j < 60
          · have h6 : (j : Int) < 60 := by omega
            obtain ⟨V, hV⟩ : ∃ V, V = wr.alloc (.cells #[.int .u8 d, strT s, .int .i64 v] tO) := ⟨_, rfl⟩
            have hVb : Below wr.heap.size wr V := by rw [hV]; exact (Below.refl _ _).alloc (Nat.le_refl _) _
            have hPV : BlkT V wr.heap.size tO [.int .u8 d, strT s, .int .i64 v] := by rw [hV]; exact heap_alloc_new wr _
            have HTV := Lib.hid (HT.out.keep hVb)
            have HBV := Lib.hid (HBr.out.trans (hVb.mono HBr.out.size))
            have HPV := Lib.hid hPV
            have HWZ := Lib.hid HBr.out.size
            clear hVb hPV
            go_wp2_with fail
            rw [← hV]
            refine (HTV.out.do d s v k1.1 k1.2 k3).mono ?_
            rintro e V2 ⟨rfl, ht2, hb2, hk2⟩
            have HT2 := Lib.hid ht2
            have HB2 := Lib.hid (HBV.out.trans hb2)
            have g1 : V2.cell? ⟨wr.heap.size, 1, none⟩ = some (strT s) := (hk2 _ _ HPV.out).at rfl
            clear ht2 hb2 hV hk2
            go_wp2_with fail
            refine (cutText_any s 12 _ k3 (by omega) (by omega)).mono ?_
            rintro e V3 ⟨rfl, rfl⟩
            obtain ⟨kk, hkk⟩ : ∃ kk, kk = s.take 12 := ⟨_, rfl⟩
            have hkl : kk.length ≤ 100000 := by rw [hkk, List.length_take]; omega
            rw [show ((12 : Int).toNat) = 12 from rfl, ← hkk]
            clear g1 hkk
            go_wp2_with fail
            refine (HT2.out.same kk hkl).mono ?_
            rintro e V3 ⟨rfl, hb3⟩
            have HT3 := Lib.hid (HT2.out.keep hb3)
            have HB3 := Lib.hid (HB2.out.trans (hb3.mono HB2.out.size))
            clear hb3
            go_wp2_with fail
            exact ⟨⟨j + 1, by omega, by omega, by go_num, HT3.out, HB3.out⟩, by simp [intOf]; omega⟩
          · have h6 : ¬ (j : Int) < 60 := by omega
            clear HL
            go_wp2_with fail
            refine (Two.same (HT.out.keep ((Below.refl _ wr).alloc (Nat.le_refl _) _)) [] (by simp)).mono ?_
            rintro e V2 ⟨rfl, hb2⟩
            have HB2 := Lib.hid ((HBr.out.alloc HBr.out.size _).trans (hb2.mono (by have := HBr.out.size; simp; omega)))
            clear hb2
            go_wp2_with fail
            go_ret
            exact ⟨rfl, HB2.out⟩
        · have HBr := Lib.hid hB'
          clear hB' HL
          go_wp2_with fail
          refine (HT.out.same [] (by simp)).mono ?_
          rintro e V2 ⟨rfl, hb2⟩
          have HB2 := Lib.hid (HBr.out.trans (hb2.mono HBr.out.size))
          clear hb2
          go_wp2_with fail
          go_ret
          exact ⟨rfl, HB2.out⟩
    · go_enter Try.func3, Try.ntmps3
      go_wp2_with fail
      refine (awakeT w).mono ?_
      rintro e w1 ⟨rfl, hb1⟩
      have HB1 := Lib.hid hb1; clear hb1
      go_wp2_with fail
      refine (new_tb r w1 hr1 hr2).mono ?_
      rintro e w2 ⟨T, rfl, ⟨m, h2⟩, hb2⟩
      obtain ⟨W, hW⟩ : ∃ W, W = w2.alloc (.cells #[.int .i64 (r : Int), .slice none 0 0] tX) := ⟨_, rfl⟩
      have hbx : Below w2.heap.size w2 W := by rw [hW]; exact (Below.refl _ _).alloc (Nat.le_refl _) _
      have hdx : DX W w.heap.size T m r w2.heap.size [] := DX.new h2 HB1.out.size hbx (by rw [hW]; exact heap_alloc_new w2 _) (by have := HB1.out.size; have := hb2.size; omega)
      have HBW := Lib.hid (HB1.out.trans ((hb2.mono HB1.out.size).trans (hbx.mono (by have := HB1.out.size; have := hb2.size; omega))))
      have HTW : Hid (Two W w.heap.size tN tN) := Lib.hid ⟨HBW.out.size, .inl ⟨rfl, rfl⟩⟩
      clear h2 hb2 hbx hdx hr
      go_wp2_with fail
      rw [← hW]
      clear hW
      go_loopw [54] (fun i wr => ∃ j : Nat, j ≤ ls.length ∧ j ≤ 60 ∧ i = .int .i64 (j : Int) ∧ Two wr w.heap.size tN tN ∧ Below w.heap.size w wr) (fun i _ => ls.length - (intOf i).toNat)
      case atStart => exact ⟨0, by omega, by omega, rfl, HTW.out, HBW.out⟩
      case round =>
        obtain ⟨j, hj, hj6, rfl, htw, hB'⟩ := hrel
        have HT := Lib.hid htw
        clear htw
        by_cases hlt : j < ls.length
        · obtain ⟨g, o, rfl, hg, hc⟩ := HL.out (by omega)
          obtain ⟨⟨d, s, v⟩, hq⟩ : ∃ q, q = ls[j] := ⟨_, rfl⟩
          obtain ⟨e1, e2, e3, k1, k3⟩ := hc j hlt
          rw [← hq] at e1 e2 e3 k1 k3
          simp only at e1 e2 e3 k1 k3
          have f1 : wr.cell? ⟨g, o + j * 3, none⟩ = some (.int .u8 d) := (hB'.cell (p := ⟨g, o + j * 3, none⟩) (by show g < w.heap.size; omega)).trans e1
          have f2 : wr.cell? ⟨g, o + j * 3 + 1, none⟩ = some (strT s) := (hB'.cell (p := ⟨g, o + j * 3 + 1, none⟩) (by show g < w.heap.size; omega)).trans e2
          have f3 : wr.cell? ⟨g, o + j * 3 + 2, none⟩ = some (.int .i64 v) := (hB'.cell (p := ⟨g, o + j * 3 + 2, none⟩) (by show g < w.heap.size; omega)).trans e3
          have HBr := Lib.hid hB'
          clear hB' e1 e2 e3 hc hq
          by_cases h60 : j < 60
          · have h6 : (j : Int) < 60 := by omega
            obtain ⟨V, hV⟩ : ∃ V, V = wr.alloc (.cells #[.int .u8 d, strT s, .int .i64 v] tO) := ⟨_, rfl⟩
            have hVb : Below wr.heap.size wr V := by rw [hV]; exact (Below.refl _ _).alloc (Nat.le_refl _) _
            have hPV : BlkT V wr.heap.size tO [.int .u8 d, strT s, .int .i64 v] := by rw [hV]; exact heap_alloc_new wr _
            have HTV := Lib.hid (HT.out.keep hVb)
            have HBV := Lib.hid (HBr.out.trans (hVb.mono HBr.out.size))
            have HPV := Lib.hid hPV
            have HWZ := Lib.hid HBr.out.size
            clear hVb hPV
            go_wp2_with fail
            rw [← hV]
            refine (HTV.out.do d s v k1.1 k1.2 k3).mono ?_
            rintro e V2 ⟨rfl, ht2, hb2, hk2⟩
            have HT2 := Lib.hid ht2
            have HB2 := Lib.hid (HBV.out.trans hb2)
            have g1 : V2.cell? ⟨wr.heap.size, 1, none⟩ = some (strT s) := (hk2 _ _ HPV.out).at rfl
            clear ht2 hb2 hV hk2
            go_wp2_with fail
            refine (cutText_any s 12 _ k3 (by omega) (by omega)).mono ?_
            rintro e V3 ⟨rfl, rfl⟩
            obtain ⟨kk, hkk⟩ : ∃ kk, kk = s.take 12 := ⟨_, rfl⟩
            have hkl : kk.length ≤ 100000 := by rw [hkk, List.length_take]; omega
            rw [show ((12 : Int).toNat) = 12 from rfl, ← hkk]
            clear g1 hkk
            go_wp2_with fail
            refine (HT2.out.same kk hkl).mono ?_
            rintro e V3 ⟨rfl, hb3⟩
            have HT3 := Lib.hid (HT2.out.keep hb3)
            have HB3 := Lib.hid (HB2.out.trans (hb3.mono HB2.out.size))
            clear hb3
            go_wp2_with fail
            exact ⟨⟨j + 1, by omega, by omega, by go_num, HT3.out, HB3.out⟩, by simp [intOf]; omega⟩
          · have h6 : ¬ (j : Int) < 60 := by omega
            clear HL
            go_wp2_with fail
            refine (Two.same (HT.out.keep ((Below.refl _ wr).alloc (Nat.le_refl _) _)) [] (by simp)).mono ?_
            rintro e V2 ⟨rfl, hb2⟩
            have HB2 := Lib.hid ((HBr.out.alloc HBr.out.size _).trans (hb2.mono (by have := HBr.out.size; simp; omega)))
            clear hb2
            go_wp2_with fail
            go_ret
            exact ⟨rfl, HB2.out⟩
        · have HBr := Lib.hid hB'
          clear hB' HL
          go_wp2_with fail
          refine (HT.out.same [] (by simp)).mono ?_
          rintro e V2 ⟨rfl, hb2⟩
          have HB2 := Lib.hid (HBr.out.trans (hb2.mono HBr.out.size))
          clear hb2
          go_wp2_with fail
          go_ret
          exact ⟨rfl, HB2.out⟩
  · cases f
    all_goals
      go_enter Try.func3, Try.ntmps3
      go_wp2_with fail
      refine (awakeT w).mono ?_
      rintro e w1 ⟨rfl, hb1⟩
      have HB1 := Lib.hid hb1; clear hb1
      go_wp2_with fail
      refine (new_bad room w1 (.inl hr)).mono ?_
      rintro e w2 ⟨rfl, rfl⟩
      obtain ⟨W, hW⟩ : ∃ W, W = w1.alloc (.cells #[.int .i64 room, .slice none 0 0] tX) := ⟨_, rfl⟩
      have hbx : Below w1.heap.size w1 W := by rw [hW]; exact (Below.refl _ _).alloc (Nat.le_refl _) _
      have HBW := Lib.hid (HB1.out.trans (hbx.mono HB1.out.size))
      have HTW : Hid (Two W w.heap.size tN tN) := Lib.hid ⟨HBW.out.size, .inl ⟨rfl, rfl⟩⟩
      have hn1 : ¬ (1 : Int) ≤ room := by omega
      clear hbx
      go_wp2_with fail
      rw [← hW]
      clear hW
      go_loopw [54] (fun i wr => ∃ j : Nat, j ≤ ls.length ∧ j ≤ 60 ∧ i = .int .i64 (j : Int) ∧ Two wr w.heap.size tN tN ∧ Below w.heap.size w wr) (fun i _ => ls.length - (intOf i).toNat)
      case atStart => exact ⟨0, by omega, by omega, rfl, HTW.out, HBW.out⟩
      case round =>
        obtain ⟨j, hj, hj6, rfl, htw, hB'⟩ := hrel
        have HT := Lib.hid htw
        clear htw
        by_cases hlt : j < ls.length
        · obtain ⟨g, o, rfl, hg, hc⟩ := HL.out (by omega)
          obtain ⟨⟨d, s, v⟩, hq⟩ : ∃ q, q = ls[j] := ⟨_, rfl⟩
          obtain ⟨e1, e2, e3, k1, k3⟩ := hc j hlt
          rw [← hq] at e1 e2 e3 k1 k3
          simp only at e1 e2 e3 k1 k3
          have f1 : wr.cell? ⟨g, o + j * 3, none⟩ = some (.int .u8 d) := (hB'.cell (p := ⟨g, o + j * 3, none⟩) (by show g < w.heap.size; omega)).trans e1
          have f2 : wr.cell? ⟨g, o + j * 3 + 1, none⟩ = some (strT s) := (hB'.cell (p := ⟨g, o + j * 3 + 1, none⟩) (by show g < w.heap.size; omega)).trans e2
          have f3 : wr.cell? ⟨g, o + j * 3 + 2, none⟩ = some (.int .i64 v) := (hB'.cell (p := ⟨g, o + j * 3 + 2, none⟩) (by show g < w.heap.size; omega)).trans e3
          have HBr := Lib.hid hB'
          clear hB' e1 e2 e3 hc hq
          by_cases h60 : j < 60
          · have h6 : (j : Int) < 60 := by omega
            obtain ⟨V, hV⟩ : ∃ V, V = wr.alloc (.cells #[.int .u8 d, strT s, .int .i64 v] tO) := ⟨_, rfl⟩
            have hVb : Below wr.heap.size wr V := by rw [hV]; exact (Below.refl _ _).alloc (Nat.le_refl _) _
            have hPV : BlkT V wr.heap.size tO [.int .u8 d, strT s, .int .i64 v] := by rw [hV]; exact heap_alloc_new wr _
            have HTV := Lib.hid (HT.out.keep hVb)
            have HBV := Lib.hid (HBr.out.trans (hVb.mono HBr.out.size))
            have HPV := Lib.hid hPV
            have HWZ := Lib.hid HBr.out.size
            clear hVb hPV
            go_wp2_with fail
            rw [← hV]
            refine (HTV.out.do d s v k1.1 k1.2 k3).mono ?_
            rintro e V2 ⟨rfl, ht2, hb2, hk2⟩
            have HT2 := Lib.hid ht2
            have HB2 := Lib.hid (HBV.out.trans hb2)
            have g1 : V2.cell? ⟨wr.heap.size, 1, none⟩ = some (strT s) := (hk2 _ _ HPV.out).at rfl
            clear ht2 hb2 hV hk2
            go_wp2_with fail
            refine (cutText_any s 12 _ k3 (by omega) (by omega)).mono ?_
            rintro e V3 ⟨rfl, rfl⟩
            obtain ⟨kk, hkk⟩ : ∃ kk, kk = s.take 12 := ⟨_, rfl⟩
            have hkl : kk.length ≤ 100000 := by rw [hkk, List.length_take]; omega
            rw [show ((12 : Int).toNat) = 12 from rfl, ← hkk]
            clear g1 hkk
            go_wp2_with fail
            refine (HT2.out.same kk hkl).mono ?_
            rintro e V3 ⟨rfl, hb3⟩
            have HT3 := Lib.hid (HT2.out.keep hb3)
            have HB3 := Lib.hid (HB2.out.trans (hb3.mono HB2.out.size))
            clear hb3
            go_wp2_with fail
            exact ⟨⟨j + 1, by omega, by omega, by go_num, HT3.out, HB3.out⟩, by simp [intOf]; omega⟩
          · have h6 : ¬ (j : Int) < 60 := by omega
            clear HL
            go_wp2_with fail
            refine (Two.same (HT.out.keep ((Below.refl _ wr).alloc (Nat.le_refl _) _)) [] (by simp)).mono ?_
            rintro e V2 ⟨rfl, hb2⟩
            have HB2 := Lib.hid ((HBr.out.alloc HBr.out.size _).trans (hb2.mono (by have := HBr.out.size; simp; omega)))
            clear hb2
            go_wp2_with fail
            go_ret
            exact ⟨rfl, HB2.out⟩
        · have HBr := Lib.hid hB'
          clear hB' HL
          go_wp2_with fail
          refine (HT.out.same [] (by simp)).mono ?_
          rintro e V2 ⟨rfl, hb2⟩
          have HB2 := Lib.hid (HBr.out.trans (hb2.mono HBr.out.size))
          clear hb2
          go_wp2_with fail
          go_ret
          exact ⟨rfl, HB2.out⟩
  · cases f
    all_goals
      go_enter Try.func3, Try.ntmps3
      go_wp2_with fail
      refine (awakeT w).mono ?_
      rintro e w1 ⟨rfl, hb1⟩
      have HB1 := Lib.hid hb1; clear hb1
      go_wp2_with fail
      refine (new_bad room w1 (.inr hr)).mono ?_
      rintro e w2 ⟨rfl, rfl⟩
      obtain ⟨W, hW⟩ : ∃ W, W = w1.alloc (.cells #[.int .i64 room, .slice none 0 0] tX) := ⟨_, rfl⟩
      have hbx : Below w1.heap.size w1 W := by rw [hW]; exact (Below.refl _ _).alloc (Nat.le_refl _) _
      have HBW := Lib.hid (HB1.out.trans (hbx.mono HB1.out.size))
      have HTW : Hid (Two W w.heap.size tN tN) := Lib.hid ⟨HBW.out.size, .inl ⟨rfl, rfl⟩⟩
      have hn1 : decide (room ≤ (4096 : Int)) = false := decide_eq_false (by omega)
      have hn0 : (1 : Int) ≤ room := by omega
      clear hbx
      go_wp2_with fail
      rw [← hW]
      clear hW
      go_loopw [54] (fun i wr => ∃ j : Nat, j ≤ ls.length ∧ j ≤ 60 ∧ i = .int .i64 (j : Int) ∧ Two wr w.heap.size tN tN ∧ Below w.heap.size w wr) (fun i _ => ls.length - (intOf i).toNat)
      case atStart => exact ⟨0, by omega, by omega, rfl, HTW.out, HBW.out⟩
      case round =>
        obtain ⟨j, hj, hj6, rfl, htw, hB'⟩ := hrel
        have HT := Lib.hid htw
        clear htw
        by_cases hlt : j < ls.length
        · obtain ⟨g, o, rfl, hg, hc⟩ := HL.out (by omega)
          obtain ⟨⟨d, s, v⟩, hq⟩ : ∃ q, q = ls[j] := ⟨_, rfl⟩
          obtain ⟨e1, e2, e3, k1, k3⟩ := hc j hlt
          rw [← hq] at e1 e2 e3 k1 k3
          simp only at e1 e2 e3 k1 k3
          have f1 : wr.cell? ⟨g, o + j * 3, none⟩ = some (.int .u8 d) := (hB'.cell (p := ⟨g, o + j * 3, none⟩) (by show g < w.heap.size; omega)).trans e1
          have f2 : wr.cell? ⟨g, o + j * 3 + 1, none⟩ = some (strT s) := (hB'.cell (p := ⟨g, o + j * 3 + 1, none⟩) (by show g < w.heap.size; omega)).trans e2
          have f3 : wr.cell? ⟨g, o + j * 3 + 2, none⟩ = some (.int .i64 v) := (hB'.cell (p := ⟨g, o + j * 3 + 2, none⟩) (by show g < w.heap.size; omega)).trans e3
          have HBr := Lib.hid hB'
          clear hB' e1 e2 e3 hc hq
          by_cases h60 : j < 60
          · have h6 : (j : Int) < 60 := by omega
            obtain ⟨V, hV⟩ : ∃ V, V = wr.alloc (.cells #[.int .u8 d, strT s, .int .i64 v] tO) := ⟨_, rfl⟩
            have hVb : Below wr.heap.size wr V := by rw [hV]; exact (Below.refl _ _).alloc (Nat.le_refl _) _
            have hPV : BlkT V wr.heap.size tO [.int .u8 d, strT s, .int .i64 v] := by rw [hV]; exact heap_alloc_new wr _
            have HTV := Lib.hid (HT.out.keep hVb)
            have HBV := Lib.hid (HBr.out.trans (hVb.mono HBr.out.size))
            have HPV := Lib.hid hPV
            have HWZ := Lib.hid HBr.out.size
            clear hVb hPV
            go_wp2_with fail
            rw [← hV]
            refine (HTV.out.do d s v k1.1 k1.2 k3).mono ?_
            rintro e V2 ⟨rfl, ht2, hb2, hk2⟩
            have HT2 := Lib.hid ht2
            have HB2 := Lib.hid (HBV.out.trans hb2)
            have g1 : V2.cell? ⟨wr.heap.size, 1, none⟩ = some (strT s) := (hk2 _ _ HPV.out).at rfl
            clear ht2 hb2 hV hk2
            go_wp2_with fail
            refine (cutText_any s 12 _ k3 (by omega) (by omega)).mono ?_
            rintro e V3 ⟨rfl, rfl⟩
            obtain ⟨kk, hkk⟩ : ∃ kk, kk = s.take 12 := ⟨_, rfl⟩
            have hkl : kk.length ≤ 100000 := by rw [hkk, List.length_take]; omega
            rw [show ((12 : Int).toNat) = 12 from rfl, ← hkk]
            clear g1 hkk
            go_wp2_with fail
            refine (HT2.out.same kk hkl).mono ?_
            rintro e V3 ⟨rfl, hb3⟩
            have HT3 := Lib.hid (HT2.out.keep hb3)
            have HB3 := Lib.hid (HB2.out.trans (hb3.mono HB2.out.size))
            clear hb3
            go_wp2_with fail
            exact ⟨⟨j + 1, by omega, by omega, by go_num, HT3.out, HB3.out⟩, by simp [intOf]; omega⟩
          · have h6 : ¬ (j : Int) < 60 := by omega
            clear HL
            go_wp2_with fail
            refine (Two.same (HT.out.keep ((Below.refl _ wr).alloc (Nat.le_refl _) _)) [] (by simp)).mono ?_
            rintro e V2 ⟨rfl, hb2⟩
            have HB2 := Lib.hid ((HBr.out.alloc HBr.out.size _).trans (hb2.mono (by have := HBr.out.size; simp; omega)))
            clear hb2
            go_wp2_with fail
            go_ret
            exact ⟨rfl, HB2.out⟩
        · have HBr := Lib.hid hB'
          clear hB' HL
          go_wp2_with fail
          refine (HT.out.same [] (by simp)).mono ?_
          rintro e V2 ⟨rfl, hb2⟩
          have HB2 := Lib.hid (HBr.out.trans (hb2.mono HBr.out.size))
          clear hb2
          go_wp2_with fail
          go_ret
          exact ⟨rfl, HB2.out⟩
end Go.Proofs.Ytipgjpmaflcpkaa
