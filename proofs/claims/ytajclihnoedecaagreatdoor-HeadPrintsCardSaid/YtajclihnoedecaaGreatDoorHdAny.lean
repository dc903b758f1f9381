/- strings.ContainsAny of a blank and a tab, at any text. -/
import Derived.Test.YtajclihnoedecaaGreatDoorSl
import Derived.Test.YtajclihnoedecaaGreatDoorShelf
import Derived.Test.YtajclihnoedecaaGreatDoorStrI
import Derived.Lib.TrimU
import Derived.Lib.OthersKept
import Derived.Lib.IndexAny
import Derived.Laws.Runes
import Derived.Deep.LoopGhost
import Derived.WalkKit
set_option maxRecDepth 100000
namespace Go.Proofs.YtajclihnoedecaaGreatDoor
open Go.RowKit Go.Shelf
theorem decodeN_two (n b0 b1 b2 b3 : Nat) (h0 : b0 < 256) (h1 : b1 < 256) (h2 : b2 < 256) (h3 : b3 < 256) :
    (b0 < 128 ∧ Lib.decodeN n b0 b1 b2 b3 = (b0, 1)) ∨ (128 ≤ b0 ∧ 128 ≤ (Lib.decodeN n b0 b1 b2 b3).1 ∧ ((Lib.decodeN n b0 b1 b2 b3).1 < 55296 ∨ (57343 < (Lib.decodeN n b0 b1 b2 b3).1 ∧ (Lib.decodeN n b0 b1 b2 b3).1 ≤ 1114111)) ∧ 1 ≤ (Lib.decodeN n b0 b1 b2 b3).2 ∧
      (2 ≤ (Lib.decodeN n b0 b1 b2 b3).2 → 128 ≤ b1) ∧ (3 ≤ (Lib.decodeN n b0 b1 b2 b3).2 → 128 ≤ b2) ∧ (4 ≤ (Lib.decodeN n b0 b1 b2 b3).2 → 128 ≤ b3) ∧ (Lib.decodeN n b0 b1 b2 b3).2 ≤ 4) := by
  by_cases h : b0 < 128
  · exact .inl ⟨h, by simp [Lib.decodeN, h]⟩
  · refine .inr ⟨by omega, ?_⟩
    unfold Lib.decodeN
    rw [if_neg h]
    repeat' split
    all_goals (simp only; omega)
theorem get_list (l : List UInt8) (i : Nat) : (ByteArray.mk l.toArray).get! i = l.getD i 0 := by
  show l.toArray[i]! = _
  simp [List.getD]; rfl
/-- What stands at place p of l: an ASCII byte, or a sign beyond it, all of whose bytes are beyond it. -/
theorem dec_two (l : List UInt8) (p : Nat) (hp : p < l.length) :
    ((l.getD p 0).toNat < 128 ∧ Utf8.decode ⟨l.toArray⟩ p = ((l.getD p 0).toNat, 1)) ∨
    (128 ≤ (Utf8.decode ⟨l.toArray⟩ p).1 ∧ ((Utf8.decode ⟨l.toArray⟩ p).1 < 55296 ∨ (57343 < (Utf8.decode ⟨l.toArray⟩ p).1 ∧ (Utf8.decode ⟨l.toArray⟩ p).1 ≤ 1114111)) ∧ 1 ≤ (Utf8.decode ⟨l.toArray⟩ p).2 ∧
      ∀ j, p ≤ j → j < p + (Utf8.decode ⟨l.toArray⟩ p).2 → 128 ≤ (l.getD j 0).toNat) := by
  have e := Lib.decode_at ⟨l.toArray⟩ p
  simp only [get_list] at e
  have h := decodeN_two ((ByteArray.mk l.toArray).size - p) _ _ _ _ (l.getD p 0).toNat_lt (l.getD (p + 1) 0).toNat_lt (l.getD (p + 2) 0).toNat_lt (l.getD (p + 3) 0).toNat_lt
  rw [← e] at h
  rcases h with h | ⟨h0, h1, h2, h3, h4, h5, h6, h7⟩
  · exact .inl h
  · refine .inr ⟨h1, h2, h3, fun j h8 h9 => ?_⟩
    rcases (show j = p ∨ j = p + 1 ∨ j = p + 2 ∨ j = p + 3 by omega) with rfl | rfl | rfl | rfl
    · exact h0
    · exact h4 (by omega)
    · exact h5 (by omega)
    · exact h6 (by omega)
set_option maxHeartbeats 1000000 in
theorem validRune_any (R : Int) (w : World) (h0 : 0 ≤ R) (h : R < 55296 ∨ (57343 < R ∧ R ≤ 1114111)) : Calls Tryz.prog 98 #[.int .i32 R] w fun e w' => e = .returned (.bool true) ∧ w' = w := by
  rcases h with h | ⟨h1, h2⟩
  · go_enter Tryz.func98, Tryz.ntmps98
    go_wp2_with fail
    go_ret
    exact ⟨rfl, rfl⟩
  · have h3 : ¬ R < 55296 := by omega
    go_enter Tryz.func98, Tryz.ntmps98
    go_wp2_with fail
    go_ret
    exact ⟨rfl, rfl⟩
set_option maxHeartbeats 2000000 in
theorem indexRune_err (w : World) : Calls Tryz.prog 83 #[str [32, 9], .int .i32 65533] w fun e w' => e = .returned (.int .i64 (-1)) ∧ Below w.heap.size w w' := by
  go_enter Tryz.func83, Tryz.ntmps83
  go_wp2_with fail
  go_loopg [5, 6] 2 (fun g _ _ wx => ∃ i : Nat, i + g = 2 ∧ wx = w.iter ⟨#[32, 9]⟩ i)
  case atStart => exact ⟨0, rfl, rfl⟩
  case round =>
    obtain ⟨i, hig, rfl⟩ := hrel
    cases gk with
    | zero =>
      obtain rfl : i = 2 := by omega
      have hnx := fun ty => run_next_end (P := Tryz.prog) w ⟨#[32, 9]⟩ 2 ty (by decide)
      go_wp2_with fail
      go_ret
      exact ⟨rfl, (Below.refl _ w).alloc (Nat.le_refl _) _⟩
    | succ g =>
      rcases (show i = 0 ∨ i = 1 by omega) with rfl | rfl
      · have hnx := fun ty => run_next_ascii (P := Tryz.prog) w ⟨#[32, 9]⟩ 0 ty (by decide) (by decide)
        go_wp2_with fail
        go_roundg g
        case measure => omega
        case rel => exact ⟨1, by omega, rfl⟩
      · have hnx := fun ty => run_next_ascii (P := Tryz.prog) w ⟨#[32, 9]⟩ 1 ty (by decide) (by decide)
        go_wp2_with fail
        go_roundg g
        case measure => omega
        case rel => exact ⟨2, by omega, rfl⟩
theorem belowN2 {w : World} (n m : Nat) : Below w.heap.size w ((w.drewN n).drewN m) := ⟨rfl, rfl, rfl, Nat.le_refl _, fun _ _ => rfl⟩
theorem encode_two (R : Int) (h1 : 128 ≤ R) (h : R < 55296 ∨ (57343 < R ∧ R ≤ 1114111)) :
    ∃ E : List UInt8, Utf8.encode R = ⟨E.toArray⟩ ∧ 2 ≤ E.length ∧ E.length ≤ 4 ∧ 128 ≤ (E.getD (E.length - 1) 0).toNat := by
  have hv : Utf8.valid R = true := by rw [validRune_eq]; unfold validRune; rw [decide_eq_true_eq]; omega
  obtain ⟨e1, e2, e3⟩ := encode_facts R hv h1
  have hl : (Utf8.encode R).data.toList.length = (Utf8.encode R).size := (Lib.size_eq _).symm
  refine ⟨(Utf8.encode R).data.toList, by simp, by omega, by omega, ?_⟩
  have h3 := e3 (by omega)
  rw [hl]
  have hg : (Utf8.encode R).data.toList.getD ((Utf8.encode R).size - 1) 0 = (Utf8.encode R)[(Utf8.encode R).size - 1]'(by omega) := by
    have := Lib.data_getElem? (Utf8.encode R) ((Utf8.encode R).size - 1) (by omega)
    rw [List.getD_eq_getElem?_getD, this]; rfl
  rw [hg]
  exact h3
set_option maxHeartbeats 2000000 in
theorem indexRune_far (R : Int) (w : World) (h1 : 128 ≤ R) (h : R < 55296 ∨ (57343 < R ∧ R ≤ 1114111)) (hne : R ≠ 65533) : Calls Tryz.prog 83 #[str [32, 9], .int .i32 R] w fun e w' => e = .returned (.int .i64 (-1)) ∧ Below w.heap.size w w' := by
  obtain ⟨E, hE, hE1, hE2, hE3⟩ := encode_two R h1 h
  have hcv : ∀ W, (convert 21 9 (.int .i32 R)).run Tryz.prog W = .ok (str E) W := fun W => by
    rw [run_convert_int_string W 21 9 .i32 R (by kernel_rfl) Tryz.underlying9, hE]
  have HV := Lib.hid (fun W => validRune_any R W (by omega) h)
  have g0 : ¬ R < 128 := by omega
  have g1 : (R == 65533) = false := by simpa using hne
  clear h hE hne
  go_enter Tryz.func83, Tryz.ntmps83
  go_wp2_with fail
  refine (HV.out w).mono ?_
  rintro e w1 ⟨rfl, rfl⟩
  go_wp2_with fail
  go_step3
  go_wp2_with fail
  go_loopw [9, 10] (fun i f wr => i = .int .i64 ((E.length : Int) - 1) ∧ f = .int .i64 0 ∧ wr = w1) (fun _ _ _ => 0)
  case atStart => exact ⟨rfl, rfl, rfl⟩
  case round =>
    obtain ⟨rfl, rfl, rfl⟩ := hrel
    by_cases h2 : E.length = 2
    · have hi : (E.length : Int) - 1 = 1 := by omega
      have hi1 : (1 : Int) + 1 = 2 := rfl
      rw [hi]
      have q1 : ∀ W, (Instr.index 9 (str [32, 9]) (.int .i64 1)).run Tryz.prog W = .ok (.int .u8 9) W := fun W => str_index [32, 9] 1 (by decide) W
      have q2 : ∀ W, (Instr.index 9 (str E) (.int .i64 1)).run Tryz.prog W = .ok (vb (E.getD 1 0)) W := fun W => str_index E 1 (by omega) W
      have q3 : ∀ W, (Instr.slice 9 (str [32, 9]) (some (.int .i64 2)) none none).run Tryz.prog W = .ok (str []) W := fun W => str_drop [32, 9] 2 (by decide) W
      obtain ⟨x, hx⟩ : ∃ x, x = E.getD 1 0 := ⟨_, rfl⟩
      rw [show E.length - 1 = 1 by omega, ← hx] at hE3
      rw [← hx] at q2
      have hb := bn_range x
      have hbx : bn x = (x.toNat : Int) := rfl
      obtain ⟨X, hX⟩ : ∃ X, X = bn x := ⟨_, rfl⟩
      rw [show vb x = .int .u8 X from by rw [hX]] at q2
      have hne : ((9 : Int) != X) = true := by rw [bne_iff_ne]; omega
      have q4 : ∀ W, Calls Tryz.prog 97 #[str [], .int .u8 X] W fun e w' => e = .returned (.int .i64 (-1)) ∧ w' = W := fun W => Tryz.strings_IndexByte ⟨#[]⟩ X W
      have hw2 : IntKind.i64.wrap 2 = 2 := by decide
      clear hx hb hbx hX h2 hi hcv HV g1 g0
      go_wp2_with fail
      go_step3
      go_wp2_with fail
      go_quiet (fail)
      obtain ⟨W5, hW5⟩ : ∃ W, W = wr.drewN nq := ⟨_, rfl⟩
      have hB5 : Below wr.heap.size wr W5 := by rw [hW5]; exact ⟨rfl, rfl, rfl, Nat.le_refl _, fun _ _ => rfl⟩
      rw [← hW5]
      clear hW5
      go_wp2_with fail
      go_quiet ((go_at_call 97; exact Calls.quiet_of_same (q4 _)))
      go_wp2_with fail
      simp (zetaDelta := true) only [Exit.noGoto, Exit.inBlock, Exit.then]
      go_ret
      exact ⟨rfl, hB5.trans ⟨rfl, rfl, rfl, Nat.le_refl _, fun _ _ => rfl⟩⟩
    · have hi : ¬ (E.length : Int) - 1 < 2 := by omega
      clear hcv HV
      go_wp2_with fail
      first | go_ret | (rw [Exit.noGoto_ret]; go_ret3)
      exact ⟨rfl, Below.refl _ _⟩
theorem indexRune_low (R : Int) (w : World) (h0 : 0 ≤ R) (h1 : R < 128) : Calls Tryz.prog 83 #[str [32, 9], .int .i32 R] w fun e w' => e = .returned (.int .i64 (Lib.indexByte [32, 9] R.toNat.toUInt8)) ∧ Below w.heap.size w w' :=
  (Tryz.strings_IndexRune_ascii ⟨#[32, 9]⟩ R w h0 h1).mono fun _ _ ⟨h, h2⟩ => ⟨h, by rw [h2]; exact Below.refl _ _⟩
theorem shouldUse_any (n : Int) (w : World) : Calls Tryz.prog 91 #[.int .i64 n] w fun e w' => e = .returned (.bool (decide (8 < n))) ∧ w' = w := by
  go_enter Tryz.func91, Tryz.ntmps91
  go_wp2_with fail
  go_ret
  exact ⟨rfl, rfl⟩
set_option maxHeartbeats 2000000 in
theorem indexAny_few (s : List UInt8) (w : World) (h8 : s.length ≤ 8) :
    Calls Tryz.prog 73 #[str s, str [32, 9]] w fun e w' => ∃ i : Int, e = .returned (.int .i64 i) ∧ decide (0 ≤ i) = Lib.containsAny s [32, 9] ∧ Below w.heap.size w w' := by
  have h8z : decide ((8 : Int) < (s.length : Int)) = false := decide_eq_false (by omega)
  have HU := Lib.hid (fun W => shouldUse_any (s.length : Int) W)
  rw [h8z] at HU
  clear h8z
  go_enter Tryz.func73, Tryz.ntmps73
  go_wp2_with fail
  refine (HU.out _).mono ?_
  rintro e w1 ⟨rfl, rfl⟩
  go_wp2_with fail
  go_loopg [9, 10] s.length (fun g _ _ wx => ∃ i : Nat, s.length ≤ i + g ∧ wx.heap[w1.heap.size]? = some (.stringIter ⟨s.toArray⟩ i) ∧ Below w1.heap.size w1 wx ∧ Lib.NoAny s [32, 9] i)
  case atStart => exact ⟨0, by omega, World.iter_heap w1 ⟨s.toArray⟩ 0, (Below.refl _ w1).alloc (Nat.le_refl _) _, Lib.NoAny.zero _ _⟩
  case round =>
    obtain ⟨i, hig, hit, hb, hno⟩ := hrel
    have HN := Lib.hid hno; clear hno
    have HB := Lib.hid hb; clear hb
    by_cases hlt : i < s.length
    · obtain ⟨g', rfl⟩ : ∃ g', gk = g' + 1 := ⟨gk - 1, by omega⟩
      have hnx := fun ty => Lib.run_next_any_at (P := Tryz.prog) wr w1.heap.size ⟨s.toArray⟩ i ty hit (by simpa [ByteArray.size] using hlt)
      have hd := dec_two s i hlt
      have hxl : s[i]? = some (s.getD i 0) := by rw [List.getD_eq_getElem?_getD, List.getElem?_eq_getElem hlt]; rfl
      obtain ⟨R, hR⟩ : ∃ R, (Utf8.decode ⟨s.toArray⟩ i).1 = R := ⟨_, rfl⟩
      obtain ⟨K, hK⟩ : ∃ K, (Utf8.decode ⟨s.toArray⟩ i).2 = K := ⟨_, rfl⟩
      have hpr : Utf8.decode ⟨s.toArray⟩ i = (R, K) := Prod.ext hR hK
      rw [hpr] at hd
      rw [hR, hK] at hnx
      simp only at hd
      have hit2 := Lib.iterAt_heap wr w1.heap.size ⟨s.toArray⟩ i (i + K) hit
      have hbw2 := Lib.below_iterAt HB.out (k := w1.heap.size) (Nat.le_refl _) ⟨s.toArray⟩ (i + K)
      obtain ⟨W, hWd⟩ : ∃ W, wr.iterAt w1.heap.size ⟨s.toArray⟩ (i + K) = W := ⟨_, rfl⟩
      rw [hWd] at hnx hit2 hbw2
      have HIT := Lib.hid hit2; have HBW := Lib.hid hbw2
      have hlt2 := (Array.getElem?_eq_some_iff.1 hit2).1
      clear hit hit2 hbw2 hWd hpr hR hK HB
      have HX := Lib.hid hxl; clear hxl
      rcases hd with ⟨h1, h2⟩ | ⟨h1, h2, h3, h4⟩
      · obtain ⟨x, hx⟩ : ∃ x, x = s.getD i 0 := ⟨_, rfl⟩
        rw [← hx] at h1 h2 HX
        injection h2 with h2 h3
        clear hx
        subst h2 h3
        have hback : ((x.toNat : Int)).toNat.toUInt8 = x := by simp
        have hcon := Lib.contains_iff_indexByte [32, 9] x
        have HC := Lib.hid (indexRune_low (x.toNat : Int) W (by omega) (by omega))
        rw [hback] at HC
        obtain ⟨c, hc⟩ : ∃ c, c = ([32, 9] : List UInt8).contains x := ⟨_, rfl⟩
        obtain ⟨I, hI⟩ : ∃ I, I = Lib.indexByte [32, 9] x := ⟨_, rfl⟩
        rw [← hc, ← hI] at hcon
        rw [← hI] at HC
        have HCC := Lib.hid hc
        clear hback hc hI h1
        cases c
        · have hlow : ¬ 0 ≤ I := of_decide_eq_false hcon.symm
          clear hcon
          go_wp2_with fail
          refine HC.out.mono ?_
          rintro e w3 ⟨rfl, hb3⟩
          have hh := hb3.block _ hlt2
          have HI3 := Lib.hid (hh.trans HIT.out)
          have HB3 := Lib.hid (HBW.out.trans (hb3.mono (by omega)))
          clear hb3 hh
          go_wp2_with fail
          go_roundg g'
          case measure => omega
          case rel => exact ⟨i + 1, by omega, HI3.out, HB3.out, HN.out.succ HX.out HCC.out.symm⟩
        · have hge : 0 ≤ I := of_decide_eq_true hcon.symm
          clear hcon
          have hres : decide ((0 : Int) ≤ (i : Int)) = Lib.containsAny s [32, 9] := by
            unfold Lib.containsAny
            rw [Lib.indexAny_hit HN.out HX.out HCC.out.symm]
          have HR := Lib.hid hres; clear hres
          go_wp2_with fail
          refine HC.out.mono ?_
          rintro e w3 ⟨rfl, hb3⟩
          have HB3 := Lib.hid (HBW.out.trans (hb3.mono (by omega)))
          clear hb3
          go_wp2_with fail
          go_ret
          exact ⟨_, rfl, HR.out, HB3.out⟩
      · have HNK := Lib.hid (show Lib.NoAny s [32, 9] (i + K) from fun j b hj hb => by
          by_cases hji : j < i
          · exact HN.out j b hji hb
          · have h5 := h4 j (by omega) hj
            rw [List.getD_eq_getElem?_getD, hb] at h5
            simp only [Option.getD_some] at h5
            have e1 : b ≠ 32 := fun e => by subst e; revert h5; decide
            have e2 : b ≠ 9 := fun e => by subst e; revert h5; decide
            simp [e1, e2])
        have HC : Hid (Calls Tryz.prog 83 #[str [32, 9], .int .i32 (R : Int)] W fun e w' => e = .returned (.int .i64 (-1)) ∧ Below W.heap.size W w') := Lib.hid (by
          by_cases h6 : (R : Int) = 65533
          · rw [h6]; exact indexRune_err W
          · exact indexRune_far (R : Int) W (by omega) (by omega) h6)
        clear h4 h2 h1 HN
        go_wp2_with fail
        refine HC.out.mono ?_
        rintro e w3 ⟨rfl, hb3⟩
        have hh := hb3.block _ hlt2
        have HI3 := Lib.hid (hh.trans HIT.out)
        have HB3 := Lib.hid (HBW.out.trans (hb3.mono (by omega)))
        clear hb3 hh
        go_wp2_with fail
        go_roundg g'
        case measure => omega
        case rel => exact ⟨i + K, by omega, HI3.out, HB3.out, HNK.out⟩
    · have hnx := fun ty => Lib.run_next_end_at (P := Tryz.prog) wr w1.heap.size ⟨s.toArray⟩ i ty hit (by simpa [ByteArray.size] using hlt)
      have hres : decide ((0 : Int) ≤ -1) = Lib.containsAny s [32, 9] := by
        unfold Lib.containsAny
        rw [Lib.indexAny_none (fun j b hj hb => HN.out j b (by omega) hb)]
      have HR := Lib.hid hres; clear hres
      go_wp2_with fail
      go_ret
      exact ⟨_, rfl, HR.out, HB.out⟩
theorem indexAny_all (s : List UInt8) (w : World) (hs : s.length ≤ 100000) :
    Calls Tryz.prog 73 #[str s, str [32, 9]] w fun e w' => ∃ i : Int, e = .returned (.int .i64 i) ∧ decide (0 ≤ i) = Lib.containsAny s [32, 9] ∧ Below w.heap.size w w' := by
  by_cases h8 : s.length ≤ 8
  · exact indexAny_few s w h8
  · refine (Tryz.strings_IndexAny_long (fun w => by first | exact Tryz.zeroValue94 w | exact Tryz.zeroValue94 | go_simp) ⟨s.toArray⟩ ⟨#[32, 9]⟩ w (by decide) (by simp [ByteArray.size]; omega) (by simp [ByteArray.size]; omega) (by decide) ?_).mono ?_
    · intro j b hb
      rcases j with _ | _ | j
      · cases hb; decide
      · cases hb; decide
      · cases hb
    · rintro e w' ⟨rfl, hw⟩
      refine ⟨_, rfl, rfl, ?_⟩
      rw [hw]
      exact ((Below.refl _ w).alloc (Nat.le_refl _) _).alloc (by simp) _
/-- Has a text a blank or a tab? -/
theorem has_any (s : List UInt8) (w : World) (hs : s.length ≤ 100000) :
    Calls Tryz.prog 59 #[str s, str [32, 9]] w fun e w' => e = .returned (.bool (Lib.containsAny s [32, 9])) ∧ Below w.heap.size w w' := by
  have HI := Lib.hid (indexAny_all s w hs)
  obtain ⟨c, hc⟩ : ∃ c, c = Lib.containsAny s [32, 9] := ⟨_, rfl⟩
  rw [← hc] at HI ⊢
  clear hc
  go_enter Tryz.func59, Tryz.ntmps59
  go_wp2_with fail
  refine HI.out.mono ?_
  rintro e w1 ⟨i, rfl, hi, hb⟩
  have HB := Lib.hid hb; clear hb
  have HD := Lib.hid hi; clear hi
  go_wp2_with fail
  go_ret
  exact ⟨by rw [← HD.out]; rfl, HB.out⟩
end Go.Proofs.YtajclihnoedecaaGreatDoor
