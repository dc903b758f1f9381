/- name.Append; the statement NameAppends' own text, walked. -/
import Derived.Test.YtpphccjpdkcnmaaDoorNmAwake
import Derived.Test.YtpphccjpdkcnmaaDoorNmStays
import Derived.Test.YtpphccjpdkcnmaaDoorNmLawSigns
import Derived.Test.YtpphccjpdkcnmaaDoorSame
namespace Go.Proofs.YtpphccjpdkcnmaaDoor
open Go.RowKit Go.Shelf
set_option maxRecDepth 100000 in
theorem append_any (B : Nat) (v : Value) (l : List UInt8) (r : Int) (w : World) (hv : Sl w B v l) (hB : B ≤ w.heap.size) (hl : l.length ≤ 1000) (h0 : -2147483648 ≤ r) (h1 : r ≤ 2147483647) :
    Calls Tryd.prog 16 #[v, .int .i32 r] w fun e w' => ∃ v', e = .returned v' ∧ Sl w' w'.heap.size v' (l ++ Lib.encodeRune r) ∧ Below w.heap.size w w' := by
  have HV := Lib.hid hv
  obtain ⟨A, c, rfl, _, k1, k2, _⟩ := hv
  have hmk : (Instr.makeSlice 32 (.int .i64 0) (.int .i64 ((l.length : Int) + 4))).run Tryd.prog w = .ok (.slice (some ⟨w.heap.size, 0, none⟩) 0 (l.length + 4)) (w.alloc (.cells (noughts (l.length + 4)) 5)) := make_bytes 0 (l.length + 4) (by omega) (by omega) w
  have HO := Lib.hid (OwnB.of_heap (base := w.heap.size) (g := w.heap.size) (cap := l.length + 4) (n := 0) (l := []) (Nat.le_refl _) (heap_alloc_new w (.cells (noughts (l.length + 4)) 5)) (noughts_size _) (by unfold maxLen; omega) rfl (by simp) (by omega))
  have HB1 := Lib.hid ((Below.refl w.heap.size w).alloc (Nat.le_refl _) (.cells (noughts (l.length + 4)) 5))
  have HS1 := Lib.hid (HV.out.below HB1.out hB)
  have hW1 : w.heap.size ≤ (w.alloc (.cells (noughts (l.length + 4)) 5)).heap.size := by simp
  obtain ⟨W1, hW⟩ : ∃ W1, W1 = w.alloc (.cells (noughts (l.length + 4)) 5) := ⟨_, rfl⟩
  rw [← hW] at HO HB1 HS1 hmk hW1
  clear hW
  go_enter Tryd.func16, Tryd.ntmps16
  go_wp2_with (at_builtin; ((with_reducible refine wpList_app_sl ?f1 (.tmp 10) (.tmp 11) ?f2 w.heap.size (.slice (some ⟨w.heap.size, 0, none⟩) 0 (l.length + 4)) [] l ?f3 ?f4 B (.slice A l.length c) ?f5 ?f6 ?f7 ?f8 ?_); (case f1 => rfl); (case f2 => rfl); (case f3 => rfl); (case f4 => exact HO.out); (case f5 => rfl); (case f6 => exact HS1.out); (case f7 => simp; omega); (case f8 => exact hW1); intro v' w2 hv hg; have Hv := Lib.hid hv; clear hv; have Hg := Lib.hid (HB1.out.trans (HO.out.belowBase hg hW1)); clear hg))
  have hown := Hv.out.f
  rw [List.nil_append] at hown
  have HAP := Lib.hid (Tryd.utf8_AppendRune_row w.heap.size v' l.length (l.map vb) r h0 h1 w2 hown (by omega) Hg.out.size)
  refine HAP.out.mono ?_
  rintro e w3 ⟨v3, rfl, hO3, o3, hg3⟩
  have hO4 : OwnF w3 w.heap.size v3 (l ++ Lib.encodeRune r) := by
    unfold OwnF
    rw [List.length_append, ← Lib.runeCells_length, ← vb_cells]
    exact hO3
  have hb3 : Below w.heap.size w w3 := (Hg.out.alloc Hg.out.size o3).grown hg3 (by have := Hg.out.size; simp; omega) (fun j e => by
    rcases hown.2 with ⟨h0, _⟩ | ⟨g, cap, cur, fz, h0, hb, _, _⟩
    · rw [h0] at e; simp [Value.ownBlock] at e
    · rw [h0] at e
      have : g = j := by simpa [Value.ownBlock] using e
      omega)
  have HO4 := Lib.hid hO4.sl
  have HB3 := Lib.hid hb3
  clear hO3 hO4 hg3 hb3 hown
  go_wp2_with fail
  go_ret
  exact ⟨_, rfl, HO4.out, HB3.out⟩
/-- A sign's bytes hold one sign. -/
theorem one_sign (r : Int) (h : r ≤ 2147483647) : ∃ x : Int, runesF (Lib.encodeRune r).length 0 (Lib.encodeRune r) = [(0, x)] ∧ (x = r ∨ (x ≠ r ∧ x = 65533)) := by
  have key : ∀ q : Int, okR q → runesF (Lib.encodeRune q).length 0 (Lib.encodeRune q) = [(0, q)] := by
    intro q hq
    have hp := enc_pos q
    have hd := dec_enc q [] hq
    rw [List.append_nil] at hd
    obtain ⟨f, hf⟩ : ∃ f, (Lib.encodeRune q).length = f + 1 := ⟨(Lib.encodeRune q).length - 1, by omega⟩
    have hs := sg_enc q [] hq
    rw [List.append_nil, sg_step _ (by intro e; rw [e] at hp; simp at hp)] at hs
    have h1 : sg1 (dec1 (Lib.encodeRune q)) = q := (List.cons.inj hs).1
    rw [hf, runesF, if_neg (by omega), h1, hd]
    simp only [List.drop_length]
    cases f <;> simp [runesF]
  by_cases hq : okR r
  · exact ⟨r, key r hq, .inl rfl⟩
  · refine ⟨65533, ?_, .inr ⟨fun e => hq (by rw [← e]; right; omega), rfl⟩⟩
    have e : Lib.encodeRune r = Lib.encodeRune 65533 := by
      unfold Lib.encodeRune
      rw [Lib.encodeRuneZ_bad (by unfold okR at hq; omega)]
      decide +kernel
    rw [e]
    exact key 65533 (.inr (by omega))
end Go.Proofs.YtpphccjpdkcnmaaDoor
