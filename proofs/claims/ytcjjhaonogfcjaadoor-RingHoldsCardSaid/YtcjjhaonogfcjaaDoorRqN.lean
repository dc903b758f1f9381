/- ring over a symbolic box: New, Retire; what the tags are. -/
import Derived.Test.YtcjjhaonogfcjaaDoorRqR
import Derived.Test.YtcjjhaonogfcjaaDoorRqFS
set_option maxRecDepth 100000
namespace Go.Proofs.YtcjjhaonogfcjaaDoor
open Go.RowKit
attribute [local go_sem] Oper.semAt_some
/-- The handle with number n. -/
def tgN (n : Nat) : List UInt8 := fro ++ len4 n
theorem tgN_len (n : Nat) : (tgN n).length = 32 := by unfold tgN; rw [List.length_append, fro_length]; rfl
theorem tgN_inj {a b : Nat} (ha : a < 4294967296) (hb : b < 4294967296) (h : tgN a = tgN b) : a = b := by
  unfold tgN at h
  have h2 := List.append_cancel_left h
  unfold len4 at h2
  simp only [List.cons.injEq, and_true] at h2
  rw [← num4_len4 a ha, ← num4_len4 b hb, h2.1, h2.2.1, h2.2.2.1, h2.2.2.2]
theorem tagE_len (es : List EnL) (e : EnL) : (tagE es e).length = 32 := by
  unfold tagE
  split
  · exact tgN_len _
  · split
    · simp [noughtsL]
    · exact tgN_len _
theorem tag_new {es : List EnL} {e : EnL} (h : e ∉ es) (hl : es.length < 4096) : tagE es e = tgN (es.length + 1) ∧ esE es e = es ++ [e] := by
  unfold tagE esE
  rw [if_neg h, if_neg (by omega), if_neg h, if_neg (by omega)]
  exact ⟨rfl, rfl⟩
theorem tag_keep {es : List EnL} {E e : EnL} (h : E ∈ es) : tagE (esE es e) E = tagE es E ∧ E ∈ esE es e := by
  unfold esE
  split
  · exact ⟨rfl, h⟩
  · rename_i hn
    split
    · exact ⟨rfl, h⟩
    · have hne : E ≠ e := fun q => hn (q ▸ h)
      refine ⟨?_, List.mem_append_left _ h⟩
      unfold tagE
      rw [if_pos (List.mem_append_left _ h), if_pos h, numE_old hne]
set_option maxHeartbeats 4000000 in
theorem newRing_q (w : World) (base b m room B n c : Nat) (a : Addr) (rv : Value) (full : Bool) (es : List EnL) (key : List UInt8) (hX : BX w base b m rv true full es) (hv : Sl w B (.slice (some a) n c) key) (hB : B ≤ w.heap.size) (hn : n = key.length) (h1 : 1 ≤ key.length) (h2 : key.length ≤ 64) (hr1 : 1 ≤ room) (hr2 : room ≤ 8)
    (hP : PowE w) (hgp : 0 < base) :
    Calls Tryd.prog 7 #[.pointer (some ⟨b, 0, none⟩), .slice (some a) n c, .int .i64 (room : Int)] w fun e w' => ∃ r V MV L rv', e = .returned (.tuple #[.pointer (some ⟨r, 0, none⟩), .int .i64 0]) ∧ RQ w' base r b V MV room 1 L key (tagE es (macE key (keyT 1))) ∧ BX w' base b m rv' true (fullE full es (macE key (keyT 1))) (esE es (macE key (keyT 1))) ∧ L.map KyL.n = [1] ∧ Trs (bS b m rv) w w' := by
  have HC := Lib.hid (clone_any B a n c key w hv hB (by omega))
  have hbl := hX.blk.lt
  have hbb := hX.bb
  have e1 : ((n : Int) == 0) = false := by rw [beq_eq_false_iff_ne]; omega
  have e2 : decide ((64 : Int) < (n : Int)) = false := decide_eq_false (by omega)
  have e3 : decide ((room : Int) < 1) = false := decide_eq_false (by omega)
  have e4 : decide ((8 : Int) < (room : Int)) = false := decide_eq_false (by omega)
  have e5 : ¬ (64 : Int) < (n : Int) := by omega
  have e6 : ¬ (room : Int) < 1 := by omega
  have e7 : ¬ (8 : Int) < (room : Int) := by omega
  have e8 : ¬ (n : Int) = 0 := by omega
  have HBX := Lib.hid hX
  have HP := Lib.hid hP
  have HRM := Lib.hid (And.intro hr1 hr2)
  have HKL := Lib.hid (And.intro h1 h2)
  have HGG := Lib.hid hgp
  have HBB := Lib.hid (And.intro hbb hbl)
  clear hX hv hP hr1 hr2 h1 h2 hgp hbb hbl hn
  go_enter Tryd.func7, Tryd.ntmps7
  go_wp2_with fail
  refine HC.out.mono ?_
  rintro e w1 ⟨MV, rfl, hO, hb⟩
  obtain ⟨MA, mc, rfl, -⟩ := hO.sl
  have HO := Lib.hid hO
  have HB1 := Lib.hid hb
  clear hO hb HC e1 e2 e3 e4 e5 e6 e7 e8
  go_wp2_with fail
  obtain ⟨W2, hW2⟩ : ∃ W2, W2 = w1.alloc (.cells #[.pointer (some ⟨b, 0, none⟩), .slice MA key.length mc, .int .i64 (room : Int), .int .u64 0, .slice none 0 0] 49) := ⟨_, rfl⟩
  have hb2 : Below w1.heap.size w1 W2 := by rw [hW2]; exact (Below.refl _ _).alloc (Nat.le_refl _) _
  have HB2 := Lib.hid (HB1.out.trans (hb2.mono HB1.out.size))
  have H2 := Lib.hid (show RQ W2 base w1.heap.size b (.slice none 0 0) (.slice MA key.length mc) room 0 [] key (tagE es (macE key (keyT 1))) from by
    have hz := HB1.out.size
    have hbb := HBB.out
    refine ⟨by rw [hW2]; exact Blk.new w1 _ _, OwnY.nil _ _ _, (HO.out.lower (by omega)).below hb2, (fun q hq => by simp at hq), by omega, by omega, (fun e => by cases e), ⟨fun e => by have := (HO.out.lt _ e).2; omega, fun e => by have := (HO.out.lt _ e).1; omega⟩, (fun q hq => by simp at hq), HKL.out.2, by rw [tagE_len]; omega, by simp, HRM.out.2, by omega, (HP.out.below HB1.out).below hb2, HGG.out⟩)
  have HX2 := Lib.hid (HBX.out.below HB2.out)
  rw [← hW2]
  clear hW2 hb2
  refine (rotate_q H2.out HX2.out (by simp) (by omega) (fun _ => rfl)).mono ?_
  rintro e w3 ⟨rfl, V', L', rv', h3, hx3, hm, ht⟩
  have H3 := Lib.hid h3
  have HX3 := Lib.hid hx3
  have HM := Lib.hid hm
  have HT3 := Lib.hid ht
  have HZ := Lib.hid HB1.out.size
  clear h3 hx3 hm ht H2
  go_wp2_with fail
  go_ret2
  refine ⟨_, _, _, _, _, rfl, H3.out, HX3.out, ?_, (Trs.of_below HB2.out).next HT3.out (fun k hk => ?_)⟩
  · rw [HM.out]
    have := HRM.out
    unfold keepQ
    simp only [List.map_nil, List.nil_append, List.length_singleton]
    rw [if_neg (by omega)]
  · rcases List.mem_append.1 hk with hk | hk
    · rcases mem_rgS.1 hk with e | e
      · right; rw [e]; exact HZ.out
      · cases e
    · exact .inl hk
section
variable {w : World} {base r b m room last : Nat} {V MV rv : Value} {full : Bool} {L : List KyL} {es : List EnL} {key K1 : List UInt8}
set_option maxHeartbeats 4000000 in
theorem retire_q (h : RQ w base r b V MV room last L key K1) (ep : Nat) (hx : ∃ k ∈ L, k.n = ep) :
    Calls Tryd.prog 11 #[.pointer (some ⟨r, 0, none⟩), .int .u64 (ep : Int)] w fun e w' => e = .returned (.int .i64 0) ∧
      ∃ V' L' k, RQ w' base r b V' MV room last L' key K1 ∧ (∃ hk : k < L.length, L[k].n = ep) ∧ L' = L.take k ++ L.drop (k + 1) ∧ Trs (rgS r V) w w' := by
  have HF := Lib.hid (find_q h ep)
  have HX := Lib.hid hx
  have HH := Lib.hid h
  obtain ⟨A, c, rfl, -⟩ := h.own.form
  clear h hx
  go_enter Tryd.func11, Tryd.ntmps11
  go_wp2_with fail
  refine HF.out.mono ?_
  rintro e w1 ⟨⟨i, rfl, hF⟩, hb⟩
  obtain ⟨k, hk, hi, hn⟩ : ∃ k, ∃ h : k < L.length, i = (k : Int) ∧ L[k].n = ep := by
    rcases hF with ⟨_, h⟩ | h
    · obtain ⟨y, hy, hye⟩ := HX.out
      obtain ⟨j, hj, rfl⟩ := List.getElem_of_mem hy
      exact absurd hye (h j hj)
    · exact h
  subst hi
  have H1 := Lib.hid (HH.out.below hb)
  have HT1 := Lib.hid (show Trs (rgS r (.slice A L.length c)) w w1 from Trs.of_below hb)
  have HKN := Lib.hid hn
  have HLL := Lib.hid H1.out.len
  obtain ⟨g, rfl⟩ : ∃ g, A = some ⟨g, 0, none⟩ := by
    rcases H1.out.own.2 with ⟨e, _⟩ | ⟨g, cap', cur, e, _⟩
    · injection e with e1 e2 _
      omega
    · injection e with e1 _ _
      exact ⟨g, e1⟩
  have k4 : w1.cell? ⟨r, 4, none⟩ = some (.slice (some ⟨g, 0, none⟩) L.length c) := H1.out.blk.at (o := 4) rfl
  have HDEL := Lib.hid (delete_ky base g c L k (k + 1) rfl w1 H1.out.own hk (by have := HLL.out; omega))
  have hcast : (((k + 1 : Nat) : Int)) = (k : Int) + 1 := by omega
  rw [hcast] at HDEL
  have hwr : IntKind.i64.wrap ((k : Int) + 1) = (k : Int) + 1 := IntWalk.i64_in _ (by have := HLL.out; omega)
  have hneg : decide ((k : Int) < 0) = false := decide_eq_false (by omega)
  clear hF hb hn HF HX HH hcast
  go_wp2_with fail
  refine HDEL.out.mono ?_
  rintro e w8 ⟨rfl, hO8, hg8⟩
  obtain ⟨h9, ht9⟩ := H1.out.gone hO8 hg8 (by rw [List.length_append, List.length_take, List.length_drop]; have := HLL.out; omega) (fun q hq => by rcases List.mem_append.1 hq with hq | hq; exact List.mem_of_mem_take hq; exact List.mem_of_mem_drop hq)
  have hk8 := H1.out.blk.grown hg8 (fun e => H1.out.vr e.symm)
  have HT9 := Lib.hid (HT1.out.trans ht9)
  have H9 := Lib.hid h9
  have c8 : w8.cell? ⟨r, 4, none⟩ = some (.slice (some ⟨g, 0, none⟩) L.length c) := hk8.at (o := 4) rfl
  have f8 := hk8.free 4
  clear h9 ht9 hk8 hO8 hg8 HDEL H1 HT1 k4 hwr hneg
  go_wp2_with fail
  go_ret
  exact ⟨rfl, _, _, k, H9.out, ⟨hk, HKN.out⟩, rfl, HT9.out⟩
theorem retireq_none (h : RQ w base r b V MV room last L key K1) (ep : Nat) (hn : ∀ k ∈ L, k.n ≠ ep) :
    Calls Tryd.prog 11 #[.pointer (some ⟨r, 0, none⟩), .int .u64 (ep : Int)] w fun e w' => e = .returned (.int .i64 15) ∧ Below w.heap.size w w' := by
  have HF := Lib.hid (find_q h ep)
  have HN := Lib.hid hn
  clear h hn
  go_enter Tryd.func11, Tryd.ntmps11
  go_wp2_with fail
  refine HF.out.mono ?_
  rintro e w1 ⟨⟨i, rfl, hF⟩, hb⟩
  have hi : i = -1 := by
    rcases hF with ⟨h, _⟩ | ⟨k, hk, _, h⟩
    · exact h
    · exact absurd h (HN.out _ (List.getElem_mem hk))
  subst hi
  have HB := Lib.hid hb
  clear hF hb HF
  go_wp2_with fail
  go_ret
  exact ⟨rfl, HB.out⟩
end
end Go.Proofs.YtcjjhaonogfcjaaDoor
