/- hmac.Equal (out of HmB). ring over a symbolic box: find, Key, Retire. ring over a symbolic box: Sign, Verify. (By mkrqs.py.) -/
import Derived.Test.YtcjjhaonogfcjaaDoorHmAr
import Derived.Deep.QuietTactic
import Derived.BigQuiet
import Derived.Test.YtcjjhaonogfcjaaDoorRqAB
import Derived.Test.YtcjjhaonogfcjaaDoorRkN
set_option maxRecDepth 100000
namespace Go.Proofs.YtcjjhaonogfcjaaDoor
open Go.RowKit
theorem or_zero8 (z t : UInt8) : z ||| t = 0 ↔ z = 0 ∧ t = 0 := by
  constructor
  · intro h
    have hb : z.toBitVec ||| t.toBitVec = 0#8 := congrArg UInt8.toBitVec h
    have h1 : ∀ i, (z.toBitVec.getLsbD i || t.toBitVec.getLsbD i) = false := fun i => by
      have := congrArg (fun v => v.getLsbD i) hb
      simpa using this
    refine ⟨UInt8.toBitVec_inj.1 (BitVec.eq_of_getLsbD_eq fun i hi => ?_), UInt8.toBitVec_inj.1 (BitVec.eq_of_getLsbD_eq fun i hi => ?_)⟩
    · have := h1 i
      simp only [Bool.or_eq_false_iff] at this
      simpa using this.1
    · have := h1 i
      simp only [Bool.or_eq_false_iff] at this
      simpa using this.2
  · rintro ⟨rfl, rfl⟩; rfl
theorem xor_zero8 (x y : UInt8) : x ^^^ y = 0 ↔ x = y := by
  constructor
  · intro h
    have h2 : (x ^^^ y) ^^^ y = 0 ^^^ y := by rw [h]
    simpa [UInt8.xor_assoc] using h2
  · rintro rfl; simp
set_option maxRecDepth 100000 in
set_option maxHeartbeats 2000000 in
theorem equal_any (B : Nat) (v1 v2 : Value) (a b : List UInt8) (w : World) (h1 : Sl w B v1 a) (h2 : Sl w B v2 b) (hla : a.length ≤ 10000) (hB : B ≤ w.heap.size) :
    Calls Tryd.prog 16 #[v1, v2] w fun e w' => e = .returned (.bool (a == b)) ∧ Below w.heap.size w w' := by
  obtain ⟨A1, c1, rfl, _, p1, p2, p3⟩ := h1
  obtain ⟨A2, c2, rfl, _, q1, q2, q3⟩ := h2
  have P3 := Lib.hid p3; clear p3
  have Q3 := Lib.hid q3; clear q3
  by_cases hne : a.length = b.length
  · obtain ⟨n, hn⟩ : ∃ n : Nat, n = a.length := ⟨_, rfl⟩
    have hnb : b.length = n := by omega
    rw [hnb] at q1 Q3 ⊢
    rw [← hn] at p1 P3 ⊢
    have HA := Lib.hid hn; clear hn
    have HB := Lib.hid hnb; clear hnb hne
    have hla' : n ≤ 10000 := by have := HA.out; omega
    clear hla
    go_enter Tryd.func16, Tryd.ntmps16
    go_wp2_with fail
    go_loopw [5, 6, 14] (fun d _ i wr => ∃ (j : Nat) (z : UInt8), j ≤ n ∧ i = .int .i64 j ∧ d = vb z ∧ (z = 0 ↔ a.take j = b.take j) ∧ Below w.heap.size w wr) (fun _ _ i _ => n - (intOf i).toNat)
    case atStart => exact ⟨0, 0, by omega, rfl, rfl, by simp, Below.refl _ _⟩
    case round =>
      obtain ⟨j, z, hj, rfl, rfl, hz, hb⟩ := hrel
      have HZ := Lib.hid hz; clear hz
      by_cases hlt : j < n
      · obtain ⟨b1, o1, rfl, hb1, hc1⟩ := P3.out (by omega)
        obtain ⟨b2, o2, rfl, hb2, hc2⟩ := Q3.out (by omega)
        obtain ⟨x, hx⟩ : ∃ x, x = a[j]'(by have := HA.out; omega) := ⟨_, rfl⟩
        obtain ⟨y, hy2⟩ : ∃ y, y = b[j]'(by have := HB.out; omega) := ⟨_, rfl⟩
        have d1 : wr.cell? ⟨b1, o1 + j, none⟩ = some (vb x) := by rw [hx]; exact (hc1.below hb (by omega)) j (by have := HA.out; omega)
        have d2 : wr.cell? ⟨b2, o2 + j, none⟩ = some (vb y) := by rw [hy2]; exact (hc2.below hb (by omega)) j (by have := HB.out; omega)
        have hnext : (z ||| (x ^^^ y) = 0) ↔ a.take (j + 1) = b.take (j + 1) := by
          rw [or_zero8, xor_zero8, HZ.out, List.take_succ_eq_append_getElem (by have := HA.out; omega), List.take_succ_eq_append_getElem (by have := HB.out; omega), hx, hy2]
          constructor
          · rintro ⟨e1, e2⟩; rw [e1, e2]
          · intro e
            have := List.append_inj' e rfl
            exact ⟨this.1, by simpa using this.2⟩
        have hbx := bv_xor8 x y
        have hbo := bv_or8 z (x ^^^ y)
        have HN := Lib.hid hnext; clear hnext
        have HBl := Lib.hid hb; clear hb
        clear hx hy2 hc1 hc2
        go_wp2_with fail
        go_quiet (fail)
        go_wp2_with fail
        go_roundw
        case rel => exact ⟨j + 1, z ||| (x ^^^ y), by omega, by go_num, rfl, HN.out, below_drewN HBl.out nq⟩
        case measure => simp [intOf]; omega
      · obtain rfl : j = n := by omega
        have hall : (z = 0) ↔ a = b := by
          rw [HZ.out, List.take_of_length_le (by have := HA.out; omega), List.take_of_length_le (by have := HB.out; omega)]
        have HBl := Lib.hid hb; clear hb
        by_cases hz : z = 0
        · subst hz
          have he : a = b := hall.1 rfl
          have hbn : bn 0 = 0 := rfl
          clear hall HZ
          go_wp2_with fail
          go_ret
          exact ⟨by first | (simp [he]; done) | (rw [show (a == b) = true by simp [he]]; rfl), HBl.out⟩
        · have he : ¬ a = b := fun e => hz (hall.2 e)
          have hbn : ¬ bn z = 0 := fun e => hz (bn_inj (y := 0) e)
          clear hall HZ
          go_wp2_with fail
          go_ret
          exact ⟨by rw [show (a == b) = false by simp [he]]; simp [hbn], HBl.out⟩
  · have he : ¬ a = b := fun e => hne (by rw [e])
    have hne2 : ¬ (a.length : Int) = (b.length : Int) := by omega
    go_enter Tryd.func16, Tryd.ntmps16
    go_wp2_with fail
    go_ret
    exact ⟨by simp [he], Below.refl _ _⟩
end Go.Proofs.YtcjjhaonogfcjaaDoor
set_option maxRecDepth 100000
namespace Go.Proofs.YtcjjhaonogfcjaaDoor
open Go.RowKit
attribute [local go_sem] Oper.semAt_some
section
variable {w : World} {base r b m room last : Nat} {V MV rv : Value} {full : Bool} {L : List KyL} {es : List EnL} {key K1 : List UInt8}
theorem find_q (h : RQ w base r b V MV room last L key K1) (ep : Nat) :
    Calls Tryd.prog 19 #[.pointer (some ⟨r, 0, none⟩), .int .u64 (ep : Int)] w fun e w' => (∃ i, e = .returned (.int .i64 i) ∧ FindR L ep i) ∧ Below w.heap.size w w' := by
  have hmf : ∀ (fn : Fn) (first cap : Array Value) (w : World), (Instr.makeFunc fn first cap).run Tryd.prog w = .ok (.func fn first cap) w := fun _ _ _ _ => rfl
  obtain ⟨W, hW⟩ : ∃ W, W = w.alloc (.cells #[.int .u64 (ep : Int)] 31) := ⟨_, rfl⟩
  have hb : Below w.heap.size w W := by rw [hW]; exact (Below.refl _ w).alloc (Nat.le_refl _) _
  have hc : W.cell? ⟨w.heap.size, 0, none⟩ = some (.int .u64 (ep : Int)) := by rw [hW]; exact (Blk.new w [.int .u64 (ep : Int)] _).at (o := 0) rfl
  have HI := Lib.hid (indexFunc_any V L w.heap.size ep W (h.below hb).own.kyIn (by have := h.len; omega) hc)
  have k4 : (w.alloc (.cells #[.int .u64 (ep : Int)] 31)).cell? ⟨r, 4, none⟩ = some V := by rw [← hW]; exact (h.below hb).blk.at (o := 4) rfl
  have HB := Lib.hid hb
  clear hb hc h
  go_enter Tryd.func19, Tryd.ntmps19
  go_wp2_with fail
  rw [← hW]
  clear hW
  refine HI.out.mono ?_
  rintro e w1 ⟨⟨i, rfl, hF⟩, hb⟩
  have HF := Lib.hid hF
  have HB1 := Lib.hid (HB.out.trans (hb.mono HB.out.size))
  clear hF hb HI
  go_wp2_with fail
  go_ret
  exact ⟨⟨_, rfl, HF.out⟩, HB1.out⟩
theorem keyq_none (h : RQ w base r b V MV room last L key K1) (ep : Nat) (hn : ∀ k ∈ L, k.n ≠ ep) :
    Calls Tryd.prog 12 #[.pointer (some ⟨r, 0, none⟩), .int .u64 (ep : Int)] w fun e w' => e = .returned (.tuple #[.slice none 0 0, .int .i64 15]) ∧ Below w.heap.size w w' := by
  have HF := Lib.hid (find_q h ep)
  have HN := Lib.hid hn
  clear h hn
  go_enter Tryd.func12, Tryd.ntmps12
  go_wp2_with fail
  refine HF.out.mono ?_
  rintro e w1 ⟨⟨i, rfl, hF⟩, hb⟩
  have hi : i = -1 := by
    rcases hF with ⟨h, _⟩ | ⟨k, hk, _, h⟩
    · exact h
    · exact absurd h (HN.out _ (List.getElem_mem hk))
  subst hi
  have HB := Lib.hid hb
  clear hF hb HF
  go_wp2_with fail
  go_ret2
  exact ⟨rfl, HB.out⟩
set_option maxHeartbeats 4000000 in
/-- The key of epoch 1, in memory of its own. -/
theorem keyq_one (h : RQ w base r b V MV room last L key K1) (hx : ∃ q ∈ L, q.n = 1) (h0 : 0 < K1.length) :
    Calls Tryd.prog 12 #[.pointer (some ⟨r, 0, none⟩), .int .u64 1] w fun e w' => ∃ v', e = .returned (.tuple #[v', .int .i64 0]) ∧ OwnB w' w.heap.size v' K1 ∧ Below w.heap.size w w' := by
  have HF := Lib.hid (find_q h 1)
  have hc1 : ((1 : Nat) : Int) = 1 := rfl
  rw [hc1] at HF
  have HX := Lib.hid hx
  have HH := Lib.hid h
  clear h hx hc1
  go_enter Tryd.func12, Tryd.ntmps12
  go_wp2_with fail
  refine HF.out.mono ?_
  rintro e w1 ⟨⟨i, rfl, hF⟩, hb⟩
  obtain ⟨k, hk, hi, hn⟩ : ∃ k, ∃ h : k < L.length, i = (k : Int) ∧ L[k].n = 1 := by
    rcases hF with ⟨_, h⟩ | h
    · obtain ⟨y, hy, hye⟩ := HX.out
      obtain ⟨j, hj, rfl⟩ := List.getElem_of_mem hy
      exact absurd hye (h j hj)
    · exact h
  subst hi
  have H1 := Lib.hid (HH.out.below hb)
  have HB1 := Lib.hid hb
  have hO := H1.out.ks L[k] (List.getElem_mem hk) hn
  obtain ⟨A, c, hV, -⟩ := id H1.out.own.kyIn
  subst hV
  obtain ⟨g, o, rfl, hgl, c0, c1⟩ := H1.out.own.kyIn.pair k hk
  obtain ⟨y, hy⟩ : ∃ y, y = L[k] := ⟨_, rfl⟩
  rw [← hy] at c0 c1 hO
  have HLL := Lib.hid H1.out.len
  obtain ⟨g2, cap, e2, -⟩ := hO.form h0
  unfold qv at hO e2
  rw [e2] at c1 hO
  have HC := Lib.hid (clone_any w1.heap.size ⟨g2, 0, none⟩ K1.length cap K1 w1 hO.sl (Nat.le_refl _) (by have := H1.out.kk; omega))
  have k4 : w1.cell? ⟨r, 4, none⟩ = some (.slice (some ⟨g, o, none⟩) L.length c) := H1.out.blk.at (o := 4) rfl
  have hneg : decide ((k : Int) < 0) = false := decide_eq_false (by omega)
  clear hF hb hn hO HF HX HH hy e2 c0 H1
  go_wp2_with fail
  refine HC.out.mono ?_
  rintro e w2 ⟨v', rfl, hO2, hb2⟩
  have HO2 := Lib.hid (hO2.lower HB1.out.size)
  have HB2 := Lib.hid (HB1.out.trans (hb2.mono HB1.out.size))
  obtain ⟨A2, c2, rfl, -⟩ := hO2.sl
  clear hO2 hb2 HC c1 k4 hneg
  go_wp2_with fail
  go_ret2
  exact ⟨_, rfl, HO2.out, HB2.out⟩
end
end Go.Proofs.YtcjjhaonogfcjaaDoor
set_option maxRecDepth 100000
namespace Go.Proofs.YtcjjhaonogfcjaaDoor
open Go.RowKit
attribute [local go_sem] Oper.semAt_some
section
variable {w : World} {base r b m room last B : Nat} {V MV rv v : Value} {full : Bool} {L : List KyL} {es : List EnL} {key K1 : List UInt8} {ls : List (List UInt8)}
/-- What a Mac leaves of a ring and its box. -/
structure MqR (w w' : World) (base r b m : Nat) (V MV : Value) (rv : Value) (room last : Nat) (full : Bool) (L : List KyL) (es : List EnL) (key K1 : List UInt8) (E : EnL) : Prop where
  rq : RQ w' base r b V MV room last L key K1
  bx : ∃ rv', BX w' base b m rv' true (fullE full es E) (esE es E)
  ts : Trs (bS b m rv) w w'
set_option maxHeartbeats 4000000 in
theorem sign_q (h : RQ w base r b V MV room 1 L key K1) (hX : BX w base b m rv true full es) (hx : ∃ q ∈ L, q.n = 1) (h0 : 0 < K1.length) (hv : Sls w B v ls) (hn : ls.length ≤ 100000) (hl : Lib.lens ls ≤ 100000) (hvB : B ≤ w.heap.size) :
    Calls Tryd.prog 8 #[.pointer (some ⟨r, 0, none⟩), v] w fun e w' => ∃ v', e = .returned (.tuple #[.int .u64 1, v', .int .i64 0]) ∧ OwnB w' w.heap.size v' (tagE es (macE K1 ls.flatten)) ∧ MqR w w' base r b m V MV rv room 1 full L es key K1 (macE K1 ls.flatten) := by
  have k3 : w.cell? ⟨r, 3, none⟩ = some (.int .u64 1) := h.blk.at (o := 3) rfl
  have HK := Lib.hid (keyq_one h hx h0)
  have HMC := Lib.hid (fun (W : World) (kv : Value) (hB : Below w.heap.size w W) (hk : OwnB W w.heap.size kv K1) => mac_sym (hX.below hB) hk (fun k e hm => by have := (hk.lt k e).1; have := (hX.ge k hm).2; omega) (by have := h.kk; omega) (hv.below hB hvB) hn hl (by have := h.size; have := hB.size; omega) (by have := hB.size; omega))
  have HQ := Lib.hid h
  have HBX := Lib.hid hX
  obtain ⟨E, hE⟩ : ∃ E, E = macE K1 ls.flatten := ⟨_, rfl⟩
  rw [← hE] at HMC ⊢
  clear hE
  obtain ⟨A, c, rfl, -⟩ := hv
  clear h hX hx
  go_enter Tryd.func8, Tryd.ntmps8
  go_wp2_with fail
  refine HK.out.mono ?_
  rintro e w1 ⟨kv, rfl, hO, hb⟩
  have HO := Lib.hid hO
  have HB1 := Lib.hid hb
  clear hO hb HK k3
  obtain ⟨KA, kc, rfl, -⟩ := HO.out.sl
  go_wp2_with fail
  refine wp_region_noPanic ?_
  refine wp_region_held (S := fun W' => W'.cell? ⟨r, 3, none⟩ = some (.int .u64 1) ∧ W'.cell? ⟨r, 0, none⟩ = some (.pointer (some ⟨b, 0, none⟩))) (by kernel_rfl) ?_
  change wpAnyH _ _ _ _ _ _ _ _ (World.drew _)
  obtain ⟨X0, hX0⟩ : ∃ X, X = World.drew w1 := ⟨_, rfl⟩
  have HB0 := Lib.hid (show Below w.heap.size w X0 from by rw [hX0]; exact HB1.out.drew)
  have HO0 := Lib.hid (show OwnB X0 w.heap.size (.slice KA K1.length kc) K1 from by rw [hX0]; exact HO.out.below (Below.refl _ _).drew)
  rw [← hX0]
  clear hX0
  have HSX := Lib.hid (fun (W' : World) (hq : RQ W' base r b V MV room 1 L key K1) => (show W'.cell? ⟨r, 3, none⟩ = some (.int .u64 1) ∧ W'.cell? ⟨r, 0, none⟩ = some (.pointer (some ⟨b, 0, none⟩)) from ⟨hq.blk.at (o := 3) rfl, hq.blk.at (o := 0) rfl⟩))
  have HX0 := Lib.hid (HSX.out X0 (HQ.out.below HB0.out))
  refine takeH 0 23 (.pointer (some ⟨r, 0, none⟩)) rfl rfl (by kernel_rfl) (by kernel_rfl) (by kernel_rfl) (fun _ _ _ h => h) rfl (fun w' h => by obtain ⟨h1, h2⟩ := h; go_simp) HX0.out ?_
  go_frame
  refine takeH 1 24 (.pointer (some ⟨r, 0, none⟩)) rfl rfl (by kernel_rfl) (by kernel_rfl) (by kernel_rfl) (fun _ _ _ h => h) rfl (fun w' h => by obtain ⟨h1, h2⟩ := h; go_simp) HX0.out ?_
  go_frame
  refine takeH 2 25 (.pointer (some ⟨r, 3, none⟩)) rfl rfl (by kernel_rfl) (by kernel_rfl) (by kernel_rfl) (fun _ _ _ h => h) rfl (fun w' h => by obtain ⟨h1, h2⟩ := h; go_simp) HX0.out ?_
  go_frame
  refine takeH 3 26 (.int .u64 1) rfl rfl (by kernel_rfl) (by kernel_rfl) (by kernel_rfl) (fun _ _ _ h => h) rfl (fun w' h => by obtain ⟨h1, h2⟩ := h; go_simp) HX0.out ?_
  go_frame
  refine takeH 4 27 (.pointer (some ⟨r, 0, none⟩)) rfl rfl (by kernel_rfl) (by kernel_rfl) (by kernel_rfl) (fun _ _ _ h => h) rfl (fun w' h => by obtain ⟨h1, h2⟩ := h; go_simp) HX0.out ?_
  go_frame
  refine takeH 5 28 (.pointer (some ⟨r, 0, none⟩)) rfl rfl (by kernel_rfl) (by kernel_rfl) (by kernel_rfl) (fun _ _ _ h => h) rfl (fun w' h => by obtain ⟨h1, h2⟩ := h; go_simp) HX0.out ?_
  go_frame
  refine takeH 6 29 (.pointer (some ⟨r, 0, none⟩)) rfl rfl (by kernel_rfl) (by kernel_rfl) (by kernel_rfl) (fun _ _ _ h => h) rfl (fun w' h => by obtain ⟨h1, h2⟩ := h; go_simp) HX0.out ?_
  go_frame
  refine takeH 7 30 (.pointer (some ⟨b, 0, none⟩)) rfl rfl (by kernel_rfl) (by kernel_rfl) (by kernel_rfl) (fun _ _ _ h => h) rfl (fun w' h => by obtain ⟨h1, h2⟩ := h; go_simp) HX0.out ?_
  go_frame
  refine takeH 8 31 (.slice KA K1.length kc) rfl rfl (by kernel_rfl) (by kernel_rfl) (by kernel_rfl) (fun _ _ _ h => h) rfl (fun w' h => by obtain ⟨h1, h2⟩ := h; go_simp) HX0.out ?_
  go_frame
  refine takeH 9 32 (.slice A ls.length c) rfl rfl (by kernel_rfl) (by kernel_rfl) (by kernel_rfl) (fun _ _ _ h => h) rfl (fun w' h => by obtain ⟨h1, h2⟩ := h; go_simp) HX0.out ?_
  go_frame
  refine wpAnyH_all (rs := [10]) (by kernel_rfl) (by simp) ?_
  simp only [List.mem_singleton, forall_eq]
  refine wpOp_callD 33 rfl rfl rfl 15 #[.pointer (some ⟨b, 0, none⟩), .slice KA K1.length kc, .slice A ls.length c] (by go_simp) ?_
  refine (HMC.out X0 _ HB0.out HO0.out).mono ?_
  intro e X2 hR
  obtain ⟨v', rv', rfl, hO, hx2, ht, -, -⟩ := hR.after HB0.out
  have HF := Lib.hid (show OwnB X2 w.heap.size v' (tagE es E) ∧ MqR w X2 base r b m V MV rv room 1 full L es key K1 E from ⟨hO, HQ.out.box HBX.out ht, ⟨rv', hx2⟩, ht⟩)
  obtain ⟨A2, c2, rfl, -⟩ := hO.sl
  clear hO hx2 ht hR HX0
  have HX0 := Lib.hid (HSX.out X2 HF.out.2.rq)
  refine ⟨_, rfl, HX0.out, ?_⟩
  go_frame
  refine takeH 11 4 (.int .u64 1) rfl rfl (by kernel_rfl) (by kernel_rfl) (by kernel_rfl) (fun _ _ _ h => h) rfl (fun w' h => by obtain ⟨h1, h2⟩ := h; go_simp) HX0.out ?_
  go_frame
  refine takeH 12 5 (.slice A2 (tagE es E).length c2) rfl rfl (by kernel_rfl) (by kernel_rfl) (by kernel_rfl) (fun _ _ _ h => h) rfl (fun w' h => by obtain ⟨h1, h2⟩ := h; go_simp) HX0.out ?_
  go_frame
  refine takeH 13 6 (.int .i64 0) rfl rfl (by kernel_rfl) (by kernel_rfl) (by kernel_rfl) (fun _ _ _ h => h) rfl (fun w' h => by obtain ⟨h1, h2⟩ := h; go_simp) HX0.out ?_
  go_frame
  refine wpAnyH_done (by kernel_rfl) ?_ _
  refine NoPanic.normal ?_
  go_wp2_with fail
  go_ret3
  exact ⟨_, rfl, HF.out.1, HF.out.2⟩
set_option maxHeartbeats 4000000 in
theorem verify_q (h : RQ w base r b V MV room last L key K1) (hX : BX w base b m rv true full es) (hx : ∃ q ∈ L, q.n = 1) (h0 : 0 < K1.length) (hv : Sls w B v ls) (hn : ls.length ≤ 100000) (hl : Lib.lens ls ≤ 100000) (hvB : B ≤ w.heap.size) {Bs : Nat} {sv : Value} {s : List UInt8} (hs : OwnB w Bs sv s) (hsb : sv.ownBlock ≠ some b) (ht : (tagE es (macE K1 ls.flatten)).length ≤ 100) :
    Calls Tryd.prog 9 #[.pointer (some ⟨r, 0, none⟩), .int .u64 1, sv, v] w fun e w' => e = .returned (.int .i64 (if tagE es (macE K1 ls.flatten) == s then 0 else 13)) ∧ MqR w w' base r b m V MV rv room last full L es key K1 (macE K1 ls.flatten) := by
  have HK := Lib.hid (keyq_one h hx h0)
  have HMC := Lib.hid (fun (W : World) (kv : Value) (hB : Below w.heap.size w W) (hk : OwnB W w.heap.size kv K1) => mac_sym (hX.below hB) hk (fun k e hm => by have := (hk.lt k e).1; have := (hX.ge k hm).2; omega) (by have := h.kk; omega) (hv.below hB hvB) hn hl (by have := h.size; have := hB.size; omega) (by have := hB.size; omega))
  have HQ := Lib.hid h
  have HBX := Lib.hid hX
  have HS := Lib.hid (And.intro hs hsb)
  have HT := Lib.hid ht
  obtain ⟨E, hE⟩ : ∃ E, E = macE K1 ls.flatten := ⟨_, rfl⟩
  rw [← hE] at HMC HT ⊢
  clear hE
  obtain ⟨R, hR⟩ : ∃ R : Int, R = (if (tagE es E == s) = true then 0 else 13) := ⟨_, rfl⟩
  rw [← hR]
  have HR := Lib.hid hR
  clear hR
  obtain ⟨A, c, rfl, -⟩ := hv
  obtain ⟨SA, sc, rfl, -⟩ := hs.sl
  clear h hX hx hs hsb ht
  go_enter Tryd.func9, Tryd.ntmps9
  go_wp2_with fail
  refine HK.out.mono ?_
  rintro e w1 ⟨kv, rfl, hO, hb⟩
  have HO := Lib.hid hO
  have HB1 := Lib.hid hb
  have k0 : w1.cell? ⟨r, 0, none⟩ = some (.pointer (some ⟨b, 0, none⟩)) := (HQ.out.below hb).blk.at (o := 0) rfl
  clear hO hb HK
  obtain ⟨KA, kc, rfl, -⟩ := HO.out.sl
  go_wp2_with fail
  refine (HMC.out w1 _ HB1.out HO.out).mono ?_
  intro e X2 hR
  obtain ⟨v', rv', rfl, hO2, hx2, ht, -, -⟩ := hR.after HB1.out
  have HF := Lib.hid (show MqR w X2 base r b m V MV rv room last full L es key K1 E from ⟨HQ.out.box HBX.out ht, ⟨rv', hx2⟩, ht⟩)
  have HEQ := Lib.hid (equal_any X2.heap.size v' (.slice SA s.length sc) (tagE es E) s X2 hO2.sl (HS.out.1.trsV ht (bytes_bS HS.out.1 HBX.out HS.out.2)).sl (by have := HT.out; omega) (Nat.le_refl _))
  obtain ⟨A2, c2, rfl, -⟩ := hO2.sl
  clear hO2 hx2 ht hR k0 HMC
  go_wp2_with fail
  refine HEQ.out.mono ?_
  rintro e w3 ⟨rfl, hb3⟩
  have HF3 := Lib.hid (show MqR w w3 base r b m V MV rv room last full L es key K1 E from ⟨HF.out.rq.below hb3, HF.out.bx.imp (fun _ h => h.below hb3), HF.out.ts.below hb3⟩)
  clear hb3 HEQ HF
  obtain ⟨qb, hq⟩ : ∃ q : Bool, q = (tagE es E == s) := ⟨_, rfl⟩
  rw [← hq] at HR ⊢
  clear hq
  cases qb with
  | true =>
    go_wp2_with fail
    go_ret
    exact ⟨by rw [HR.out]; rfl, HF3.out⟩
  | false =>
    go_wp2_with fail
    go_ret
    exact ⟨by rw [HR.out]; rfl, HF3.out⟩
theorem verify_none (h : RQ w base r b V MV room last L key K1) (ep : Nat) (hn : ∀ k ∈ L, k.n ≠ ep) (SA : Option Addr) (sl sc : Nat) (v : Value) :
    Calls Tryd.prog 9 #[.pointer (some ⟨r, 0, none⟩), .int .u64 (ep : Int), .slice SA sl sc, v] w fun e w' => e = .returned (.int .i64 15) ∧ Below w.heap.size w w' := by
  have HK := Lib.hid (keyq_none h ep hn)
  clear h hn
  go_enter Tryd.func9, Tryd.ntmps9
  go_wp2_with fail
  refine HK.out.mono ?_
  rintro e w1 ⟨rfl, hb⟩
  have HB := Lib.hid hb
  clear hb HK
  go_wp2_with fail
  go_ret
  exact ⟨rfl, HB.out⟩
end
end Go.Proofs.YtcjjhaonogfcjaaDoor
