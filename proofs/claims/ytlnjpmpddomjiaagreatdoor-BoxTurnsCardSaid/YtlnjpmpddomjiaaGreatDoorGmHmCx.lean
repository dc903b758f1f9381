/- One piece of a password's key; the iterator over the pieces; hmac.first; Stretch. The reference's Stretch. -/
import Derived.Test.YtlnjpmpddomjiaaGreatDoorGmHmBx
import Derived.Test.YtlnjpmpddomjiaaGreatDoorGmKc
import Derived.Test.YtlnjpmpddomjiaaGreatDoorGmReg
import Derived.Test.YtlnjpmpddomjiaaGreatDoorGmRegR
import Derived.Sort.CutIn
import Derived.Test.YtlnjpmpddomjiaaGreatDoorGmCutE
import Derived.Test.YtlnjpmpddomjiaaGreatDoorGmMgA
set_option maxRecDepth 100000
namespace Go.Proofs.YtlnjpmpddomjiaaGreatDoor
open Go.RowKit Go.Shelf
attribute [local go_sem] Oper.semAt_some
theorem OwnB.keepG {w w' : World} {base g : Nat} {v : Value} {l : List UInt8} {p q r : Option Addr} (h : OwnB w base v l) (hl : 0 < l.length) (hk : Blk w g [.pointer p, .pointer q, .pointer r]) (hg : w.grownBy w' (some g)) : OwnB w' base v l := by
  refine h.kept hg (.inr fun e => ?_)
  obtain ⟨b, cap, rfl, _, _, _, _, hbs, _⟩ := h.form hl
  have hb : b = g := by simpa [Value.ownBlock] using e
  exact not_ptrs hk (hbs 0 hl) (by simp) (by simp) (by simp) hb
theorem meas_lt (r k : Nat) (h : k < r) : r - (intOf (.int .i64 ((k : Int) + 1))).toNat < r - (intOf (.int .i64 (k : Int))).toNat := by
  show r - ((k : Int) + 1).toNat < r - (k : Int).toNat
  omega
set_option maxRecDepth 100000 in
set_option maxHeartbeats 2000000 in
theorem stretch_any (base g : Nat) (key salt : List UInt8) (bi bo : Nat) (t v : Value) (K : Int) (r n : Nat) (w : World) (h : MacK w base g key bi bo t) (hs : Sl w w.heap.size v salt) (hl : salt.length ≤ 10000) (hT : TabA w) (hK : K = (r : Int)) (hr1 : 1 ≤ r) (hr2 : r ≤ 64) :
    Calls Tryz.prog 88 #[ptr g, v, .int .i64 K, vb (UInt8.ofNat n)] w fun e w' => ∃ v' bt, e = .returned v' ∧ OwnB w' w.heap.size v' (pieceS key salt r n) ∧ MacK w' base g key bi bo (ptr bt) ∧ w.grownBy w' (some g) := by
  have hG := tab_lt hT
  have hgl := h.blk.lt
  have HK := Lib.hid h; clear h
  have HS := Lib.hid hs
  have HT := Lib.hid hT; clear hT
  obtain ⟨A, c, rfl, _, k1, k2, _⟩ := hs
  obtain ⟨x, hx⟩ : ∃ x, x = UInt8.ofNat n := ⟨_, rfl⟩
  obtain ⟨u, hu⟩ : ∃ u, u = hm key (salt ++ [0, 0, 0, x]) := ⟨_, rfl⟩
  have hul : u.length = 32 := by rw [hu, hm_length]
  have hp : pieceS key salt r n = (pbr key u (r - 1)).2 := by unfold pieceS; rw [hu, hx]
  rw [hp, ← hx]
  have HUL := Lib.hid hul; clear hul
  have HU := Lib.hid hu; clear hu
  clear hp hx
  have hlen := fun k => pbr_len key u HUL.out k
  have HLEN := Lib.hid hlen; clear hlen
  have HKR : Hid (K - 1 = ((r - 1 : Nat) : Int)) := Lib.hid (by omega)
  have hK64 : 1 ≤ K ∧ K ≤ 64 := by omega
  clear hK
  go_enter Tryz.func88, Tryz.ntmps88
  go_wp2_with fail
  obtain ⟨W1, hW1⟩ : ∃ W1, W1 = w.alloc (.cells #[.int .u8 0, .int .u8 0, .int .u8 0, vb x] 5) := ⟨_, rfl⟩
  have z1 : W1.heap.size = w.heap.size + 1 := by rw [hW1]; simp
  have b1 : Below w.heap.size w W1 := by rw [hW1]; exact (Below.refl _ _).alloc (Nat.le_refl _) _
  have s4 : Sl W1 W1.heap.size (.slice (some ⟨w.heap.size, 0, none⟩) 4 4) [0, 0, 0, x] := by rw [z1, hW1]; exact Sl.of_new w [0, 0, 0, x] _ rfl (0, 0) 4 rfl (by decide)
  have s1 : Sl W1 W1.heap.size (.slice A salt.length c) salt := (HS.out.below b1 (Nat.le_refl _)).more (by omega)
  rw [← hW1]
  clear hW1
  obtain ⟨W2, hW2⟩ : ∃ W2, W2 = W1.alloc (.cells #[.slice A salt.length c, .slice (some ⟨w.heap.size, 0, none⟩) 4 4] 34) := ⟨_, rfl⟩
  have z2 : W2.heap.size = W1.heap.size + 1 := by rw [hW2]; simp
  have b2 : Below W1.heap.size W1 W2 := by rw [hW2]; exact (Below.refl _ _).alloc (Nat.le_refl _) _
  have s2 : Sls W2 W2.heap.size (.slice (some ⟨W1.heap.size, 0, none⟩) 2 2) [salt, [0, 0, 0, x]] := by
    rw [z2, hW2]; exact Sls.two W1 _ _ _ _ _ s1 s4
  rw [z1] at s2
  have hBw : Below w.heap.size w W2 := b1.trans (b2.mono (by omega))
  have HB2 := Lib.hid hBw
  have hz2 : w.heap.size ≤ W2.heap.size := by omega
  have hK2 : MacK W2 base g key bi bo t := HK.out.below HB2.out (Nat.le_refl _)
  rw [← hW2]
  clear hW2 b1 b2 s1 s4 z2 hBw
  have HK2 := Lib.hid hK2; clear hK2
  have HS2 := Lib.hid s2; clear s2
  refine (macWhole_any base g key bi bo t _ [salt, [0, 0, 0, x]] W2 HK2.out HS2.out (by simp; omega) (HT.out.below HB2.out hG)).mono ?_
  rintro e w3 ⟨v3, bt, rfl, hO, hK3, hg3⟩
  rw [show ([salt, [0, 0, 0, x]] : List (List UInt8)).flatten = salt ++ [0, 0, 0, x] by simp, ← HU.out] at hO
  have HO := Lib.hid (hO.lower hz2); clear hO
  have HK3 := Lib.hid hK3; clear hK3
  have HG3 := Lib.hid ((grown_of_below HB2.out (some g)).trans hg3); clear hg3 z1
  go_wp2_with fail
  obtain ⟨K1, hK1⟩ : ∃ K1, K1 = K - 1 := ⟨_, rfl⟩
  have hKr := HKR.out
  rw [← hK1]
  rw [← hK1] at hKr
  have HKr := Lib.hid hKr; clear hKr
  clear hK1 HKR hK64
  go_loopw [9, 10, 20] (fun la pc i wr => ∃ (k bt : Nat), k ≤ r - 1 ∧ i = .int .i64 k ∧ OwnB wr w.heap.size la (pbr key u k).1 ∧ OwnB wr w.heap.size pc (pbr key u k).2 ∧ MacK wr base g key bi bo (ptr bt) ∧ w.grownBy wr (some g)) (fun _ _ i _ => r - (intOf i).toNat)
  case atStart => exact ⟨0, bt, by omega, rfl, by rw [pbr_zero]; exact HO.out, by rw [pbr_zero]; exact HO.out, HK3.out, HG3.out⟩
  case round =>
    obtain ⟨k, bt', hk, rfl, hla, hpc, hKk, hgk⟩ := hrel
    obtain ⟨L, hL⟩ : ∃ L, L = (pbr key u k).1 := ⟨_, rfl⟩
    obtain ⟨Pc, hPc⟩ : ∃ L, L = (pbr key u k).2 := ⟨_, rfl⟩
    have HLl : Hid (L.length = 32) := Lib.hid (by rw [hL]; exact (HLEN.out k).1)
    have HPl : Hid (Pc.length = 32) := Lib.hid (by rw [hPc]; exact (HLEN.out k).2)
    have hsucc := pbr_succ key u k
    rw [← hL, ← hPc] at hsucc
    rw [← hL] at hla
    rw [← hPc] at hpc
    have hsz : w.heap.size ≤ wr.heap.size := hgk.size
    have HLA := Lib.hid hla
    have HPC := Lib.hid hpc; clear hpc
    have HKK := Lib.hid hKk; clear hKk
    have HGK := Lib.hid hgk; clear hgk
    have HSU := Lib.hid hsucc; clear hsucc
    have HPe := Lib.hid hPc; clear hPc hL
    by_cases hlt : k < r - 1
    · obtain ⟨Al, cl, rfl, _⟩ := hla.sl
      have hsl := HLA.out.sl
      have HSL := Lib.hid hsl; clear hsl hla
      have hlt2 : (k : Int) < K1 := by have := HKr.out; omega
      go_wp2_with fail
      obtain ⟨W4, hW4⟩ : ∃ W4, W4 = wr.alloc (.cells #[.slice Al L.length cl] 34) := ⟨_, rfl⟩
      have z4 : W4.heap.size = wr.heap.size + 1 := by rw [hW4]; simp
      have b4 : Below wr.heap.size wr W4 := by rw [hW4]; exact (Below.refl _ _).alloc (Nat.le_refl _) _
      have s5 : Sls W4 W4.heap.size (.slice (some ⟨wr.heap.size, 0, none⟩) 1 1) [L] := by rw [z4, hW4]; exact Sls.one wr L _ _ HSL.out
      rw [← hW4]
      clear hW4
      have HB4 := Lib.hid b4; clear b4
      have HS5 := Lib.hid s5; clear s5
      have HK4 := Lib.hid (HKK.out.below HB4.out (Nat.le_refl _))
      have HT4 : Hid (TabA W4) := Lib.hid (by
        obtain ⟨a, hrow⟩ := HK.out.row
        exact (HT.out.keepG hrow HGK.out).below HB4.out (by omega))
      have HPC4 := Lib.hid (HPC.out.below HB4.out)
      refine (macWhole_any base g key bi bo (ptr bt') _ [L] W4 HK4.out HS5.out (by have := HLl.out; simp; omega) HT4.out).mono ?_
      rintro e w5 ⟨v5, bt5, rfl, hO5, hK5, hg5⟩
      rw [show ([L] : List (List UInt8)).flatten = L by simp] at hO5
      obtain ⟨a4, hrow4⟩ := HK4.out.row
      have HPC5 := Lib.hid (HPC4.out.keepG (by have := HPl.out; omega) hrow4 hg5)
      have HO5 := Lib.hid hO5; clear hO5
      have HK5 := Lib.hid hK5; clear hK5
      have HG5 := Lib.hid ((HGK.out.trans (grown_of_below HB4.out (some g))).trans hg5)
      have hz5 : W4.heap.size ≤ w5.heap.size := hg5.size
      clear hg5 hrow4
      have hml : (hm key L).length = 32 := hm_length _ _
      obtain ⟨M, hM⟩ : ∃ M, M = hm key L := ⟨_, rfl⟩
      rw [← hM] at hml HO5 HSU
      clear hM
      have HML := Lib.hid hml; clear hml
      go_wp2_with fail
      refine (xor_any w5.heap.size _ v5 Pc M w5 HPC5.out.sl HO5.out.sl (Nat.le_refl _) (by have := HPl.out; omega) (by have := HML.out; omega)).mono ?_
      rintro e w6 ⟨v6, rfl, hO6, hB6⟩
      have HO6 := Lib.hid hO6; clear hO6
      have HO56 := Lib.hid (HO5.out.below hB6)
      have HK6 := Lib.hid (HK5.out.below hB6 (Nat.le_refl _))
      have HG6 := Lib.hid (HG5.out.trans (grown_of_below hB6 (some g))); clear hB6
      go_wp2_with fail
      go_roundw
      case rel =>
        exact ⟨k + 1, bt5, by omega, by go_num, by rw [HSU.out]; exact HO56.out.lower (by omega), by rw [HSU.out]; exact HO6.out.lower (by omega), HK6.out, HG6.out⟩
      case measure => exact meas_lt r k (by omega)
    · obtain rfl : k = r - 1 := by omega
      have hge : ¬ ((r - 1 : Nat) : Int) < K1 := by have := HKr.out; omega
      rw [HPe.out] at HPC
      clear hla
      go_wp2_with fail
      go_ret
      first | exact ⟨_, bt', rfl, HPC.out, HKK.out, HGK.out⟩ | exact ⟨_, rfl, HPC.out, ⟨bt', HKK.out⟩, HGK.out⟩ | exact ⟨_, rfl, HPC.out, HKK.out, HGK.out⟩ | trace_state
attribute [local go_sem] Oper.semAt_some
theorem Blk.kc {b g : Nat} {A B : World} {cs : List Value} (h : Blk A g cs) (hk : KC b A B) (hb : b ≤ g) : Blk B g cs := by
  obtain ⟨t, h⟩ := h; exact ⟨t, hk _ _ _ _ hb h⟩
theorem HashM.kc {b g : Nat} {A B : World} {m : List UInt8} (h : HashM A g m) (hk : KC b A B) (hb : b ≤ g) : HashM B g m := by
  obtain ⟨t, h1, h2⟩ := h
  exact ⟨t, ⟨h1.blk.kc hk hb, h1.len⟩, h2⟩
theorem MacK.kc {A B : World} {b base g : Nat} {key : List UInt8} {bi bo : Nat} {t : Value} (h : MacK A base g key bi bo t) (hk : KC b A B) (hb : b ≤ base) : MacK B base g key bi bo t :=
  ⟨h.blk.kc hk (Nat.le_trans hb h.lg), h.hi.kc hk (Nat.le_trans hb h.li), h.ho.kc hk (Nat.le_trans hb h.lo), h.lg, h.li, h.lo, h.ni, h.no, h.tp⟩
theorem vb_num (k : Nat) (h : k < 256) : vb (UInt8.ofNat k) = .int .u8 (k : Int) := by
  show Value.int .u8 (bn _) = _
  unfold bn; rw [UInt8.toNat_ofNat', Nat.mod_eq_of_lt h]
/-- A piece that was told: its slice, and its bytes. -/
abbrev Pc : Type := Value × List UInt8
abbrev gSt : Nat := 87
/-- What a piece holds where it is handed over. -/
abbrev PY (p : Nat → List UInt8) (b : Nat) (pre : List Pc) (x : Pc) (W : World) : Prop := OwnB W b x.1 x.2 ∧ x.2 = p (pre.length + 1)
set_option maxRecDepth 100000 in
set_option maxHeartbeats 2000000 in
theorem stretched_seq (d : Nat) (hd : 6 ≤ d) (w0 w : World) (bp bs br : Nat) (vp vs : Value) (pass salt : List UInt8) (r : Nat) (hp : bp < w0.heap.size) (hs : bs < w0.heap.size) (hr : br < w0.heap.size)
    (cp : w0.cell? ⟨bp, 0, none⟩ = some vp) (cs : w0.cell? ⟨bs, 0, none⟩ = some vs) (cr : w0.cell? ⟨br, 0, none⟩ = some (.int .i64 (r : Int))) (sp : Sl w0 w0.heap.size vp pass) (ss : Sl w0 w0.heap.size vs salt)
    (lp : pass.length ≤ 10000) (ls : salt.length ≤ 10000) (hT : TabA w0) (hr1 : 1 ≤ r) (hr2 : r ≤ 64) :
    SeqOw Fence.wide d Tryz.prog gSt #[ptr bp, ptr bs, ptr br] (fun x : Pc => #[x.1]) (PY (pieceS pass salt r)) (fun xs => xs.length = 4) (fun A => Below w0.heap.size w0 A) w := by
  intro l J Jx W hW hIn hJ hY h0
  have h1 : 1 ≤ d := by omega
  have h1' : 1 ≤ d - 1 := by omega
  have hG := tab_lt hT
  have HY := Lib.hid hY; clear hY
  have HJ := Lib.hid hJ; clear hJ
  have HIn := Lib.hid hIn; clear hIn
  have HT := Lib.hid hT; clear hT
  have HSP := Lib.hid sp; clear sp
  have HSS := Lib.hid ss; clear ss
  have hi0 := HIn.out _ _ h0
  have c1 : W.cell? ⟨bp, 0, none⟩ = some vp := (hi0.cell (p := ⟨bp, 0, none⟩) hp).trans cp
  have hw0 : w0.heap.size ≤ W.heap.size := hi0.size
  have hwW : w.heap.size ≤ W.heap.size := hW.size
  have hSP := HSP.out.below hi0 (Nat.le_refl _)
  have hT0 := HT.out.below hi0 hG
  have H0 := Lib.hid h0; clear h0
  have HC := Lib.hid (And.intro cs cr); clear cs cr
  have HI0 := Lib.hid hi0; clear hi0
  have HSP0 := Lib.hid (hSP.more hw0); clear hSP
  have HT0 := Lib.hid hT0; clear hT0
  clear hW
  refine callsIn_of_wp Tryz.func87 rfl trivial ?_ rfl
  simp only [Tryz.ntmps87, List.size_toArray, List.length_cons, List.length_nil, Nat.reduceAdd, Nat.reduceSub, Array.replicate_succ, Array.replicate_zero, List.push_toArray, List.append_toArray, List.nil_append, List.cons_append]
  gi_wp2
  refine ⟨trivial, (callsIn_wide.2 (macNew_any vp pass W HSP0.out (by omega) HT0.out)).mono ?_⟩
  rintro e W1 ⟨g, bi, bo, bt, rfl, hK1, _, _, _, _, _, hB1⟩
  have HK1 := Lib.hid hK1; clear hK1
  have HB1 := Lib.hid hB1; clear hB1
  clear c1 cp
  gi_wp2
  gi_loopw [6, 9] (fun _ i wr => ∃ (pre : List Pc) (t : Value), pre.length ≤ 4 ∧ i = .int .i64 (pre.length : Int) ∧ J pre wr ∧ MacK wr W.heap.size g pass bi bo t ∧ W.heap.size ≤ wr.heap.size) (fun _ i _ => 4 - (intOf i).toNat)
  case atStart => exact ⟨[], _, by simp, rfl, HJ.out _ _ _ H0.out (Nat.le_refl _) HB1.out, HK1.out, HB1.out.size⟩
  case round =>
    obtain ⟨pre, t, hpl, rfl, hJr, hKr, hzr⟩ := hrel
    have HJr := Lib.hid hJr; clear hJr
    have HKr := Lib.hid hKr; clear hKr
    obtain ⟨k, hk⟩ : ∃ k : Nat, k = pre.length := ⟨_, rfl⟩
    rw [← hk] at hpl ⊢
    have HKL := Lib.hid hk; clear hk
    by_cases hlt : k < 4
    · have hir := HIn.out _ _ HJr.out
      have c2 : wr.cell? ⟨bs, 0, none⟩ = some vs := (hir.cell (p := ⟨bs, 0, none⟩) hs).trans HC.out.1
      have c3 : wr.cell? ⟨br, 0, none⟩ = some (.int .i64 (r : Int)) := (hir.cell (p := ⟨br, 0, none⟩) hr).trans HC.out.2
      obtain ⟨K, hKe⟩ : ∃ K : Int, K = (r : Int) := ⟨_, rfl⟩
      rw [← hKe] at c3
      have hst := stretch_any W.heap.size g pass salt bi bo t vs K r (k + 1) wr HKr.out ((HSS.out.below hir (Nat.le_refl _)).more (by omega)) (by omega) (HT.out.below hir hG) hKe hr1 hr2
      rw [vb_num (k + 1) (by omega), Int.natCast_succ] at hst
      have HST := Lib.hid hst; clear hst hKe hir
      gi_wp2
      refine ⟨trivial, (callsIn_wide.2 HST.out).mono ?_⟩
      rintro e W2 ⟨v2, bt2, rfl, hO2, hK2, hg2⟩
      have hb2 : Below W.heap.size wr W2 := (Below.refl _ wr).grown hg2 hzr (fun j e => by cases e; exact HKr.out.lg)
      have hz2 : wr.heap.size ≤ W2.heap.size := hg2.size
      obtain ⟨fn, tmps, assign, body, hy, hR⟩ := HY.out pre (v2, pieceS pass salt r (k + 1)) W2 (HJ.out _ _ _ HJr.out hzr hb2) (by omega) ⟨hO2.lower hzr, by rw [HKL.out]⟩
      have HK2 := Lib.hid hK2; clear hK2 hO2 hg2 hb2
      gi_wp2
      refine hR.mono ?_
      rintro e W3 (⟨rfl, hJ3, hz3, hk3⟩ | ⟨rfl, hJx3⟩)
      · have HJ3 := Lib.hid hJ3; clear hJ3
        have HK3 := Lib.hid (HK2.out.kc hk3 hwW); clear hk3
        gi_wp2
        go_roundw
        case rel => exact ⟨_, _, by rw [List.length_append, List.length_singleton, ← HKL.out]; omega, by rw [List.length_append, List.length_singleton, ← HKL.out]; go_num, HJ3.out, HK3.out, by omega⟩
        case measure => exact meas_lt 4 k (by omega)
      · gi_wp2
        refine bodyPost_ret (results_none rfl _ _ _) rfl ?_
        exact ⟨⟨_, rfl⟩, .inr ⟨_, hJx3⟩⟩
    · have hk4 : k = 4 := by omega
      gi_wp2
      go_end0
      exact ⟨⟨_, rfl⟩, .inl ⟨_, by rw [← HKL.out]; exact hk4, HJr.out⟩⟩
attribute [local go_sem] Oper.semAt_some
theorem wpOp_store1 {P : Program} {ops : Array Oper} {Q : Exit → Act → World → Prop} {K : Act → World → Prop} {a : Act} {w w' : World} {i : Nat} {o : Oper} (hi : ops[i]? = some o) (hd : o.dst = none) (hw : Region.wanted o (yielded ops a.tmps) = true)
    (hr : (execOp a.eval o).run P w = .ok .skip w') (h : K a w') : wpOp P ops Q i K a w :=
  wpOp_of_wp hi hw (by unfold Oper.wp; rw [hr]; show K (a.put o.dst undef) w'; rw [hd]; exact h)
theorem wpOp_appD {P : Program} {ops : Array Oper} {Q : Exit → Act → World → Prop} {K : Act → World → Prop} {a : Act} {w w' : World} {i : Nat} {o : Oper} (d : Tmp) (hi : ops[i]? = some o) (hd : o.dst = some d) (hw : Region.wanted o (yielded ops a.tmps) = true)
    (s x : Operand) (t : TypeId) (hop : o.op = Op.call { callee := Callee.builtin Builtin.append, args := #[s, x], argTypes := #[t, t] }) (vs vx v : Value) (hs : a.eval s = vs) (hx : a.eval x = vx)
    (hrun : (Builtin.append_ #[t, t] o.type #[vs, vx]).run P w = .ok v w') (h : K (a.put (some d) v) w') : wpOp P ops Q i K a w :=
  wpOp_of_wp hi hw (by
    unfold Oper.wp
    simp [execOp, hop, resolve, invoke, builtin, hs, hx, hrun, Result.andThen]
    show K (a.put o.dst v) w'
    rw [hd]; exact h)
/-- What the row of so many bytes holds behind the bytes l. -/
def fill (size : Nat) (l : List UInt8) : List UInt8 := l.take size ++ List.replicate (size - l.length) 0
theorem fill_nil (size : Nat) : fill size [] = List.replicate size 0 := by unfold fill; simp
theorem fill_length (size : Nat) (l : List UInt8) : (fill size l).length = size := by unfold fill; simp; omega
theorem fill_step (size : Nat) (l x : List UInt8) (need : Nat) (h : l.length ≤ size) (hn : need = min (size - l.length) x.length) :
    ((fill size l).map vb).take l.length ++ ((x.take need).map vb) ++ ((fill size l).map vb).drop (l.length + ((x.take need).map vb).length) = (fill size (l ++ x)).map vb := by
  have e1 : (fill size l).take l.length = l := by
    unfold fill
    rw [List.take_of_length_le h, List.take_append_of_le_length (Nat.le_refl _), List.take_length]
  have hxl : (x.take need).length = need := by rw [List.length_take]; omega
  have e2 : (fill size l).drop (l.length + need) = List.replicate (size - l.length - need) 0 := by
    unfold fill
    rw [List.take_of_length_le h, List.drop_append, List.drop_of_length_le (by omega), List.nil_append, List.drop_replicate]
    congr 1
    omega
  have e3 : fill size (l ++ x) = l ++ x.take need ++ List.replicate (size - l.length - need) 0 := by
    unfold fill
    rw [List.take_append, List.take_of_length_le h, List.length_append]
    congr 1
    · congr 1
      rw [hn, List.take_eq_take_iff]
      omega
    · congr 1
      omega
  rw [List.length_map, hxl, ← List.map_take, ← List.map_drop, e1, e2, ← List.map_append, ← List.map_append, ← e3]
theorem fill_full (size : Nat) (l : List UInt8) (h : size ≤ l.length) : fill size l = l.take size := by unfold fill; rw [show size - l.length = 0 by omega]; simp
/-- What lies in memory between two rounds: the size, the bytes so far, their row. -/
structure Fi (w : World) (size n : Nat) (l : List UInt8) (W : World) : Prop where
  bs : Boxed W w.heap.size 3 (.int .i64 (size : Int))
  bo : Boxed W (w.heap.size + 2) 34 (.slice (some ⟨w.heap.size + 1, 0, none⟩) n size)
  row : Blk W (w.heap.size + 1) ((fill size l).map vb)
  ty : Ty W (w.heap.size + 1) 5
  low : Below w.heap.size w W
theorem Fi.below {w A B : World} {size n b : Nat} {l : List UInt8} (h : Fi w size n l A) (hb : Below b A B) (hB : w.heap.size + 3 ≤ b) : Fi w size n l B :=
  ⟨(hb.block _ (by omega)).trans h.bs, (hb.block _ (by omega)).trans h.bo, h.row.below hb (by omega), h.ty.below hb (by omega), h.low.trans (hb.mono (by omega))⟩
theorem slice_nn (g c n : Nat) (L : Nat) (h : n ≤ L) (hc : L ≤ c) (w : World) : (Instr.slice 34 (.slice (some ⟨g, 0, none⟩) L c) none (some (.int .i64 (n : Int))) (some (.int .i64 (n : Int)))).run Tryz.prog w = .ok (.slice (some ⟨g, 0, none⟩) n n) w := by
  rw [run_slice_hm w 34 (some ⟨g, 0, none⟩) L c Tryz.underlying34 .i64 .i64 n n (by omega) (by omega) (by omega)]
  by_cases h0 : n = 0 <;> simp [sliced, go_sem, h0]
set_option maxRecDepth 100000 in
set_option maxHeartbeats 4000000 in
theorem first_core (gf : Nat) (lb : Array Value) (p : Nat → List UInt8) (size : Nat) (w : World) (hp : ∀ n, (p (n + 1)).length = 32) (h1 : 1 ≤ size) (h2 : size ≤ 128) (eg : ∀ args w, (callFunc gf args).run Tryz.prog w = .ok (.enter gf args) w)
    (hseq : ∀ W, Below w.heap.size w W → SeqOw Fence.wide (8 - 1) Tryz.prog gf lb (fun x : Pc => #[x.1]) (PY p) (fun xs => xs.length = 4) (fun A => Below w.heap.size w A) W) :
    Calls Tryz.prog 66 #[.int .i64 (size : Int), .func (.func gf) #[] lb] w fun e w' => ∃ v', e = .returned v' ∧ OwnB w' w.heap.size v' ((catN p 4).take size) ∧ Below w.heap.size w w' := by
  have hmk : ∀ W : World, (Instr.makeSlice 34 (.int .i64 0) (.int .i64 (size : Int))).run Tryz.prog W = .ok (.slice (some ⟨W.heap.size, 0, none⟩) 0 size) (W.alloc (.cells (noughts size) 5)) := fun W => make_bytes 0 size (by omega) (by omega) W
  have hcl := fun k => catN_len p hp k
  have HCL := Lib.hid hcl; clear hcl
  have HP := Lib.hid hp; clear hp
  have HSQ := Lib.hid hseq; clear hseq
  refine (callsIn_wide (n := 8)).1 ?_
  refine callsIn_of_wp_marks Tryz.func66 rfl trivial ?_ rfl
  simp only [Tryz.ntmps66, List.size_toArray, List.length_cons, List.length_nil, Nat.reduceAdd, Nat.reduceSub, Array.replicate_succ, Array.replicate_zero, List.push_toArray, List.append_toArray, List.nil_append, List.cons_append]
  gi_wp2
  have bs := ((Boxed.new w 3 (.int .i64 (size : Int))).alloc (.cells (noughts size) 5)).alloc (.cells #[.slice (some ⟨w.heap.size + 1, 0, none⟩) 0 size] 34)
  have rw0 : Blk ((w.alloc (.cells #[.int .i64 (size : Int)] 3)).alloc (.cells (noughts size) 5)) (w.heap.size + 1) ((fill size []).map vb) := Blk.newAt _ _ _ (by simp) (by rw [fill_nil, List.map_replicate, noughts_list])
  have ty0 : Ty ((w.alloc (.cells #[.int .i64 (size : Int)] 3)).alloc (.cells (noughts size) 5)) (w.heap.size + 1) 5 := by
    have := Ty.new (w.alloc (.cells #[.int .i64 (size : Int)] 3)) (noughts size) 5
    rwa [World.size_alloc] at this
  have bo := Boxed.new ((w.alloc (.cells #[.int .i64 (size : Int)] 3)).alloc (.cells (noughts size) 5)) 34 (.slice (some ⟨w.heap.size + 1, 0, none⟩) 0 size)
  simp only [World.size_alloc] at bo
  have b3 : Below (w.heap.size + 2) ((w.alloc (.cells #[.int .i64 (size : Int)] 3)).alloc (.cells (noughts size) 5)) (((w.alloc (.cells #[.int .i64 (size : Int)] 3)).alloc (.cells (noughts size) 5)).alloc (.cells #[.slice (some ⟨w.heap.size + 1, 0, none⟩) 0 size] 34)) := (Below.refl _ _).alloc (by simp) _
  have hF0 : Fi w size 0 [] (((w.alloc (.cells #[.int .i64 (size : Int)] 3)).alloc (.cells (noughts size) 5)).alloc (.cells #[.slice (some ⟨w.heap.size + 1, 0, none⟩) 0 size] 34)) :=
    ⟨bs, bo, rw0.below b3 (by omega), ty0.below b3 (by omega), (((Below.refl _ w).alloc (Nat.le_refl _) _).alloc (by simp) _).alloc (by simp; omega) _⟩
  generalize hW0 : World.alloc (World.alloc (World.alloc w _) _) _ = W0 at hF0 ⊢
  have hsz0 : W0.heap.size = w.heap.size + 3 := by rw [← hW0]; simp
  clear hW0 bs rw0 ty0 bo b3 hmk
  have HF0 := Lib.hid hF0; clear hF0
  refine wpIn_rangeFunc_ow rfl (by omega) (gf := gf) (lb := lb) rfl trivial eg (encs := fun x : Pc => #[x.1]) (PY p) (fun xs => xs.length = 4) (fun A => Below w.heap.size w A)
    (fun pre W => Fi w size (32 * pre.length) (catN p pre.length) W ∧ 32 * pre.length < size)
    (fun c pre W => c = .exit 0 ∧ Fi w size size (catN p pre.length) W ∧ size ≤ 32 * pre.length ∧ pre.length ≤ 4)
    (HSQ.out W0 HF0.out.low) (fun pre A h => h.1.low) (fun _ => rfl)
    (fun pre A B h hz hb => ⟨h.1.below hb (by omega), h.2⟩)
    (fun c pre A B h hz hb => ⟨h.1, h.2.1.below hb (by omega), h.2.2⟩)
    (fun b pre x A B h hk => ⟨ownsRow_kc h.1 (Nat.le_refl _) hk, h.2⟩)
    ⟨by rw [List.length_nil, catN_zero]; exact HF0.out, by show 0 < size; omega⟩
    (fun x a' => a' = { tmps := #[Value.int IntKind.i64 (size : Int), Value.func (Fn.func gf) #[] lb, Value.pointer (some { block := w.heap.size, off := 0 }), undef, Value.slice none 0 0,
          Value.pointer (some { block := w.heap.size + 1 + 1, off := 0 }), x.1, undef, Value.int IntKind.i64 (size : Int), Value.slice (some { block := w.heap.size + 1, off := 0 }) 0 size, Value.func (Fn.func gf) #[] lb, x.1,
          undef, undef, undef, undef, undef, undef, undef, undef, undef, undef, undef, undef, undef, undef, undef, undef, undef, undef], defers := [] })
    ?assign ?body ?done ?stop
  case assign =>
    rintro l x W K hK
    have HK := Lib.hid hK; clear hK
    gi_wp2
    exact HK.out _ rfl
  case body =>
    rintro l b pre ⟨v, x⟩ a' W hb hbz ⟨hF, hlt⟩ ⟨hO, hx⟩ rfl
    simp only at hO hx
    have hxl : x.length = 32 := by rw [hx]; exact HP.out _
    obtain ⟨g, cap, rfl, hg1, hg2, hg3, hg4, hbs, _⟩ := hO.form (by omega)
    obtain ⟨N, hN⟩ : ∃ N, N = 32 * pre.length := ⟨_, rfl⟩
    have hcat := HCL.out pre.length
    have hsucc := catN_succ p pre.length
    rw [← hN] at hlt hF hcat
    rw [← hx] at hsucc
    obtain ⟨C, hC⟩ : ∃ C, C = catN p pre.length := ⟨_, rfl⟩
    rw [← hC] at hF hcat hsucc
    obtain ⟨need, hnd⟩ : ∃ need, need = min (size - N) x.length := ⟨_, rfl⟩
    have hnd1 : 1 ≤ need ∧ need ≤ 32 ∧ N + need ≤ size ∧ need ≤ x.length := by omega
    have hfs := fill_step size C x need (by omega) (by rw [hcat]; exact hnd)
    rw [hcat] at hfs
    have hnl : ((x.take need).map vb).length = need := by rw [List.length_map, List.length_take]; omega
    have c2 := hF.bs.cell
    have c5 := hF.bo.cell
    have f5 := hF.bo.frozen
    have hxcell : ∀ j u, ((x.take need).map vb)[j]? = some u → W.drew.cell? ((⟨g, 0, none⟩ : Addr).add j) = some u := fun j u hu => by
      rw [Addr.add_lit]
      rw [List.getElem?_map] at hu
      by_cases hj : j < (x.take need).length
      · rw [List.getElem?_eq_getElem hj] at hu
        cases hu
        rw [List.getElem_take]
        exact hbs j (by rw [List.length_take] at hj; omega)
      · rw [List.getElem?_eq_none (by omega)] at hu; cases hu
    have hsp := hF.row.there N need (by rw [List.length_map, fill_length]; omega)
    obtain ⟨i0, hi, hz0, hz1, hz2⟩ := info_parts info_b
    obtain ⟨nws, hnw⟩ : ∃ nws, nws = (x.take need).map vb := ⟨_, rfl⟩
    rw [← hnw] at hfs hnl hxcell
    have hone : ∀ u ∈ nws, u.oneCell' = true := by rw [hnw]; exact oneCell_bytes _
    have hap := run_append_room_cells (P := Tryz.prog) W.drew 34 34 5 i0 Tryz.underlying34 hi (w.heap.size + 1) 0 N size ⟨g, 0, none⟩ need need nws (by rw [hz1, hnl, Nat.mul_one]) hxcell hone (by omega)
      (fun j hj => by rw [hz1, Nat.mul_one, Nat.zero_add]; exact (hsp j (by omega)).1) (fun j hj => by rw [hz1, Nat.mul_one, Nat.zero_add]; exact (hsp j (by omega)).2)
    rw [hz1, Nat.mul_one, Nat.zero_add] at hap
    have hsl := fun W => slice_nn g cap need x.length hnd1.2.2.2 hg3 W
    have hF2 : Fi w size (N + need) (C ++ x) ((W.drew.setCells (w.heap.size + 1) N nws).setCell ⟨w.heap.size + 2, 0, none⟩ (.slice (some ⟨w.heap.size + 1, 0, none⟩) (N + need) size)) := by
      have hgs := grown_setCells (w.heap.size + 1) nws W.drew N
      have hq1 : Boxed W.drew w.heap.size 3 (.int .i64 (size : Int)) := hF.bs
      have hq2 : Boxed W.drew (w.heap.size + 2) 34 (.slice (some ⟨w.heap.size + 1, 0, none⟩) N size) := hF.bo
      refine ⟨(hq1.kept hgs (by simp)).other (by omega) _, (hq2.kept hgs (by simp)).set _, ?_, (hF.ty.drew.setCells nws N).set _ _ _, ?_⟩
      · have h5 := (hF.row.drew).setCells (vs := nws) N (by rw [hnl, List.length_map, fill_length]; omega)
        rw [hfs] at h5
        exact h5.setOther (by show w.heap.size + 2 ≠ w.heap.size + 1; omega) _
      · exact (below_setCells (by omega) nws (below_drewN hF.low 1) N).setCell (p := ⟨w.heap.size + 2, 0, none⟩) (by show w.heap.size ≤ w.heap.size + 2; omega) _
    have hKF : KeepsFrom W0.heap.size W ((W.drew.setCells (w.heap.size + 1) N nws).setCell ⟨w.heap.size + 2, 0, none⟩ (.slice (some ⟨w.heap.size + 1, 0, none⟩) (N + need) size)) :=
      (((KeepsOthers.drew W).from _).trans (KeepsFrom.of_grownBy (grown_setCells (w.heap.size + 1) nws W.drew N) (by rintro j e; cases e; omega))).trans (KeepsFrom.of_grownBy (grown_set _ _ _) (by rintro j e; cases e; show w.heap.size + 2 < _; omega))
    have hKC : KC W0.heap.size W ((W.drew.setCells (w.heap.size + 1) N nws).setCell ⟨w.heap.size + 2, 0, none⟩ (.slice (some ⟨w.heap.size + 1, 0, none⟩) (N + need) size)) := fun k c t f hk ho => by
      have hkl := (Array.getElem?_eq_some_iff.1 ho).1
      refine (Below.heap_setCell _ _ _ k (by show k ≠ w.heap.size + 2; omega)).trans (((grown_setCells (w.heap.size + 1) nws W.drew N).block k hkl (by intro e; cases e; omega)).trans ho)
    have HF2 := Lib.hid hF2; clear hF2
    have HQ2 := Lib.hid hF.bo
    have HKF := Lib.hid hKF; clear hKF
    have HKC := Lib.hid hKC; clear hKC
    have HAP := Lib.hid hap; clear hap
    have HSL := Lib.hid hsl; clear hsl
    have HPL : Hid (N = 32 * pre.length ∧ need = min (size - N) x.length ∧ x.length = 32 ∧ catN p (pre.length + 1) = C ++ x) := Lib.hid ⟨hN, hnd, hxl, hsucc⟩
    have hcm : ((size : Int) - (N : Int) ≤ (x.length : Int) ∧ need = size - N) ∨ ((x.length : Int) < (size : Int) - (N : Int) ∧ need = x.length) := by omega
    have HCM := Lib.hid hcm; clear hcm
    clear hO hx hxl hN hnd hsucc hcat hC hfs hxcell hsp hnw hone hz0 hz1 hz2 hi hbs hnl hF HP HCL
    gi_upto_region 4 with fail
    gi_cut [7] from 30 (fun s7 wx => W = wx ∧ s7 = .int .i64 (need : Int))
    case first =>
      rcases HCM.out with ⟨h5, h6⟩ | ⟨h5, h6⟩
      · have h7 : (size : Int) - (N : Int) = (need : Int) := by omega
        have H7 := Lib.hid h7; clear h7 h6
        gi_wp2
        gi_meet
        case rel => exact ⟨rfl, congrArg _ H7.out⟩
      · have H7 := Lib.hid h6; clear h6
        gi_wp2
        gi_meet
        case rel => exact ⟨rfl, by rw [H7.out]⟩
    case rest =>
    obtain ⟨rfl, rfl⟩ := hcut
    gi_wp2
    refine wpIn_region_held_round (S := fun _ => True) (by kernel_rfl) (by kernel_rfl) (by rintro ⟨_, _, h⟩; exact h) ?_
    change wpAnyH _ _ _ _ _ _ _ _ W.drew
    have c5d : W.drew.cell? ⟨w.heap.size + 2, 0, none⟩ = some (.slice (some ⟨w.heap.size + 1, 0, none⟩) N size) := c5
    refine takeH 1 20 (.slice (some ⟨g, 0, none⟩) x.length cap) rfl rfl (by kernel_rfl) (by kernel_rfl) (by kernel_rfl) (fun _ _ _ h => h) rfl (fun w' hS => by go_simp) trivial ?_
    go_frame
    refine takeH 2 21 (.int .i64 (need : Int)) rfl rfl (by kernel_rfl) (by kernel_rfl) (by kernel_rfl) (fun _ _ _ h => h) rfl (fun w' hS => by go_simp) trivial ?_
    go_frame
    refine takeH 3 22 (.int .i64 (need : Int)) rfl rfl (by kernel_rfl) (by kernel_rfl) (by kernel_rfl) (fun _ _ _ h => h) rfl (fun w' hS => by go_simp) trivial ?_
    go_frame
    have hsl := HSL.out W.drew
    refine wpAnyH_all (rs := [0, 4]) (by kernel_rfl) (by simp) ?_
    simp only [List.mem_cons, List.not_mem_nil, or_false, forall_eq_or_imp, forall_eq]
    refine ⟨?_, ?_⟩
    · refine wpOp_valueD 19 rfl rfl rfl (.slice (some ⟨w.heap.size + 1, 0, none⟩) N size) (by go_simp) ⟨trivial, ?_⟩
      go_frame
      refine wpAnyH_all (rs := [4]) (by kernel_rfl) (by simp) ?_
      simp only [List.mem_singleton, forall_eq]
      refine wpOp_valueD 23 rfl rfl rfl (.slice (some ⟨g, 0, none⟩) need need) (by go_simp) ⟨trivial, ?_⟩
      go_frame
      clear hsl
      have hap := HAP.out
      refine wpAnyH_all (rs := [5]) (by kernel_rfl) (by simp) ?_
      simp only [List.mem_singleton, forall_eq]
      refine wpOp_appD 24 rfl rfl rfl (.tmp 19) (.tmp 23) 34 rfl (.slice (some ⟨w.heap.size + 1, 0, none⟩) N size) (.slice (some ⟨g, 0, none⟩) need need) (.slice (some ⟨w.heap.size + 1, 0, none⟩) (N + need) size) (w' := W.drew.setCells (w.heap.size + 1) N nws) rfl rfl hap ?_
      have hgs := grown_setCells (w.heap.size + 1) nws W.drew N
      have hq : Boxed W.drew (w.heap.size + 2) 34 (.slice (some ⟨w.heap.size + 1, 0, none⟩) N size) := HQ2.out
      have c5b := (hq.kept hgs (by simp)).cell
      have f5b := (hq.kept hgs (by simp)).frozen
      refine ⟨trivial, ?_⟩
      go_frame
      refine wpAnyH_all (rs := [6]) (by kernel_rfl) (by simp) ?_
      simp only [List.mem_singleton, forall_eq]
      refine wpOp_store1 rfl rfl rfl (w' := (W.drew.setCells (w.heap.size + 1) N nws).setCell ⟨w.heap.size + 2, 0, none⟩ (.slice (some ⟨w.heap.size + 1, 0, none⟩) (N + need) size)) (by go_simp) ?_
      have hd5 := HF2.out.bo.cell
      have hd2 := HF2.out.bs.cell
      obtain ⟨W2, hW2⟩ : ∃ W2, W2 = (W.drew.setCells (w.heap.size + 1) N nws).setCell ⟨w.heap.size + 2, 0, none⟩ (.slice (some ⟨w.heap.size + 1, 0, none⟩) (N + need) size) := ⟨_, rfl⟩
      rw [← hW2] at hd5 hd2 HF2 HKF HKC ⊢
      clear hW2 f5b c5b hgs hap HAP HSL c5d c5 f5 c2 HQ2 hq
      refine ⟨trivial, wpAnyH_done (by kernel_rfl) ?_ _⟩
      refine NoPanic.normal ?_
      by_cases hfull : N + need = size
      · have hde : decide ((N : Int) + (need : Int) = (size : Int)) = true := by simp; omega
        gi_wp2
        obtain ⟨q1, q2, q3, q4⟩ := HPL.out
        refine ⟨HKF.out, rfl, ?_, ?_, ?_⟩
        · have := HF2.out
          rw [hfull, ← q4] at this
          rw [List.length_append, List.length_singleton]
          exact this
        · rw [List.length_append, List.length_singleton]; omega
        · rw [List.length_append, List.length_singleton]; omega
      · have hde : decide ((N : Int) + (need : Int) = (size : Int)) = false := by simp; omega
        gi_wp2
        obtain ⟨q1, q2, q3, q4⟩ := HPL.out
        refine ⟨HKF.out, HKC.out, ?_, ?_⟩
        · have := HF2.out
          rw [← q4, show N + need = 32 * (pre.length + 1) by omega] at this
          rw [List.length_append, List.length_singleton]
          exact this
        · rw [List.length_append, List.length_singleton]; omega
    · refine wpOp_valueD 23 rfl rfl rfl (.slice (some ⟨g, 0, none⟩) need need) (by go_simp) ⟨trivial, ?_⟩
      go_frame
      refine wpAnyH_all (rs := [0]) (by kernel_rfl) (by simp) ?_
      simp only [List.mem_singleton, forall_eq]
      refine wpOp_valueD 19 rfl rfl rfl (.slice (some ⟨w.heap.size + 1, 0, none⟩) N size) (by go_simp) ⟨trivial, ?_⟩
      go_frame
      clear hsl
      have hap := HAP.out
      refine wpAnyH_all (rs := [5]) (by kernel_rfl) (by simp) ?_
      simp only [List.mem_singleton, forall_eq]
      refine wpOp_appD 24 rfl rfl rfl (.tmp 19) (.tmp 23) 34 rfl (.slice (some ⟨w.heap.size + 1, 0, none⟩) N size) (.slice (some ⟨g, 0, none⟩) need need) (.slice (some ⟨w.heap.size + 1, 0, none⟩) (N + need) size) (w' := W.drew.setCells (w.heap.size + 1) N nws) rfl rfl hap ?_
      have hgs := grown_setCells (w.heap.size + 1) nws W.drew N
      have hq : Boxed W.drew (w.heap.size + 2) 34 (.slice (some ⟨w.heap.size + 1, 0, none⟩) N size) := HQ2.out
      have c5b := (hq.kept hgs (by simp)).cell
      have f5b := (hq.kept hgs (by simp)).frozen
      refine ⟨trivial, ?_⟩
      go_frame
      refine wpAnyH_all (rs := [6]) (by kernel_rfl) (by simp) ?_
      simp only [List.mem_singleton, forall_eq]
      refine wpOp_store1 rfl rfl rfl (w' := (W.drew.setCells (w.heap.size + 1) N nws).setCell ⟨w.heap.size + 2, 0, none⟩ (.slice (some ⟨w.heap.size + 1, 0, none⟩) (N + need) size)) (by go_simp) ?_
      have hd5 := HF2.out.bo.cell
      have hd2 := HF2.out.bs.cell
      obtain ⟨W2, hW2⟩ : ∃ W2, W2 = (W.drew.setCells (w.heap.size + 1) N nws).setCell ⟨w.heap.size + 2, 0, none⟩ (.slice (some ⟨w.heap.size + 1, 0, none⟩) (N + need) size) := ⟨_, rfl⟩
      rw [← hW2] at hd5 hd2 HF2 HKF HKC ⊢
      clear hW2 f5b c5b hgs hap HAP HSL c5d c5 f5 c2 HQ2 hq
      refine ⟨trivial, wpAnyH_done (by kernel_rfl) ?_ _⟩
      refine NoPanic.normal ?_
      by_cases hfull : N + need = size
      · have hde : decide ((N : Int) + (need : Int) = (size : Int)) = true := by simp; omega
        gi_wp2
        obtain ⟨q1, q2, q3, q4⟩ := HPL.out
        refine ⟨HKF.out, rfl, ?_, ?_, ?_⟩
        · have := HF2.out
          rw [hfull, ← q4] at this
          rw [List.length_append, List.length_singleton]
          exact this
        · rw [List.length_append, List.length_singleton]; omega
        · rw [List.length_append, List.length_singleton]; omega
      · have hde : decide ((N : Int) + (need : Int) = (size : Int)) = false := by simp; omega
        gi_wp2
        obtain ⟨q1, q2, q3, q4⟩ := HPL.out
        refine ⟨HKF.out, HKC.out, ?_, ?_⟩
        · have := HF2.out
          rw [← q4, show N + need = 32 * (pre.length + 1) by omega] at this
          rw [List.length_append, List.length_singleton]
          exact this
        · rw [List.length_append, List.length_singleton]; omega
  case done =>
    rintro D xs W hD hz hxs ⟨_, h⟩ hK
    omega
  case stop =>
    rintro D c pre W hD hz ⟨rfl, hF, h3, h4⟩ hK
    have c5 := hF.bo.cell
    have HF := Lib.hid hF; clear hF
    gi_wp2
    refine ⟨by simp, .inl ⟨_, _, rfl, run_takeDeferred hK, ?_⟩⟩
    have hb5 : Below W0.heap.size W (W.putObj D (.deferred none)) := below_putObj (Below.refl _ _) hz hD
    have hF2 := HF.out.below hb5 (by omega)
    refine ⟨_, results_tmp rfl _ _ _, _, rfl, ?_, hF2.low⟩
    have hrow := hF2.row
    rw [fill_full _ _ (by rw [HCL.out]; exact h3)] at hrow
    have hct := catN_take p HP.out pre.length (4 - pre.length) size h3
    rw [show pre.length + (4 - pre.length) = 4 by omega] at hct
    rw [hct]
    exact OwnB.of_blk hF2.ty hrow (by omega) (by rw [List.length_take, HCL.out]; omega) (by omega)
/-- A password's key. -/
def keyS (pass salt : List UInt8) (r size : Nat) : List UInt8 := (catN (pieceS pass salt r) 4).take size
def keyE (key info : List UInt8) (size : Nat) : List UInt8 := (catN (pieceE key info) 4).take size
theorem keyS_len (pass salt : List UInt8) (r size : Nat) (h : size ≤ 128) : (keyS pass salt r size).length = size := by
  unfold keyS; rw [List.length_take, catN_len _ (fun n => pieceS_len _ _ _ _)]; omega
theorem keyE_len (key info : List UInt8) (size : Nat) (h : size ≤ 128) : (keyE key info size).length = size := by
  unfold keyE; rw [List.length_take, catN_len _ (fun n => pieceE_len _ _ _)]; omega
attribute [irreducible] keyS keyE
set_option maxRecDepth 100000 in
set_option maxHeartbeats 1000000 in
theorem hmStretch_any (vp vs : Value) (pass salt : List UInt8) (r size : Nat) (R S : Int) (w : World) (sp : Sl w w.heap.size vp pass) (ss : Sl w w.heap.size vs salt) (lp : pass.length ≤ 10000) (ls : salt.length ≤ 10000) (hT : TabA w) (hR : R = (r : Int)) (hS : S = (size : Int)) (hr1 : 1 ≤ r) (hr2 : r ≤ 64) (h1 : 1 ≤ size) (h2 : size ≤ 128) :
    Calls Tryz.prog 43 #[vp, vs, .int .i64 R, .int .i64 S] w fun e w' => ∃ v', e = .returned (.tuple #[v', .int .i64 0]) ∧ OwnB w' w.heap.size v' (keyS pass salt r size) ∧ Below w.heap.size w w' := by
  have hG := tab_lt hT
  have hr : 1 ≤ R ∧ R ≤ 64 := by omega
  have hs : 1 ≤ S ∧ S ≤ 128 := by omega
  have HSP := Lib.hid sp; clear sp
  have HSS := Lib.hid ss; clear ss
  have HT := Lib.hid hT; clear hT
  have HR := Lib.hid hR; clear hR
  have HS := Lib.hid hS; clear hS
  go_enter Tryz.func43, Tryz.ntmps43
  go_wp2_with fail
  refine (show Calls Tryz.prog 67 #[vp, vs, .int .i64 R] w fun e w' => e = .returned (.func (.func gSt) #[] #[ptr w.heap.size, ptr (w.heap.size + 1), ptr (w.heap.size + 2)]) ∧ w' = ((w.alloc (.cells #[vp] 34)).alloc (.cells #[vs] 34)).alloc (.cells #[.int .i64 R] 3) by
    obtain ⟨A1, k1, rfl, _⟩ := HSP.out
    obtain ⟨A2, k2, rfl, _⟩ := HSS.out
    go_enter Tryz.func67, Tryz.ntmps67
    go_wp2_with fail
    go_ret
    exact ⟨rfl, rfl⟩).mono ?_
  rintro e w1 ⟨rfl, hw1⟩
  have b0 := ((Boxed.new w 34 vp).alloc (.cells #[vs] 34)).alloc (.cells #[.int .i64 R] 3)
  have b1 := (Boxed.new (w.alloc (.cells #[vp] 34)) 34 vs).alloc (.cells #[.int .i64 R] 3)
  have b2 := Boxed.new ((w.alloc (.cells #[vp] 34)).alloc (.cells #[vs] 34)) 3 (.int .i64 R)
  simp only [World.size_alloc] at b1 b2
  rw [← hw1] at b0 b1 b2
  have hsz : w1.heap.size = w.heap.size + 3 := by rw [hw1]; simp
  have hlow : Below w.heap.size w w1 := by rw [hw1]; exact (((Below.refl _ w).alloc (Nat.le_refl _) _).alloc (by simp) _).alloc (by simp; omega) _
  clear hw1
  have HB := Lib.hid hlow
  have HSZ := Lib.hid hsz
  have hsq : ∀ W, Below w1.heap.size w1 W → SeqOw Fence.wide (8 - 1) Tryz.prog gSt #[ptr w.heap.size, ptr (w.heap.size + 1), ptr (w.heap.size + 2)] (fun x : Pc => #[x.1]) (PY (pieceS pass salt r)) (fun xs => xs.length = 4) (fun A => Below w1.heap.size w1 A) W :=
    fun W _ => stretched_seq 7 (by omega) w1 W w.heap.size (w.heap.size + 1) (w.heap.size + 2) vp vs pass salt r (by omega) (by omega) (by omega) b0.cell b1.cell (by rw [← HR.out]; exact b2.cell) ((HSP.out.below hlow (Nat.le_refl _)).more (by omega)) ((HSS.out.below hlow (Nat.le_refl _)).more (by omega)) lp ls (HT.out.below hlow hG) hr1 hr2
  have HSQ := Lib.hid hsq; clear hsq hlow hsz b0 b1 b2
  have hf := first_core gSt _ (pieceS pass salt r) size w1 (fun n => pieceS_len _ _ _ _) h1 h2 (enters_of Tryz.func87 (by kernel_rfl) rfl) HSQ.out
  rw [← HS.out] at hf
  have HF := Lib.hid hf; clear hf
  go_wp2_with fail
  refine HF.out.mono ?_
  rintro e w2 ⟨v2, rfl, hO, hB2⟩
  have hO2 : OwnB w2 w.heap.size v2 (keyS pass salt r size) := by unfold keyS; exact hO.lower (by have := HSZ.out; omega)
  have HO := Lib.hid hO2; clear hO hO2
  have HB2 := Lib.hid (HB.out.trans (hB2.mono HB.out.size)); clear hB2
  go_wp2_with fail
  go_ret2
  exact ⟨_, rfl, HO.out, HB2.out⟩
set_option maxRecDepth 100000 in
set_option maxHeartbeats 1000000 in
theorem hmStretch_bad (vp vs : Value) (R S : Int) (w : World) (hbad : R < 1 ∨ 64 < R ∨ S < 1 ∨ 128 < S) :
    Calls Tryz.prog 43 #[vp, vs, .int .i64 R, .int .i64 S] w fun e w' => e = .returned (.tuple #[.slice none 0 0, .int .i64 1]) ∧ Below w.heap.size w w' := by
  by_cases h1 : R < 1
  · go_enter Tryz.func43, Tryz.ntmps43
    go_wp2_with fail
    go_ret2
    exact ⟨rfl, Below.refl _ _⟩
  · by_cases h2 : 64 < R
    · go_enter Tryz.func43, Tryz.ntmps43
      go_wp2_with fail
      go_ret2
      exact ⟨rfl, Below.refl _ _⟩
    · by_cases h3 : S < 1
      · go_enter Tryz.func43, Tryz.ntmps43
        go_wp2_with fail
        go_ret2
        exact ⟨rfl, Below.refl _ _⟩
      · have h4 : 128 < S := by omega
        go_enter Tryz.func43, Tryz.ntmps43
        go_wp2_with fail
        go_ret2
        exact ⟨rfl, Below.refl _ _⟩
end Go.Proofs.YtlnjpmpddomjiaaGreatDoor
set_option maxRecDepth 100000
namespace Go.Proofs.YtlnjpmpddomjiaaGreatDoor
open Go.RowKit
theorem be_small (k : Nat) (h : k ≤ 4) : be k 4 = [0, 0, 0, UInt8.ofNat k] := by
  match k, h with
  | 0, _ => decide
  | 1, _ => decide
  | 2, _ => decide
  | 3, _ => decide
  | 4, _ => decide
theorem keyS_cut (pass salt : List UInt8) (r size j : Nat) (hj : j ≤ 4) (h : size ≤ 32 * j) : (catN (pieceS pass salt r) j).take size = keyS pass salt r size := by
  have := catN_take (pieceS pass salt r) (fun n => pieceS_len _ _ _ _) j (4 - j) size h
  unfold keyS
  rw [← this, show j + (4 - j) = 4 by omega]
theorem keyE_cut (key info : List UInt8) (size j : Nat) (hj : j ≤ 4) (h : size ≤ 32 * j) : (catN (pieceE key info) j).take size = keyE key info size := by
  have := catN_take (pieceE key info) (fun n => pieceE_len _ _ _) j (4 - j) size h
  unfold keyE
  rw [← this, show j + (4 - j) = 4 by omega]
theorem meas2 (r k : Nat) (h : k < r) : r + 1 - (intOf (.int .i64 ((k : Int) + 1 + 1))).toNat < r + 1 - (intOf (.int .i64 ((k : Int) + 1))).toNat := by
  show r + 1 - ((k : Int) + 1 + 1).toNat < r + 1 - ((k : Int) + 1).toNat
  omega
theorem meas3 (j : Nat) (h : j < 4) : 5 - (intOf (.int .u64 ((j : Int) + 1 + 1))).toNat < 5 - (intOf (.int .u64 ((j : Int) + 1))).toNat := by
  show 5 - ((j : Int) + 1 + 1).toNat < 5 - ((j : Int) + 1).toNat
  omega
theorem meas4 (j : Nat) (h : j < 4) : 5 - (intOf (.int .u8 ((j : Int) + 1 + 1))).toNat < 5 - (intOf (.int .u8 ((j : Int) + 1))).toNat := by
  show 5 - ((j : Int) + 1 + 1).toNat < 5 - ((j : Int) + 1).toNat
  omega
/-- A slice of the call's own that was made later lies elsewhere. -/
theorem OwnB.apart {w w' : World} {b1 b2 : Nat} {v1 v2 : Value} {l1 l2 : List UInt8} (h1 : OwnB w b1 v1 l1) (h2 : OwnB w' b2 v2 l2) (hb : w'.heap.size ≤ b1) : v1.ownBlock = none ∨ v1.ownBlock ≠ v2.ownBlock := by
  cases h : v1.ownBlock with
  | none => exact .inl rfl
  | some k =>
    refine .inr fun e => ?_
    have := (h1.lt k h).1
    have := (h2.lt k e.symm).2
    omega
theorem OwnB.takeK {w : World} {base : Nat} {A : Option Addr} {n c k : Nat} {l : List UInt8} (h : OwnB w base (.slice A n c) l) (hk : k ≤ l.length) (hp : 0 < k) : OwnB w base (.slice A k c) (l.take k) := by
  have hk2 : (l.take k).length = k := by rw [List.length_take]; omega
  rcases h.2 with ⟨_, h0⟩ | ⟨g, cap, cur, e, hb, hg, hc, hm, hs, ht⟩
  · omega
  · injection e with e1 _ e3
    subst e1 e3
    refine ⟨by rw [List.length_map]; omega, .inr ⟨g, c, cur, by rw [hk2], hb, hg, by omega, hm, hs, ?_⟩⟩
    rw [hk2, Nat.mul_one, List.map_take, ← ht, List.take_take, Nat.mul_one, Nat.min_eq_left (by omega)]
set_option maxRecDepth 100000 in
set_option maxHeartbeats 4000000 in
theorem refStretch_own (B : Nat) (vp vs : Value) (pass salt : List UInt8) (r size : Nat) (R S : Int) (w : World) (sp : Sl w B vp pass) (ss : Sl w B vs salt) (hB : B ≤ w.heap.size) (lp : pass.length ≤ 1000) (ls : salt.length ≤ 1000) (hT : TabB w) (hG : 2 < w.heap.size) (hR : R = (r : Int)) (hS : S = (size : Int)) (hr1 : 1 ≤ r) (hr2 : r ≤ 64) (h1 : 1 ≤ size) (h2 : size ≤ 128) :
    Calls Tryz.prog 50 #[vp, vs, .int .i64 R, .int .i64 S] w fun e w' => ∃ v', e = .returned v' ∧ OwnB w' w.heap.size v' (keyS pass salt r size) ∧ Below w.heap.size w w' := by
  have hr : 1 ≤ R ∧ R ≤ 64 := by omega
  have hs : 1 ≤ S ∧ S ≤ 128 := by omega
  have HSP := Lib.hid sp; clear sp
  have HSS := Lib.hid ss; clear ss
  have HT := Lib.hid hT; clear hT
  have HR := Lib.hid hR; clear hR
  have HS := Lib.hid hS; clear hS
  obtain ⟨p, hp⟩ : ∃ p, p = pieceS pass salt r := ⟨_, rfl⟩
  have hcl := fun k => catN_len p (by rw [hp]; exact fun n => pieceS_len _ _ _ _) k
  have HCL := Lib.hid hcl; clear hcl
  have HCUT : Hid (∀ j, j ≤ 4 → size ≤ 32 * j → (catN p j).take size = keyS pass salt r size) := Lib.hid fun j h3 h4 => by rw [hp]; exact keyS_cut pass salt r size j h3 h4
  have HPE : Hid (∀ n, p n = (pbr pass (hm pass (salt ++ [0, 0, 0, UInt8.ofNat n])) (r - 1)).2) := Lib.hid fun n => by rw [hp]; unfold pieceS; rfl
  clear hp
  go_enter Tryz.func50, Tryz.ntmps50
  go_wp2_with fail
  go_loopw [9, 10, 11, 12, 13] (fun o n _ _ _ wr => ∃ j : Nat, j ≤ 4 ∧ n = .int .u64 ((j : Int) + 1) ∧ OwnB wr w.heap.size o (catN p j) ∧ Below w.heap.size w wr) (fun _ n _ _ _ _ => 5 - (intOf n).toNat)
  case atStart => exact ⟨0, by omega, by simp, by rw [catN_zero]; exact OwnB.nil _ _, Below.refl _ _⟩
  case round =>
    obtain ⟨j, hj, rfl, hO, hb⟩ := hrel
    have hlen := HCL.out j
    have hsucc := catN_succ p j
    obtain ⟨C, hC⟩ : ∃ C, C = catN p j := ⟨_, rfl⟩
    rw [← hC] at hO hlen hsucc
    obtain ⟨Ao, co, rfl, _⟩ := hO.sl
    rw [hlen] at hO ⊢
    have HO := Lib.hid hO; clear hO
    have HB := Lib.hid hb; clear hb
    have HSU := Lib.hid hsucc; clear hsucc
    have HCE := Lib.hid hC; clear hC
    have HLE := Lib.hid hlen; clear hlen
    have hzr := HB.out.size
    by_cases hlt : 32 * j < size
    · have hlt2 : ((32 * j : Nat) : Int) < S := by have := HS.out; omega
      go_wp2_with fail
      refine (copy_any B vs salt wr (HSS.out.below HB.out hB) (by omega) (by omega)).mono ?_
      rintro e w1 ⟨v1, rfl, hO1, hB1⟩
      have HO1 := Lib.hid hO1; clear hO1
      have HB1 := Lib.hid hB1; clear hB1
      have hz1 := HB1.out.size
      have hby := refBytes_any (j + 1) 4 w1 (by omega) (by omega)
      rw [be_small _ (by omega), Int.natCast_succ] at hby
      have HBY := Lib.hid hby; clear hby
      go_wp2_with fail
      refine HBY.out.mono ?_
      rintro e w2 ⟨v2, rfl, hO2, hB2⟩
      have HO12 := Lib.hid (HO1.out.below hB2)
      have HO2 := Lib.hid hO2.sl; clear hO2
      have HB2 := Lib.hid (HB1.out.trans (hB2.mono hz1)); clear hB2
      have hz2 := HB2.out.size
      go_wp2_with (at_builtin; ((with_reducible refine wpList_app_sl ?g1 (.tmp 36) (.tmp 38) ?g2 wr.heap.size v1 salt [0, 0, 0, UInt8.ofNat (j + 1)] ?g3 ?g4 w2.heap.size v2 ?g5 ?g6 ?g7 ?g8 ?_); (case g1 => rfl); (case g2 => rfl); (case g3 => rfl); (case g4 => exact HO12.out); (case g5 => rfl); (case g6 => exact HO2.out); (case g7 => simp; omega); (case g8 => exact hz2); intro v3 w3 hv hg; have Hg := Lib.hid (HB2.out.trans (HO12.out.belowBase hg hz2)); clear hg; have Hv := Lib.hid hv; clear hv))
      have hz3 := Hg.out.size
      have HB3 := Lib.hid (HB.out.trans (Hg.out.mono hzr))
      refine (refHm_any w3.heap.size vp v3 pass (salt ++ [0, 0, 0, UInt8.ofNat (j + 1)]) w3 (HT.out.below HB3.out hG) (by show _ < w3.heap.size; omega) ((HSP.out.below HB3.out hB).more (by omega)) Hv.out.sl (Nat.le_refl _) (by omega) (by simp; omega)).mono ?_
      rintro e w4 ⟨v4, rfl, hO4, hB4⟩
      obtain ⟨u, hu⟩ : ∃ u, u = hm pass (salt ++ [0, 0, 0, UInt8.ofNat (j + 1)]) := ⟨_, rfl⟩
      have hul : u.length = 32 := by rw [hu, hm_length]
      have hpe := HPE.out (j + 1)
      rw [← hu] at hO4 hpe
      have HPJ := Lib.hid hpe; clear hpe
      have hlen := fun k => pbr_len pass u hul k
      have HLEN := Lib.hid hlen; clear hlen hul
      have HO4 := Lib.hid (hO4.lower hz3); clear hO4
      have HB4 := Lib.hid (Hg.out.trans (hB4.mono hz3)); clear hB4
      clear hu
      go_wp2_with fail
      obtain ⟨wo, hwo⟩ : ∃ wo, wo = wr := ⟨_, rfl⟩
      subst hwo
      go_loopw [11, 12, 13] (fun la pc i wq => ∃ k : Nat, k ≤ r - 1 ∧ i = .int .i64 ((k : Int) + 1) ∧ OwnB wq wo.heap.size la (pbr pass u k).1 ∧ OwnB wq wo.heap.size pc (pbr pass u k).2 ∧ Below wo.heap.size wo wq) (fun _ _ i _ => r + 1 - (intOf i).toNat)
      case atStart => exact ⟨0, by omega, by simp, by rw [pbr_zero]; exact HO4.out, by rw [pbr_zero]; exact HO4.out, HB4.out⟩
      case round =>
        obtain ⟨k, hk, rfl, hla, hpc, hbk⟩ := hrel
        obtain ⟨L, hL⟩ : ∃ L, L = (pbr pass u k).1 := ⟨_, rfl⟩
        obtain ⟨Pq, hPc⟩ : ∃ L, L = (pbr pass u k).2 := ⟨_, rfl⟩
        have HLl : Hid (L.length = 32) := Lib.hid (by rw [hL]; exact (HLEN.out k).1)
        have HPl : Hid (Pq.length = 32) := Lib.hid (by rw [hPc]; exact (HLEN.out k).2)
        have hsucc := pbr_succ pass u k
        rw [← hL, ← hPc] at hsucc
        rw [← hL] at hla
        rw [← hPc] at hpc
        have HLA := Lib.hid hla; clear hla
        have HPC := Lib.hid hpc; clear hpc
        have HBK := Lib.hid hbk; clear hbk
        have HSC := Lib.hid hsucc; clear hsucc
        have HPq := Lib.hid hPc; clear hPc hL
        have hzk := HBK.out.size
        by_cases hlk : k < r - 1
        · have hlt3 : (k : Int) + 1 < R := by have := HR.out; omega
          have HBw := Lib.hid (HB.out.trans (HBK.out.mono hzr))
          have hzw := HBw.out.size
          go_wp2_with fail
          refine (refHm_any wr.heap.size vp _ pass L wr (HT.out.below HBw.out hG) (by show _ < wr.heap.size; omega) ((HSP.out.below HBw.out hB).more (by omega)) HLA.out.sl (Nat.le_refl _) (by omega) (by have := HLl.out; omega)).mono ?_
          rintro e w5 ⟨v5, rfl, hO5, hB5⟩
          have hml := hm_length pass L
          obtain ⟨M, hM⟩ : ∃ M, M = hm pass L := ⟨_, rfl⟩
          rw [← hM] at hml hO5 HSC
          have HML := Lib.hid hml; clear hml hM
          have HPC5 := Lib.hid (HPC.out.below hB5)
          have HO5 := Lib.hid hO5; clear hO5
          have HB5 := Lib.hid (HBK.out.trans (hB5.mono hzk))
          have hz5 := hB5.size
          clear hB5
          go_wp2_with fail
          refine (refXor_any w5.heap.size _ v5 Pq M w5 HPC5.out.sl HO5.out.sl (Nat.le_refl _) (by have := HPl.out; omega) (by have := HML.out; omega)).mono ?_
          rintro e w6 ⟨v6, rfl, hO6, hB6⟩
          have HO6 := Lib.hid hO6; clear hO6
          have HO56 := Lib.hid (HO5.out.below hB6)
          have HB6 := Lib.hid (HB5.out.trans (hB6.mono (by omega))); clear hB6
          go_wp2_with fail
          go_roundw
          case rel => exact ⟨k + 1, by omega, by go_num, by rw [HSC.out]; exact HO56.out.lower (by omega), by rw [HSC.out]; exact HO6.out.lower (by omega), HB6.out⟩
          case measure => exact meas2 r k (by omega)
        · obtain rfl : k = r - 1 := by omega
          have hge : ¬ ((r - 1 : Nat) : Int) + 1 < R := by have := HR.out; omega
          rw [HPq.out, ← HPJ.out] at HPC
          have hpl : (p (j + 1)).length = 32 := by rw [HPJ.out]; exact (HLEN.out _).2
          have HPJL := Lib.hid hpl; clear hpl
          have HOq := Lib.hid (HO.out.below HBK.out)
          have HBw := Lib.hid (HB.out.trans (HBK.out.mono hzr))
          have hcl : C.length + (p (j + 1)).length ≤ 1099511627776 := by have := HLE.out; have := HPJL.out; omega
          have HCLN := Lib.hid hcl; clear hcl
          have HOq2 : Hid (OwnB wr w.heap.size (.slice Ao (32 * j) co) C) := HOq
          go_wp2_with (at_builtin; ((with_reducible refine wpList_app_sl ?f1 (.tmp 53) (.tmp 54) ?f2 w.heap.size (.slice Ao (32 * j) co) C (p (j + 1)) ?f3 ?f4 wr.heap.size _ ?f5 HPC.out.sl ?f7 ?f8 ?_); (case f1 => rfl); (case f2 => rfl); (case f3 => rfl); (case f4 => exact HOq2.out); (case f5 => rfl); (case f7 => exact HCLN.out); (case f8 => exact HBw.out.size); intro v7 w7 hv7 hg7; have Hg7 := Lib.hid (HBw.out.trans (HOq2.out.belowBase hg7 HBw.out.size)); clear hg7; have Hv7 := Lib.hid hv7; clear hv7))
          go_roundw
          case rel => exact ⟨j + 1, by omega, by go_num, by rw [HSU.out]; exact Hv7.out, Hg7.out⟩
          case measure => exact meas3 j (by omega)
    · have hge : ¬ ((32 * j : Nat) : Int) < S := by have := HS.out; omega
      have hcut := HCUT.out j hj (by omega)
      have hsl := HO.out.sl
      have hnl : size ≤ C.length := by have := HLE.out; omega
      obtain ⟨A', c', e', hkc, _, _, hst⟩ := hsl.take size hnl
      rw [HLE.out] at e'
      obtain ⟨rfl, rfl⟩ : Ao = A' ∧ co = c' := by injection e' with a b c; exact ⟨a, c⟩
      have hr5 : ∀ W, (Instr.slice 34 (.slice Ao (32 * j) co) none (some (.int .i64 S)) none).run Tryz.prog W = .ok (.slice Ao size co) W := fun W => by rw [HS.out]; exact slice_hB Ao (32 * j) co size hkc W
      have hst2 := HO.out.takeK hnl (by omega)
      rw [HCE.out, hcut] at hst2
      have HST := Lib.hid hst2; clear hst hst2 e' hcut hsl hnl
      go_wp2_with fail
      go_ret
      exact ⟨_, rfl, HST.out, HB.out⟩
theorem refStretch_any (B : Nat) (vp vs : Value) (pass salt : List UInt8) (r size : Nat) (R S : Int) (w : World) (sp : Sl w B vp pass) (ss : Sl w B vs salt) (hB : B ≤ w.heap.size) (lp : pass.length ≤ 1000) (ls : salt.length ≤ 1000) (hT : TabB w) (hG : 2 < w.heap.size) (hR : R = (r : Int)) (hS : S = (size : Int)) (hr1 : 1 ≤ r) (hr2 : r ≤ 64) (h1 : 1 ≤ size) (h2 : size ≤ 128) :
    Calls Tryz.prog 50 #[vp, vs, .int .i64 R, .int .i64 S] w fun e w' => ∃ v', e = .returned v' ∧ Sl w' w'.heap.size v' (keyS pass salt r size) ∧ Below w.heap.size w w' := by
  refine (refStretch_own B vp vs pass salt r size R S w sp ss hB lp ls hT hG hR hS hr1 hr2 h1 h2).mono ?_
  rintro e w' ⟨v', h1, h2, h3⟩
  exact ⟨v', h1, h2.sl, h3⟩
end Go.Proofs.YtlnjpmpddomjiaaGreatDoor
