/- The reference's Match: by rows of places. -/
import Derived.Test.YtpihpoapapfnkaaGreatDoorRuLow
import Derived.Deep.DeepCutAuto
import Derived.Test.YtpihpoapapfnkaaGreatDoorReg
set_option maxRecDepth 100000
namespace Go.Proofs.YtpihpoapapfnkaaGreatDoor
open Go.RowKit Go.Shelf
attribute [local go_sem] Oper.semAt_some
/-- A row of places in memory. -/
def rowL (n : Nat) (f : Nat → Bool) : List Value := (List.range (n + 1)).map fun j => Value.bool (f j)
theorem rowL_len (n : Nat) (f : Nat → Bool) : (rowL n f).length = n + 1 := by unfold rowL; simp
theorem rowL_at (n : Nat) (f : Nat → Bool) {j : Nat} (h : j < n + 1) : (rowL n f)[j]? = some (.bool (f j)) := by unfold rowL; simp [h]
theorem rowL_set (n : Nat) (f g : Nat → Bool) (k : Nat) (h1 : ∀ j, j < n + 1 → j ≠ k → f j = g j) : (rowL n f).set k (.bool (g k)) = rowL n g := by
  apply List.ext_getElem
  · simp [rowL]
  · intro j h2 h3
    rw [rowL_len] at h3
    rw [List.getElem_set]
    by_cases e : k = j
    · subst e; rw [if_pos rfl]; simp [rowL]
    · rw [if_neg e]; simp [rowL, h1 j h3 (Ne.symm e)]
theorem rowL_false (n : Nat) : List.replicate (n + 1) (Value.bool false) = rowL n (fun _ => false) := by
  apply List.ext_getElem
  · simp [rowL]
  · intro j h2 h3; simp [rowL]
/-- A row under way. -/
def half (f : Nat → Bool) (k : Nat) : Nat → Bool := fun j => if j < k then f j else false
theorem half_at {f : Nat → Bool} {k : Nat} {j : Nat} (h : j < k) : half f k j = f j := by unfold half; rw [if_pos h]
theorem half_set (n : Nat) (f : Nat → Bool) (k : Nat) : (rowL n (half f k)).set k (.bool (f k)) = rowL n (half f (k + 1)) := by
  have := rowL_set n (half f k) (half f (k + 1)) k (fun j _ hn => by
    unfold half
    by_cases e : j < k
    · rw [if_pos e, if_pos (by omega)]
    · rw [if_neg e, if_neg (by omega)])
  rwa [half_at (Nat.lt_succ_self k)] at this
theorem half_end (n : Nat) (f : Nat → Bool) : rowL n (half f (n + 1)) = rowL n f := by
  unfold rowL
  refine List.map_congr_left (fun j hj => ?_)
  rw [half_at (by simpa using hj)]
theorem half_no (n : Nat) (f : Nat → Bool) (k : Nat) (h : f k = false) : rowL n (half f (k + 1)) = rowL n (half f k) := by
  unfold rowL
  refine List.map_congr_left (fun j hj => ?_)
  unfold half
  by_cases e : j = k
  · subst e; rw [if_pos (by omega), if_neg (by omega), h]
  · by_cases e2 : j < k
    · rw [if_pos e2, if_pos (by omega)]
    · rw [if_neg e2, if_neg (by omega)]
theorem mk_row (n K : Nat) (hK : K = n + 1) (hn : n ≤ 1000) (w : World) : (Instr.makeSlice 103 (.int .i64 ((n : Int) + 1)) (.int .i64 ((n : Int) + 1))).run Tryz.prog w = .ok (.slice (some ⟨w.heap.size, 0, none⟩) K K) (w.alloc (.cells (rowL n (fun _ => false)).toArray 4)) := by
  have hi : ∃ i, Tryz.prog.info? 4 = some i ∧ i.zero = some (.bool false) ∧ i.size = 1 ∧ i.bytes = 1 := by
    have : (Tryz.prog.info? 4).map (fun i => (i.zero, i.size, i.bytes)) = some (some (.bool false), 1, 1) := by kernel_rfl
    obtain ⟨i0, h1, h2, h3, h4⟩ := info_parts this
    exact ⟨i0, h1, h2, h3, h4⟩
  obtain ⟨i0, h1, h2, h3, h4⟩ := hi
  have hr := run_makeSlice (P := Tryz.prog) (w := w) 103 4 i0 (.bool false) Tryz.underlying103 h1 h2 .i64 .i64 ((n : Int) + 1) ((n : Int) + 1) (by omega) (Int.le_refl _) (by rw [h3]; omega) (by rw [h4]; omega) (by omega)
  rw [hr]
  have e1 : ((n : Int) + 1).toNat = K := by omega
  have e2 : madeCells (Value.bool false).cells (((n : Int) + 1).toNat * i0.size) = (rowL n (fun _ => false)).toArray := by
    rw [h3, e1, hK, Nat.mul_one, ← rowL_false]
    apply Array.ext
    · simp [madeCells, Value.cells]
    · intro i h1 h2; simp [madeCells, Value.cells, Nat.mod_one]
  rw [e2, e1]
theorem stepF_star (H : List UInt8) (f : Nat → Bool) (q : Nat) : stepF H f 42 0 = f 0 ∧ stepF H f 42 (q + 1) = (f (q + 1) || stepF H f 42 q) := by
  unfold stepF
  exact ⟨by rw [if_pos rfl]; rfl, by rw [if_pos rfl, if_pos rfl]; rfl⟩
theorem stepF_sign (H : List UInt8) (f : Nat → Bool) {c : UInt8} (hc : c ≠ 42) (q : Nat) : stepF H f c 0 = false ∧ stepF H f c (q + 1) = (f q && (H.getD q 0 == c)) := by
  unfold stepF
  exact ⟨by rw [if_neg hc]; simp, by rw [if_neg hc]; simp⟩
theorem takeHNX {P : Program} {ops : Array Oper} {Q : Exit → Act → World → Prop} {a : Act} {w : World} {md : Region.Mode} {S : World → Prop} (i : Nat) (d : Tmp) {oi : Oper} {fuel : Nat} {listed : Array Bool} (hi : ops[i]? = some oi) (hd : oi.dst = some d)
    (hs : Region.noSelect ops = true) (hf : Region.free md ops listed i = true) (hr : (Region.ready md ops listed).contains i = true)
    (hQ : ∀ c (a : Act) w, Q (.panic c) (a.put oi.dst undef) w → Q (.panic c) a w) (hw : Region.wanted oi (yielded ops a.tmps) = false) (hS : S w)
    (h : wpAnyH P md ops Q S fuel (listed.setIfInBounds i true) (a.put (some d) undef) w) : wpAnyH P md ops Q S (fuel + 1) listed a w :=
  wpAnyH_take hi hs hf hr hQ (Or.inr ⟨hw, rfl⟩) hS (by rw [hd]; exact h)
theorem wpOp_storeG {P : Program} {ops : Array Oper} {Q : Exit → Act → World → Prop} {K : Act → World → Prop} {a : Act} {w w' : World} {i : Nat} {o : Oper} (hi : ops[i]? = some o) (hd : o.dst = none) (hw : Region.wanted o (yielded ops a.tmps) = true)
    (hr : (execOp a.eval o).run P w = .ok .skip w') (h : K a w') : wpOp P ops Q i K a w :=
  wpOp_of_wp hi hw (by unfold Oper.wp; rw [hr]; show K (a.put o.dst undef) w'; rw [hd]; exact h)
set_option maxHeartbeats 4000000 in
theorem refMatch_any (p h : List UInt8) (w : World) (hp : p.length ≤ 1000) (hh : h.length ≤ 1000) :
    Calls Tryz.prog 46 #[str p, str h] w fun e w' => e = .returned (.bool (matchB p h)) ∧ Below w.heap.size w w' := by
  have HL := Lib.hid (low_any h w (by omega))
  have hH : (h.map rlow).length ≤ 1000 := by rw [List.length_map]; exact hh
  obtain ⟨R, hR⟩ : ∃ R, R = matchB p h := ⟨_, rfl⟩
  have hd : R = rowF (h.map rlow) p (h.map rlow).length := hR
  rw [← hR]
  obtain ⟨H, hHd⟩ : ∃ H, H = h.map rlow := ⟨_, rfl⟩
  rw [← hHd] at HL hH hd
  have HD := Lib.hid hd
  obtain ⟨K, hK⟩ : ∃ K, K = H.length + 1 := ⟨_, rfl⟩
  have HK := Lib.hid hK
  have hmk := fun W => mk_row H.length K hK hH W
  have hlK : (H.length : Int) < (K : Int) := by omega
  have hK1 : K ≤ 1001 := by omega
  clear hR hHd hd hh hK
  go_enter Tryz.func46, Tryz.ntmps46
  go_wp2_with fail
  refine HL.out.mono ?_
  rintro e w1 ⟨rfl, m, rfl⟩
  obtain ⟨b0, hb0⟩ : ∃ b0, b0 = (w.drewN m).heap.size := ⟨_, rfl⟩
  obtain ⟨W1, hW1⟩ : ∃ W1, W1 = (w.drewN m).alloc (.cells (rowL H.length (fun _ => false)).toArray 4) := ⟨_, rfl⟩
  have hmk1 := hmk (w.drewN m)
  rw [← hb0, ← hW1] at hmk1
  have hk1 : Blk W1 b0 (rowL H.length (fun _ => false)) := by rw [hW1, hb0]; exact Blk.new _ _ _
  have hbb : Below w.heap.size w W1 := by rw [hW1]; exact (below_drewN (Below.refl _ w) m).alloc (by simp) _
  have hb0w : w.heap.size ≤ b0 := by rw [hb0]; simp
  have f0 := hk1.free 0
  have c0 := hk1.at (o := 0) (rowL_at H.length _ (Nat.succ_pos _))
  have hlt0 := hk1.lt
  have HK1 := Lib.hid hk1
  have HBB := Lib.hid hbb
  have HMK := Lib.hid hmk
  clear HL hW1 hb0 hk1 hbb hmk
  go_wp2_with fail
  clear hmk1 c0 f0 hlt0
  go_loopw [5, 6, 7, 8, 29] (fun v5 i _ _ _ wr => ∃ (k b : Nat), k ≤ p.length ∧ i = .int .i64 (k : Int) ∧ v5 = .slice (some ⟨b, 0, none⟩) K K ∧ w.heap.size ≤ b ∧ Blk wr b (rowL H.length (rowF H (p.take k))) ∧ Below w.heap.size w wr) (fun _ i _ _ _ _ => p.length - (intOf i).toNat)
  case atStart =>
    refine ⟨0, b0, by omega, rfl, rfl, hb0w, ?_, HBB.out.setCell (p := ⟨b0, 0, none⟩) hb0w _⟩
    have := HK1.out.set 0 (.bool true)
    have e : (rowL H.length (fun _ => false)).set 0 (.bool true) = rowL H.length (fun j => j == 0) := rowL_set H.length (fun _ => false) (fun j => j == 0) 0 (fun j _ hn => by simp [hn])
    rw [e] at this
    exact this
  case round =>
    obtain ⟨k, b, hk, rfl, rfl, hbw, hkb, hb⟩ := hrel
    by_cases hlt : k < p.length
    · have hik := fun W => str_index p k hlt W
      have hgx : p.getD k 0 = p[k] := by rw [List.getD_eq_getElem?_getD, List.getElem?_eq_getElem hlt]; rfl
      have hsn : rowF H (p.take (k + 1)) = stepF H (rowF H (p.take k)) (p.getD k 0) := by rw [hgx, take_snoc p k hlt, rowF_snoc]
      obtain ⟨c, hc⟩ : ∃ c, c = p.getD k 0 := ⟨_, rfl⟩
      rw [← hc] at hik hsn
      obtain ⟨f, hf⟩ : ∃ f, f = rowF H (p.take k) := ⟨_, rfl⟩
      rw [← hf] at hsn hkb
      have HSN := Lib.hid hsn
      have hmk2 := HMK.out wr
      obtain ⟨nb, hnb⟩ : ∃ nb, nb = wr.heap.size := ⟨_, rfl⟩
      obtain ⟨W2, hW2⟩ : ∃ W2, W2 = wr.alloc (.cells (rowL H.length (fun _ => false)).toArray 4) := ⟨_, rfl⟩
      rw [← hnb, ← hW2] at hmk2
      have hn0 : Blk W2 nb (rowL H.length (fun _ => false)) := by rw [hW2, hnb]; exact Blk.new _ _ _
      have hb2 : Blk W2 b (rowL H.length f) := by rw [hW2]; exact hkb.alloc _
      have hbl2 : Below w.heap.size w W2 := by rw [hW2]; exact hb.alloc hb.size _
      have hnbb : b < nb := by rw [hnb]; exact hkb.lt
      have hnbw : w.heap.size ≤ nb := by omega
      have HN0 := Lib.hid (show Blk W2 nb (rowL H.length (half (stepF H f c) 0)) from hn0)
      have HB2 := Lib.hid hb2
      have HBL2 := Lib.hid hbl2
      clear hc hf hsn hnb hW2 hn0 hb2 hbl2 hkb hb hgx
      go_wp2_with fail
      clear hmk2
      go_loopw [8, 29] (fun _ j wi => ∃ q : Nat, q ≤ K ∧ j = .int .i64 (q : Int) ∧ Blk wi nb (rowL H.length (half (stepF H f c) q)) ∧ Blk wi b (rowL H.length f) ∧ Below w.heap.size w wi) (fun _ j _ => K - (intOf j).toNat)
      case atStart => exact ⟨0, by omega, rfl, HN0.out, HB2.out, HBL2.out⟩
      case round =>
        obtain ⟨q, hq, rfl, hn1, hb1, hbl⟩ := hrel
        by_cases hqK : q < K
        · have hqn : q < H.length + 1 := by rw [← HK.out]; exact hqK
          have hnq := hn1.free q
          have hnl := hn1.lt
          have cb := hb1.at (o := q) (rowL_at H.length f hqn)
          have hset := hn1.set q (.bool (stepF H f c q))
          rw [half_set] at hset
          have hbs := hb1.setOther (a := ⟨nb, q, none⟩) (by show nb ≠ b; omega) (.bool (stepF H f c q))
          have hbl3 := hbl.setCell (p := ⟨nb, q, none⟩) hnbw (.bool (stepF H f c q))
          have hcq := hn1.at (o := q) (rowL_at H.length _ hqn)
          have HSET := Lib.hid hset; have HBS := Lib.hid hbs; have HBL3 := Lib.hid hbl3; have HN1 := Lib.hid hn1; have HB1 := Lib.hid hb1; have HBL := Lib.hid hbl
          clear hset hbs hbl3 hbl
          by_cases hc42 : c = 42
          · subst hc42
            have hst := fun q => stepF_star H f q
            have hikx := fun W => show (Instr.index 9 (str p) (.int .i64 (k : Int))).run Tryz.prog W = .ok (.int .u8 42) W from hik W
            cases q with
            | zero =>
              have e0 : stepF H f 42 0 = f 0 := (hst 0).1
              rw [e0] at HSET HBS HBL3
              obtain ⟨v, hv⟩ : ∃ v, v = f 0 := ⟨_, rfl⟩
              rw [← hv] at cb HSET HBS HBL3
              have z0 : ((0 : Nat) : Int) = 0 := rfl
              clear hst hik hv hn1 hb1 e0
              cases v
              all_goals
                go_wp2_with fail
                go_roundw
                case rel => exact ⟨1, by omega, by go_num, HSET.out, HBS.out, HBL3.out⟩
                case measure => simp [intOf]; omega
            | succ r =>
              have e0 : stepF H f 42 (r + 1) = (f (r + 1) || stepF H f 42 r) := (hst r).2
              have cn := hn1.at (o := r) (rowL_at H.length _ (by omega))
              rw [half_at (Nat.lt_succ_self r)] at cn
              rw [e0] at HSET HBS HBL3
              obtain ⟨v, hv⟩ : ∃ v, v = f (r + 1) := ⟨_, rfl⟩
              obtain ⟨u, hu⟩ : ∃ u, u = stepF H f 42 r := ⟨_, rfl⟩
              rw [← hv, ← hu] at HSET HBS HBL3
              rw [← hv] at cb
              rw [← hu] at cn
              have z0 : ((r + 1 : Nat) : Int) = (r : Int) + 1 := by omega
              have z1 : (0 : Int) < (r : Int) + 1 := by omega
              have z2 : (r : Int) < (K : Int) := by omega
              have z3 : (r : Int) + 1 < (K : Int) := by omega
              clear hst hik hv hu hn1 hb1 e0 hqn
              cases v <;> cases u
              all_goals
                try rw [z0]
                go_wp2_with fail
                go_roundw
                case rel => exact ⟨r + 1 + 1, by omega, by go_num, HSET.out, HBS.out, HBL3.out⟩
                case measure => simp [intOf]; omega
          · have hst := fun q => stepF_sign H f hc42 q
            have hcl := c.toNat_lt
            have hcn : c.toNat ≠ 42 := fun e => hc42 (UInt8.toNat_inj.1 e)
            have hcf : ((c.toNat : Int) == 42) = false := by rw [beq_eq_false_iff_ne]; omega
            have hikx := fun W => show (Instr.index 9 (str p) (.int .i64 (k : Int))).run Tryz.prog W = .ok (.int .u8 (c.toNat : Int)) W from hik W
            cases q with
            | zero =>
              have e0 : stepF H f c 0 = false := (hst 0).1
              have hno := half_no H.length (stepF H f c) 0 e0
              have HNO := Lib.hid (show Blk wr nb (rowL H.length (half (stepF H f c) (0 + 1))) by rw [hno]; exact HN1.out)
              have z0 : ((0 : Nat) : Int) = 0 := rfl
              clear hst hik hn1 hb1 e0 hno hcl hcn
              go_wp2_with fail
              go_roundw
              case rel => exact ⟨1, by omega, by go_num, HNO.out, HB1.out, HBL.out⟩
              case measure => simp [intOf]; omega
            | succ r =>
              have e0 : stepF H f c (r + 1) = (f r && (H.getD r 0 == c)) := (hst r).2
              have cb2 := hb1.at (o := r) (rowL_at H.length f (by omega))
              have hix := fun W => str_index H r (by omega) W
              rw [e0] at HSET HBS HBL3
              obtain ⟨v, hv⟩ : ∃ v, v = f r := ⟨_, rfl⟩
              obtain ⟨x, hx⟩ : ∃ x, x = H.getD r 0 := ⟨_, rfl⟩
              rw [← hv, ← hx] at HSET HBS HBL3
              rw [← hv] at cb2
              rw [← hx] at hix
              have hiy := fun W => show (Instr.index 9 (str H) (.int .i64 (r : Int))).run Tryz.prog W = .ok (.int .u8 (x.toNat : Int)) W from hix W
              have z0 : ((r + 1 : Nat) : Int) = (r : Int) + 1 := by omega
              have z1 : (0 : Int) < (r : Int) + 1 := by omega
              have z2 : (r : Int) < (K : Int) := by omega
              have z3 : (r : Int) + 1 < (K : Int) := by omega
              have hxc : (x == c) = ((x.toNat : Int) == (c.toNat : Int)) := by
                rw [Bool.eq_iff_iff, beq_iff_eq, beq_iff_eq]
                constructor
                · intro h; rw [h]
                · intro h; exact UInt8.toNat_inj.1 (by omega)
              rw [hxc] at HSET HBS HBL3
              obtain ⟨u, hu⟩ : ∃ u, u = ((x.toNat : Int) == (c.toNat : Int)) := ⟨_, rfl⟩
              rw [← hu] at HSET HBS HBL3
              have hu2 := hu.symm
              clear hst hik hv hx hn1 hb1 e0 hqn cb hix hxc hu hcl hcn
              have hwr : IntKind.i64.wrap (r : Int) = (r : Int) := IntWalk.i64_in _ ⟨by omega, by omega⟩
              rcases v with _ | _ <;> rcases u with _ | _
              · try rw [z0]
                go_wp2_with fail
                refine wp_region_noPanic ?_
                refine wp_region_held (S := fun W => W.cell? ⟨b, r, none⟩ = some (.bool false)) (by kernel_rfl) ?_
                change wpAnyH _ _ _ _ _ _ _ _ wr.drew
                have HXD := Lib.hid (show wr.drew.cell? ⟨b, r, none⟩ = some (.bool false) from cb2)
                refine takeH 0 56 (.slice (some ⟨nb, 0, none⟩) K K) rfl rfl (by kernel_rfl) (by kernel_rfl) (by kernel_rfl) (fun _ _ _ h => h) rfl (fun w' h => by go_simp; try first | exact hwr | (intro hh; exfalso; omega)) HXD.out ?_
                go_frame
                refine takeH 1 57 (.int .i64 ((r : Int) + 1)) rfl rfl (by kernel_rfl) (by kernel_rfl) (by kernel_rfl) (fun _ _ _ h => h) rfl (fun w' h => by go_simp; try first | exact hwr | (intro hh; exfalso; omega)) HXD.out ?_
                go_frame
                refine takeH 2 58 (.slice (some ⟨b, 0, none⟩) K K) rfl rfl (by kernel_rfl) (by kernel_rfl) (by kernel_rfl) (fun _ _ _ h => h) rfl (fun w' h => by go_simp; try first | exact hwr | (intro hh; exfalso; omega)) HXD.out ?_
                go_frame
                refine takeH 3 59 (.int .i64 ((r : Int) + 1)) rfl rfl (by kernel_rfl) (by kernel_rfl) (by kernel_rfl) (fun _ _ _ h => h) rfl (fun w' h => by go_simp; try first | exact hwr | (intro hh; exfalso; omega)) HXD.out ?_
                go_frame
                refine takeH 4 60 (.int .i64 (r : Int)) rfl rfl (by kernel_rfl) (by kernel_rfl) (by kernel_rfl) (fun _ _ _ h => h) rfl (fun w' h => by go_simp; try first | exact hwr | (intro hh; exfalso; omega)) HXD.out ?_
                go_frame
                refine takeH 5 61 (.pointer (some ⟨b, r, none⟩)) rfl rfl (by kernel_rfl) (by kernel_rfl) (by kernel_rfl) (fun _ _ _ h => h) rfl (fun w' h => by go_simp; try first | exact hwr | (intro hh; exfalso; omega)) HXD.out ?_
                go_frame
                refine takeH 6 62 (.bool false) rfl rfl (by kernel_rfl) (by kernel_rfl) (by kernel_rfl) (fun _ _ _ h => h) rfl (fun w' h => by go_simp; try first | exact hwr | (intro hh; exfalso; omega)) HXD.out ?_
                go_frame
                refine takeH 7 63 (.bool false) rfl rfl (by kernel_rfl) (by kernel_rfl) (by kernel_rfl) (fun _ _ _ h => h) rfl (fun w' h => by go_simp; try first | exact hwr | (intro hh; exfalso; omega)) HXD.out ?_
                go_frame
                refine takeHNX 8 64 rfl rfl (by kernel_rfl) (by kernel_rfl) (by kernel_rfl) (fun _ _ _ h => h) rfl HXD.out ?_
                go_frame
                refine takeHNX 9 65 rfl rfl (by kernel_rfl) (by kernel_rfl) (by kernel_rfl) (fun _ _ _ h => h) rfl HXD.out ?_
                go_frame
                refine takeHNX 10 66 rfl rfl (by kernel_rfl) (by kernel_rfl) (by kernel_rfl) (fun _ _ _ h => h) rfl HXD.out ?_
                go_frame
                refine takeHNX 11 67 rfl rfl (by kernel_rfl) (by kernel_rfl) (by kernel_rfl) (fun _ _ _ h => h) rfl HXD.out ?_
                go_frame
                refine takeHNX 12 68 rfl rfl (by kernel_rfl) (by kernel_rfl) (by kernel_rfl) (fun _ _ _ h => h) rfl HXD.out ?_
                go_frame
                refine takeHNX 13 69 rfl rfl (by kernel_rfl) (by kernel_rfl) (by kernel_rfl) (fun _ _ _ h => h) rfl HXD.out ?_
                go_frame
                refine takeHNX 14 70 rfl rfl (by kernel_rfl) (by kernel_rfl) (by kernel_rfl) (fun _ _ _ h => h) rfl HXD.out ?_
                go_frame
                refine takeHNX 15 71 rfl rfl (by kernel_rfl) (by kernel_rfl) (by kernel_rfl) (fun _ _ _ h => h) rfl HXD.out ?_
                go_frame
                refine takeH 16 72 (.bool false) rfl rfl (by kernel_rfl) (by kernel_rfl) (by kernel_rfl) (fun _ _ _ h => h) rfl (fun w' h => by go_simp; try first | exact hwr | (intro hh; exfalso; omega)) HXD.out ?_
                go_frame
                refine takeH 17 73 (.pointer (some ⟨nb, r + 1, none⟩)) rfl rfl (by kernel_rfl) (by kernel_rfl) (by kernel_rfl) (fun _ _ _ h => h) rfl (fun w' h => by go_simp; try first | exact hwr | (intro hh; exfalso; omega)) HXD.out ?_
                go_frame
                refine wpAnyH_all (rs := [18]) (by kernel_rfl) (by simp) ?_
                simp only [List.mem_singleton, forall_eq]
                refine wpOp_storeG rfl rfl rfl (w' := wr.drew.setCell ⟨nb, r + 1, none⟩ (.bool false)) (by go_simp) ?_
                have hcb3 : (wr.drew.setCell ⟨nb, r + 1, none⟩ (.bool false)).cell? ⟨b, r, none⟩ = some (.bool false) := (World.cell?_of_block (a := ⟨b, r, none⟩) (Below.heap_setCell _ _ _ b (by show b ≠ nb; omega))).trans cb2
                refine ⟨hcb3, wpAnyH_done (by kernel_rfl) ?_ _⟩
                refine NoPanic.normal ?_
                clear hcb3 cb2 HXD
                go_wp2_with fail
                go_roundw
                case rel => exact ⟨r + 1 + 1, by omega, by go_num, HSET.out.drew, HBS.out.drew, HBL3.out.drew⟩
                case measure => simp [intOf]; omega
              · try rw [z0]
                go_wp2_with fail
                refine wp_region_noPanic ?_
                refine wp_region_held (S := fun W => W.cell? ⟨b, r, none⟩ = some (.bool false)) (by kernel_rfl) ?_
                change wpAnyH _ _ _ _ _ _ _ _ wr.drew
                have HXD := Lib.hid (show wr.drew.cell? ⟨b, r, none⟩ = some (.bool false) from cb2)
                refine takeH 0 56 (.slice (some ⟨nb, 0, none⟩) K K) rfl rfl (by kernel_rfl) (by kernel_rfl) (by kernel_rfl) (fun _ _ _ h => h) rfl (fun w' h => by go_simp; try first | exact hwr | (intro hh; exfalso; omega)) HXD.out ?_
                go_frame
                refine takeH 1 57 (.int .i64 ((r : Int) + 1)) rfl rfl (by kernel_rfl) (by kernel_rfl) (by kernel_rfl) (fun _ _ _ h => h) rfl (fun w' h => by go_simp; try first | exact hwr | (intro hh; exfalso; omega)) HXD.out ?_
                go_frame
                refine takeH 2 58 (.slice (some ⟨b, 0, none⟩) K K) rfl rfl (by kernel_rfl) (by kernel_rfl) (by kernel_rfl) (fun _ _ _ h => h) rfl (fun w' h => by go_simp; try first | exact hwr | (intro hh; exfalso; omega)) HXD.out ?_
                go_frame
                refine takeH 3 59 (.int .i64 ((r : Int) + 1)) rfl rfl (by kernel_rfl) (by kernel_rfl) (by kernel_rfl) (fun _ _ _ h => h) rfl (fun w' h => by go_simp; try first | exact hwr | (intro hh; exfalso; omega)) HXD.out ?_
                go_frame
                refine takeH 4 60 (.int .i64 (r : Int)) rfl rfl (by kernel_rfl) (by kernel_rfl) (by kernel_rfl) (fun _ _ _ h => h) rfl (fun w' h => by go_simp; try first | exact hwr | (intro hh; exfalso; omega)) HXD.out ?_
                go_frame
                refine takeH 5 61 (.pointer (some ⟨b, r, none⟩)) rfl rfl (by kernel_rfl) (by kernel_rfl) (by kernel_rfl) (fun _ _ _ h => h) rfl (fun w' h => by go_simp; try first | exact hwr | (intro hh; exfalso; omega)) HXD.out ?_
                go_frame
                refine takeH 6 62 (.bool false) rfl rfl (by kernel_rfl) (by kernel_rfl) (by kernel_rfl) (fun _ _ _ h => h) rfl (fun w' h => by go_simp; try first | exact hwr | (intro hh; exfalso; omega)) HXD.out ?_
                go_frame
                refine takeH 7 63 (.bool false) rfl rfl (by kernel_rfl) (by kernel_rfl) (by kernel_rfl) (fun _ _ _ h => h) rfl (fun w' h => by go_simp; try first | exact hwr | (intro hh; exfalso; omega)) HXD.out ?_
                go_frame
                refine takeHNX 8 64 rfl rfl (by kernel_rfl) (by kernel_rfl) (by kernel_rfl) (fun _ _ _ h => h) rfl HXD.out ?_
                go_frame
                refine takeHNX 9 65 rfl rfl (by kernel_rfl) (by kernel_rfl) (by kernel_rfl) (fun _ _ _ h => h) rfl HXD.out ?_
                go_frame
                refine takeHNX 10 66 rfl rfl (by kernel_rfl) (by kernel_rfl) (by kernel_rfl) (fun _ _ _ h => h) rfl HXD.out ?_
                go_frame
                refine takeHNX 11 67 rfl rfl (by kernel_rfl) (by kernel_rfl) (by kernel_rfl) (fun _ _ _ h => h) rfl HXD.out ?_
                go_frame
                refine takeHNX 12 68 rfl rfl (by kernel_rfl) (by kernel_rfl) (by kernel_rfl) (fun _ _ _ h => h) rfl HXD.out ?_
                go_frame
                refine takeHNX 13 69 rfl rfl (by kernel_rfl) (by kernel_rfl) (by kernel_rfl) (fun _ _ _ h => h) rfl HXD.out ?_
                go_frame
                refine takeHNX 14 70 rfl rfl (by kernel_rfl) (by kernel_rfl) (by kernel_rfl) (fun _ _ _ h => h) rfl HXD.out ?_
                go_frame
                refine takeHNX 15 71 rfl rfl (by kernel_rfl) (by kernel_rfl) (by kernel_rfl) (fun _ _ _ h => h) rfl HXD.out ?_
                go_frame
                refine takeH 16 72 (.bool false) rfl rfl (by kernel_rfl) (by kernel_rfl) (by kernel_rfl) (fun _ _ _ h => h) rfl (fun w' h => by go_simp; try first | exact hwr | (intro hh; exfalso; omega)) HXD.out ?_
                go_frame
                refine takeH 17 73 (.pointer (some ⟨nb, r + 1, none⟩)) rfl rfl (by kernel_rfl) (by kernel_rfl) (by kernel_rfl) (fun _ _ _ h => h) rfl (fun w' h => by go_simp; try first | exact hwr | (intro hh; exfalso; omega)) HXD.out ?_
                go_frame
                refine wpAnyH_all (rs := [18]) (by kernel_rfl) (by simp) ?_
                simp only [List.mem_singleton, forall_eq]
                refine wpOp_storeG rfl rfl rfl (w' := wr.drew.setCell ⟨nb, r + 1, none⟩ (.bool false)) (by go_simp) ?_
                have hcb3 : (wr.drew.setCell ⟨nb, r + 1, none⟩ (.bool false)).cell? ⟨b, r, none⟩ = some (.bool false) := (World.cell?_of_block (a := ⟨b, r, none⟩) (Below.heap_setCell _ _ _ b (by show b ≠ nb; omega))).trans cb2
                refine ⟨hcb3, wpAnyH_done (by kernel_rfl) ?_ _⟩
                refine NoPanic.normal ?_
                clear hcb3 cb2 HXD
                go_wp2_with fail
                go_roundw
                case rel => exact ⟨r + 1 + 1, by omega, by go_num, HSET.out.drew, HBS.out.drew, HBL3.out.drew⟩
                case measure => simp [intOf]; omega
              · try rw [z0]
                go_wp2_with fail
                refine wp_region_noPanic ?_
                refine wp_region_held (S := fun W => W.cell? ⟨b, r, none⟩ = some (.bool true)) (by kernel_rfl) ?_
                change wpAnyH _ _ _ _ _ _ _ _ wr.drew
                have HXD := Lib.hid (show wr.drew.cell? ⟨b, r, none⟩ = some (.bool true) from cb2)
                refine takeH 0 56 (.slice (some ⟨nb, 0, none⟩) K K) rfl rfl (by kernel_rfl) (by kernel_rfl) (by kernel_rfl) (fun _ _ _ h => h) rfl (fun w' h => by go_simp; try first | exact hwr | (intro hh; exfalso; omega)) HXD.out ?_
                go_frame
                refine takeH 1 57 (.int .i64 ((r : Int) + 1)) rfl rfl (by kernel_rfl) (by kernel_rfl) (by kernel_rfl) (fun _ _ _ h => h) rfl (fun w' h => by go_simp; try first | exact hwr | (intro hh; exfalso; omega)) HXD.out ?_
                go_frame
                refine takeH 2 58 (.slice (some ⟨b, 0, none⟩) K K) rfl rfl (by kernel_rfl) (by kernel_rfl) (by kernel_rfl) (fun _ _ _ h => h) rfl (fun w' h => by go_simp; try first | exact hwr | (intro hh; exfalso; omega)) HXD.out ?_
                go_frame
                refine takeH 3 59 (.int .i64 ((r : Int) + 1)) rfl rfl (by kernel_rfl) (by kernel_rfl) (by kernel_rfl) (fun _ _ _ h => h) rfl (fun w' h => by go_simp; try first | exact hwr | (intro hh; exfalso; omega)) HXD.out ?_
                go_frame
                refine takeH 4 60 (.int .i64 (r : Int)) rfl rfl (by kernel_rfl) (by kernel_rfl) (by kernel_rfl) (fun _ _ _ h => h) rfl (fun w' h => by go_simp; try first | exact hwr | (intro hh; exfalso; omega)) HXD.out ?_
                go_frame
                refine takeH 5 61 (.pointer (some ⟨b, r, none⟩)) rfl rfl (by kernel_rfl) (by kernel_rfl) (by kernel_rfl) (fun _ _ _ h => h) rfl (fun w' h => by go_simp; try first | exact hwr | (intro hh; exfalso; omega)) HXD.out ?_
                go_frame
                refine takeH 6 62 (.bool true) rfl rfl (by kernel_rfl) (by kernel_rfl) (by kernel_rfl) (fun _ _ _ h => h) rfl (fun w' h => by go_simp; try first | exact hwr | (intro hh; exfalso; omega)) HXD.out ?_
                go_frame
                refine takeH 7 63 (.bool true) rfl rfl (by kernel_rfl) (by kernel_rfl) (by kernel_rfl) (fun _ _ _ h => h) rfl (fun w' h => by go_simp; try first | exact hwr | (intro hh; exfalso; omega)) HXD.out ?_
                go_frame
                refine takeH 8 64 (str H) rfl rfl (by kernel_rfl) (by kernel_rfl) (by kernel_rfl) (fun _ _ _ h => h) rfl (fun w' h => by go_simp; try first | exact hwr | (intro hh; exfalso; omega)) HXD.out ?_
                go_frame
                refine takeH 9 65 (.int .i64 ((r : Int) + 1)) rfl rfl (by kernel_rfl) (by kernel_rfl) (by kernel_rfl) (fun _ _ _ h => h) rfl (fun w' h => by go_simp; try first | exact hwr | (intro hh; exfalso; omega)) HXD.out ?_
                go_frame
                refine takeH 10 66 (.int .i64 (r : Int)) rfl rfl (by kernel_rfl) (by kernel_rfl) (by kernel_rfl) (fun _ _ _ h => h) rfl (fun w' h => by go_simp; try first | exact hwr | (intro hh; exfalso; omega)) HXD.out ?_
                go_frame
                refine takeH 11 67 (.int .u8 (x.toNat : Int)) rfl rfl (by kernel_rfl) (by kernel_rfl) (by kernel_rfl) (fun _ _ _ h => h) rfl (fun w' h => by go_simp; try first | exact hwr | (intro hh; exfalso; omega)) HXD.out ?_
                go_frame
                refine takeH 12 68 (str p) rfl rfl (by kernel_rfl) (by kernel_rfl) (by kernel_rfl) (fun _ _ _ h => h) rfl (fun w' h => by go_simp; try first | exact hwr | (intro hh; exfalso; omega)) HXD.out ?_
                go_frame
                refine takeH 13 69 (.int .i64 (k : Int)) rfl rfl (by kernel_rfl) (by kernel_rfl) (by kernel_rfl) (fun _ _ _ h => h) rfl (fun w' h => by go_simp; try first | exact hwr | (intro hh; exfalso; omega)) HXD.out ?_
                go_frame
                refine takeH 14 70 (.int .u8 (c.toNat : Int)) rfl rfl (by kernel_rfl) (by kernel_rfl) (by kernel_rfl) (fun _ _ _ h => h) rfl (fun w' h => by go_simp; try first | exact hwr | (intro hh; exfalso; omega)) HXD.out ?_
                go_frame
                refine takeH 15 71 (.bool false) rfl rfl (by kernel_rfl) (by kernel_rfl) (by kernel_rfl) (fun _ _ _ h => h) rfl (fun w' h => by go_simp; try first | exact hwr | (intro hh; exfalso; omega)) HXD.out ?_
                go_frame
                refine takeH 16 72 (.bool false) rfl rfl (by kernel_rfl) (by kernel_rfl) (by kernel_rfl) (fun _ _ _ h => h) rfl (fun w' h => by go_simp; try first | exact hwr | (intro hh; exfalso; omega)) HXD.out ?_
                go_frame
                refine takeH 17 73 (.pointer (some ⟨nb, r + 1, none⟩)) rfl rfl (by kernel_rfl) (by kernel_rfl) (by kernel_rfl) (fun _ _ _ h => h) rfl (fun w' h => by go_simp; try first | exact hwr | (intro hh; exfalso; omega)) HXD.out ?_
                go_frame
                refine wpAnyH_all (rs := [18]) (by kernel_rfl) (by simp) ?_
                simp only [List.mem_singleton, forall_eq]
                refine wpOp_storeG rfl rfl rfl (w' := wr.drew.setCell ⟨nb, r + 1, none⟩ (.bool false)) (by go_simp) ?_
                have hcb3 : (wr.drew.setCell ⟨nb, r + 1, none⟩ (.bool false)).cell? ⟨b, r, none⟩ = some (.bool true) := (World.cell?_of_block (a := ⟨b, r, none⟩) (Below.heap_setCell _ _ _ b (by show b ≠ nb; omega))).trans cb2
                refine ⟨hcb3, wpAnyH_done (by kernel_rfl) ?_ _⟩
                refine NoPanic.normal ?_
                clear hcb3 cb2 HXD
                go_wp2_with fail
                go_roundw
                case rel => exact ⟨r + 1 + 1, by omega, by go_num, HSET.out.drew, HBS.out.drew, HBL3.out.drew⟩
                case measure => simp [intOf]; omega
              · try rw [z0]
                go_wp2_with fail
                refine wp_region_noPanic ?_
                refine wp_region_held (S := fun W => W.cell? ⟨b, r, none⟩ = some (.bool true)) (by kernel_rfl) ?_
                change wpAnyH _ _ _ _ _ _ _ _ wr.drew
                have HXD := Lib.hid (show wr.drew.cell? ⟨b, r, none⟩ = some (.bool true) from cb2)
                refine takeH 0 56 (.slice (some ⟨nb, 0, none⟩) K K) rfl rfl (by kernel_rfl) (by kernel_rfl) (by kernel_rfl) (fun _ _ _ h => h) rfl (fun w' h => by go_simp; try first | exact hwr | (intro hh; exfalso; omega)) HXD.out ?_
                go_frame
                refine takeH 1 57 (.int .i64 ((r : Int) + 1)) rfl rfl (by kernel_rfl) (by kernel_rfl) (by kernel_rfl) (fun _ _ _ h => h) rfl (fun w' h => by go_simp; try first | exact hwr | (intro hh; exfalso; omega)) HXD.out ?_
                go_frame
                refine takeH 2 58 (.slice (some ⟨b, 0, none⟩) K K) rfl rfl (by kernel_rfl) (by kernel_rfl) (by kernel_rfl) (fun _ _ _ h => h) rfl (fun w' h => by go_simp; try first | exact hwr | (intro hh; exfalso; omega)) HXD.out ?_
                go_frame
                refine takeH 3 59 (.int .i64 ((r : Int) + 1)) rfl rfl (by kernel_rfl) (by kernel_rfl) (by kernel_rfl) (fun _ _ _ h => h) rfl (fun w' h => by go_simp; try first | exact hwr | (intro hh; exfalso; omega)) HXD.out ?_
                go_frame
                refine takeH 4 60 (.int .i64 (r : Int)) rfl rfl (by kernel_rfl) (by kernel_rfl) (by kernel_rfl) (fun _ _ _ h => h) rfl (fun w' h => by go_simp; try first | exact hwr | (intro hh; exfalso; omega)) HXD.out ?_
                go_frame
                refine takeH 5 61 (.pointer (some ⟨b, r, none⟩)) rfl rfl (by kernel_rfl) (by kernel_rfl) (by kernel_rfl) (fun _ _ _ h => h) rfl (fun w' h => by go_simp; try first | exact hwr | (intro hh; exfalso; omega)) HXD.out ?_
                go_frame
                refine takeH 6 62 (.bool true) rfl rfl (by kernel_rfl) (by kernel_rfl) (by kernel_rfl) (fun _ _ _ h => h) rfl (fun w' h => by go_simp; try first | exact hwr | (intro hh; exfalso; omega)) HXD.out ?_
                go_frame
                refine takeH 7 63 (.bool true) rfl rfl (by kernel_rfl) (by kernel_rfl) (by kernel_rfl) (fun _ _ _ h => h) rfl (fun w' h => by go_simp; try first | exact hwr | (intro hh; exfalso; omega)) HXD.out ?_
                go_frame
                refine takeH 8 64 (str H) rfl rfl (by kernel_rfl) (by kernel_rfl) (by kernel_rfl) (fun _ _ _ h => h) rfl (fun w' h => by go_simp; try first | exact hwr | (intro hh; exfalso; omega)) HXD.out ?_
                go_frame
                refine takeH 9 65 (.int .i64 ((r : Int) + 1)) rfl rfl (by kernel_rfl) (by kernel_rfl) (by kernel_rfl) (fun _ _ _ h => h) rfl (fun w' h => by go_simp; try first | exact hwr | (intro hh; exfalso; omega)) HXD.out ?_
                go_frame
                refine takeH 10 66 (.int .i64 (r : Int)) rfl rfl (by kernel_rfl) (by kernel_rfl) (by kernel_rfl) (fun _ _ _ h => h) rfl (fun w' h => by go_simp; try first | exact hwr | (intro hh; exfalso; omega)) HXD.out ?_
                go_frame
                refine takeH 11 67 (.int .u8 (x.toNat : Int)) rfl rfl (by kernel_rfl) (by kernel_rfl) (by kernel_rfl) (fun _ _ _ h => h) rfl (fun w' h => by go_simp; try first | exact hwr | (intro hh; exfalso; omega)) HXD.out ?_
                go_frame
                refine takeH 12 68 (str p) rfl rfl (by kernel_rfl) (by kernel_rfl) (by kernel_rfl) (fun _ _ _ h => h) rfl (fun w' h => by go_simp; try first | exact hwr | (intro hh; exfalso; omega)) HXD.out ?_
                go_frame
                refine takeH 13 69 (.int .i64 (k : Int)) rfl rfl (by kernel_rfl) (by kernel_rfl) (by kernel_rfl) (fun _ _ _ h => h) rfl (fun w' h => by go_simp; try first | exact hwr | (intro hh; exfalso; omega)) HXD.out ?_
                go_frame
                refine takeH 14 70 (.int .u8 (c.toNat : Int)) rfl rfl (by kernel_rfl) (by kernel_rfl) (by kernel_rfl) (fun _ _ _ h => h) rfl (fun w' h => by go_simp; try first | exact hwr | (intro hh; exfalso; omega)) HXD.out ?_
                go_frame
                refine takeH 15 71 (.bool true) rfl rfl (by kernel_rfl) (by kernel_rfl) (by kernel_rfl) (fun _ _ _ h => h) rfl (fun w' h => by go_simp; try first | exact hwr | (intro hh; exfalso; omega)) HXD.out ?_
                go_frame
                refine takeH 16 72 (.bool true) rfl rfl (by kernel_rfl) (by kernel_rfl) (by kernel_rfl) (fun _ _ _ h => h) rfl (fun w' h => by go_simp; try first | exact hwr | (intro hh; exfalso; omega)) HXD.out ?_
                go_frame
                refine takeH 17 73 (.pointer (some ⟨nb, r + 1, none⟩)) rfl rfl (by kernel_rfl) (by kernel_rfl) (by kernel_rfl) (fun _ _ _ h => h) rfl (fun w' h => by go_simp; try first | exact hwr | (intro hh; exfalso; omega)) HXD.out ?_
                go_frame
                refine wpAnyH_all (rs := [18]) (by kernel_rfl) (by simp) ?_
                simp only [List.mem_singleton, forall_eq]
                refine wpOp_storeG rfl rfl rfl (w' := wr.drew.setCell ⟨nb, r + 1, none⟩ (.bool true)) (by go_simp) ?_
                have hcb3 : (wr.drew.setCell ⟨nb, r + 1, none⟩ (.bool true)).cell? ⟨b, r, none⟩ = some (.bool true) := (World.cell?_of_block (a := ⟨b, r, none⟩) (Below.heap_setCell _ _ _ b (by show b ≠ nb; omega))).trans cb2
                refine ⟨hcb3, wpAnyH_done (by kernel_rfl) ?_ _⟩
                refine NoPanic.normal ?_
                clear hcb3 cb2 HXD
                go_wp2_with fail
                go_roundw
                case rel => exact ⟨r + 1 + 1, by omega, by go_num, HSET.out.drew, HBS.out.drew, HBL3.out.drew⟩
                case measure => simp [intOf]; omega
        · obtain rfl : q = K := by omega
          rw [HK.out, half_end] at hn1
          have HN1 := Lib.hid hn1; have HBL := Lib.hid hbl
          clear hn1 hb1 hbl
          go_wp2_with fail
          exact ⟨⟨k + 1, nb, by omega, by go_num, rfl, hnbw, by rw [HSN.out]; exact HN1.out, HBL.out⟩, by simp [intOf]; omega⟩
    · have htk : p.take k = p := List.take_of_length_le (by omega)
      rw [htk] at hkb
      have cr := hkb.at (o := H.length) (rowL_at H.length _ (Nat.lt_succ_self _))
      have hr : R = rowF H p H.length := HD.out
      have HB := Lib.hid hb
      rw [← hr] at cr
      clear hkb hb htk hr HD
      go_wp2_with fail
      go_ret
      exact ⟨rfl, HB.out⟩
end Go.Proofs.YtpihpoapapfnkaaGreatDoor
