/- trace: the reference's Read, at every text. -/
import Derived.Test.YtoehkhbppmgfkaaGreatDoorTvRd
set_option maxRecDepth 100000
namespace Go.Proofs.YtoehkhbppmgfkaaGreatDoor
open Go.RowKit Go.Shelf
attribute [local go_sem] Oper.semAt_some
theorem cell_belowA {W W' : World} {p : Addr} {v : Value} (h : W.cell? p = some v) (hb : Below W.heap.size W W') : W'.cell? p = some v := (hb.cell (World.block_lt_of_cell? W p h)).trans h
/-- What the reference's num tells: a number and whether it is one. -/
def nv (s : List UInt8) : Nat := if numOk s = true then valN s else 0
theorem nv_lt (s : List UInt8) : nv s < 10000000000000000 := by
  unfold nv
  split
  · rename_i h
    unfold numOk at h
    simp only [Bool.and_eq_true, decide_eq_true_eq] at h
    have h1 := valN_lt s.length s rfl h.1.1.1
    have h2 : (10 : Nat) ^ s.length ≤ 10 ^ 16 := Nat.pow_le_pow_right (by omega) h.1.2
    have h3 : (10 : Nat) ^ 16 = 10000000000000000 := by decide
    omega
  · omega
theorem refNum2 (s : List UInt8) (w : World) (hs : s.length ≤ 100000) : Calls Tryz.prog 27 #[str s] w fun e w' => e = .returned (.tuple #[.int .u64 (nv s : Int), .bool (numOk s)]) ∧ w = w' := by
  refine (refNum_any s w hs).mono ?_
  rintro e w' ⟨rfl, rfl⟩
  refine ⟨?_, rfl⟩
  unfold nv
  cases numOk s <;> rfl
theorem spl_lenL (s : List UInt8) (ps : List (List UInt8)) (h : ps = spl 32 s) : ∀ p ∈ ps, p.length ≤ s.length := by
  rw [h]
  clear h
  induction s with
  | nil => intro p hp; simp only [spl, List.mem_singleton] at hp; rw [hp]; exact Nat.le_refl _
  | cons x t ih =>
    intro p hp
    by_cases hx : x = 32
    · subst hx
      rw [spl_hit, List.mem_cons] at hp
      rcases hp with rfl | hp
      · simp
      · have := ih p hp; simp; omega
    · obtain ⟨q, qs, e1, e2⟩ := spl_miss hx t
      rw [e1] at ih
      rw [e2, List.mem_cons] at hp
      rcases hp with rfl | hp
      · have := ih q (by simp); simp; omega
      · have := ih p (by simp [hp]); simp; omega
/-- What the reference makes of five words, and when it is a line. -/
def evR (a b x d f : List UInt8) : EvL := ⟨nv a, nv b, x, ((nv d % 1099511627776 : Nat) : Int), txR f⟩
def GdR (a b x d f : List UInt8) : Prop := txO f = true ∧ numOk a = true ∧ numOk b = true ∧ numOk d = true ∧ nv d ≤ 2147483647 ∧ (evR a b x d f).Ok
theorem okR_five {s a b x d f : List UInt8} (hs : [a, b, x, d, f] = spl 32 s) : okR s ↔ GdR a b x d f := by
  have e : ∀ t : List UInt8, numOk t = true → nv t = valN t := fun t h => by unfold nv; rw [if_pos h]
  unfold okR GdR
  rw [← hs]
  show (5 = 5 ∧ txO f = true ∧ numOk a = true ∧ numOk b = true ∧ numOk d = true ∧ EvL.Ok ⟨valN a, valN b, x, ((valN d : Nat) : Int), txR f⟩) ↔ _
  constructor
  · rintro ⟨_, h1, h2, h3, h4, h5⟩
    have hc : ((valN d : Nat) : Int) ≤ 2147483647 := h5.c1
    have hm : valN d % 1099511627776 = valN d := Nat.mod_eq_of_lt (by omega)
    refine ⟨h1, h2, h3, h4, by rw [e d h4]; omega, ?_⟩
    unfold evR
    rw [e a h2, e b h3, e d h4, hm]
    exact h5
  · rintro ⟨h1, h2, h3, h4, h5, h6⟩
    refine ⟨rfl, h1, h2, h3, h4, ?_⟩
    unfold evR at h6
    rw [Nat.mod_eq_of_lt (show nv d < 1099511627776 by omega), e a h2, e b h3, e d h4] at h6
    exact h6
theorem evR_good {s a b x d f : List UInt8} (hs : [a, b, x, d, f] = spl 32 s) (h : GdR a b x d f) : rdL s = (evR a b x d f, 0) := by
  rw [rdL_okR ((okR_five hs).2 h), ← hs]
  obtain ⟨_, h2, h3, h4, h5, _⟩ := h
  have e : ∀ t : List UInt8, numOk t = true → nv t = valN t := fun t h => by unfold nv; rw [if_pos h]
  unfold evR
  rw [Nat.mod_eq_of_lt (show nv d < 1099511627776 by omega), e a h2, e b h3, e d h4]
  rfl
theorem evR_bad {s a b x d f : List UInt8} (hs : [a, b, x, d, f] = spl 32 s) (h : ¬ GdR a b x d f) : rdL s = (⟨0, 0, [], 0, []⟩, 4) := rdL_noR (fun q => h ((okR_five hs).1 q))
set_option maxHeartbeats 4000000 in
theorem refRead_any (s : List UInt8) (w : World) (hs : s.length ≤ 600) :
    Calls Tryz.prog 9 #[str s] w fun e w' => e = .returned (.tuple #[evA (rdL s).1, .int .i64 (rdL s).2]) ∧ Below w.heap.size w w' := by
  obtain ⟨W, hW⟩ : ∃ W, W = w.alloc (.cells #[.int .u64 0, .int .u64 0, str [], .int .i64 0, str []] 24) := ⟨_, rfl⟩
  have hB0 : Below w.heap.size w W := by rw [hW]; exact (Below.refl _ w).alloc (Nat.le_refl _) _
  have HB0 := Lib.hid hB0
  have HK0 := Lib.hid (show Blk W w.heap.size [.int .u64 0, .int .u64 0, str [], .int .i64 0, str []] from by rw [hW]; exact Blk.new w _ _)
  have HSP := Lib.hid (refSplit_any s 32 W (by omega))
  clear hB0
  obtain ⟨R, hR⟩ : ∃ R, R = rdL s := ⟨_, rfl⟩
  have HR := Lib.hid hR
  rw [← hR]
  clear hR
  go_enter Tryz.func9, Tryz.ntmps9
  go_wp2_with fail
  rw [← hW]
  refine HSP.out.mono ?_
  rintro e w1 ⟨v, rfl, hO, hb⟩
  obtain ⟨ps, hps⟩ : ∃ ps, ps = spl 32 s := ⟨_, rfl⟩
  rw [← hps] at hO
  obtain ⟨A, c, rfl, hcell⟩ : ∃ A c, v = .slice A ps.length c ∧ (ps.length = 5 → ∃ g, A = some ⟨g, 0, none⟩ ∧ g < w1.heap.size ∧ ∀ j (hj : j < ps.length), w1.cell? ⟨g, j, none⟩ = some (str ps[j])) := by
    rcases hO.form with ⟨rfl, hn⟩ | ⟨g, cap, rfl, -, hlt, -, -, hc⟩
    · exact ⟨none, 0, by rw [hn]; rfl, fun h => by rw [hn] at h; cases h⟩
    · exact ⟨_, _, rfl, fun _ => ⟨g, rfl, hlt, hc⟩⟩
  have HB1 := Lib.hid (HB0.out.trans (hb.mono HB0.out.size))
  have hk1 := HK0.out.below hb HK0.out.lt
  have HCL := Lib.hid hcell
  have HPS := Lib.hid hps
  clear hb hO hcell hps HSP hW HB0 HK0
  by_cases hl : ps.length = 5
  · obtain ⟨g, rfl, hgl, hcell⟩ := HCL.out hl
    obtain ⟨a, b, x, d, f, rfl⟩ := five hl
    have HLL := Lib.hid (spl_lenL s [a, b, x, d, f] HPS.out)
    have p0 : w1.cell? ⟨g, 0, none⟩ = some (str a) := hcell 0 (by simp)
    have p1 : w1.cell? ⟨g, 1, none⟩ = some (str b) := hcell 1 (by simp)
    have p2 : w1.cell? ⟨g, 2, none⟩ = some (str x) := hcell 2 (by simp)
    have p3 : w1.cell? ⟨g, 3, none⟩ = some (str d) := hcell 3 (by simp)
    have p4 : w1.cell? ⟨g, 4, none⟩ = some (str f) := hcell 4 (by simp)
    have HNA := Lib.hid (fun W => refNum2 a W (by have := HLL.out a (by simp); omega))
    have HNB := Lib.hid (fun W => refNum2 b W (by have := HLL.out b (by simp); omega))
    have HND := Lib.hid (fun W => refNum2 d W (by have := HLL.out d (by simp); omega))
    have HNF := Lib.hid (fun W => refUnhex_any f W (by have := HLL.out f (by simp); omega))
    have HXL := Lib.hid (show x.length ≤ 600 from by have := HLL.out x (by simp); omega)
    have hNA := nv_lt a
    have hNB := nv_lt b
    have hND := nv_lt d
    obtain ⟨N0, hN0⟩ : ∃ N0, N0 = nv a := ⟨_, rfl⟩
    obtain ⟨N1, hN1⟩ : ∃ N1, N1 = nv b := ⟨_, rfl⟩
    obtain ⟨C0, hC0⟩ : ∃ C0, C0 = nv d := ⟨_, rfl⟩
    obtain ⟨b0, hb0⟩ : ∃ b0, b0 = numOk a := ⟨_, rfl⟩
    obtain ⟨b1, hb1⟩ : ∃ b1, b1 = numOk b := ⟨_, rfl⟩
    obtain ⟨b3, hb3⟩ : ∃ b3, b3 = numOk d := ⟨_, rfl⟩
    rw [← hN0, ← hb0] at HNA
    rw [← hN1, ← hb1] at HNB
    rw [← hC0, ← hb3] at HND
    rw [← hN0] at hNA
    rw [← hN1] at hNB
    rw [← hC0] at hND
    have HEV := Lib.hid (show evR a b x d f = ⟨N0, N1, x, ((C0 % 1099511627776 : Nat) : Int), txR f⟩ from by rw [hN0, hN1, hC0]; rfl)
    have HGD := Lib.hid (show GdR a b x d f ↔ (txO f = true ∧ b0 = true ∧ b1 = true ∧ b3 = true ∧ C0 ≤ 2147483647 ∧ (evR a b x d f).Ok) from by rw [hb0, hb1, hb3, hC0]; exact Iff.rfl)
    have HDF := Lib.hid (And.intro (And.intro hN0 (And.intro hN1 hC0)) (And.intro hb0 (And.intro hb1 hb3)))
    have hmod : IntKind.u64.wrap ((C0 : Int) % 1099511627776) = ((C0 % 1099511627776 : Nat) : Int) := by rw [IntWalk.u64_in _ (by omega)]; omega
    have hmod2 : ((C0 : Int) % 1099511627776) = ((C0 % 1099511627776 : Nat) : Int) := by omega
    have hmod3 : IntKind.i64.wrap (((C0 % 1099511627776 : Nat) : Int)) = ((C0 % 1099511627776 : Nat) : Int) := by rw [IntWalk.i64_in _ (by omega)]
    obtain ⟨M0, hM0⟩ : ∃ M0, M0 = C0 % 1099511627776 := ⟨_, rfl⟩
    rw [← hM0] at hmod hmod2 hmod3
    have HM0 := Lib.hid hM0
    have HK1 := Lib.hid hk1
    have HRG := Lib.hid (And.intro hNA (And.intro hNB hND))
    have HPC := Lib.hid (And.intro p0 (And.intro p1 (And.intro p2 (And.intro p3 p4))))
    clear hl HCL hcell HLL hN0 hN1 hC0 hb0 hb1 hb3 hk1 hM0 hNA hNB hND
    go_wp2_with fail
    refine (HNA.out w1).mono ?_
    rintro e w1' ⟨rfl, rfl⟩
    go_wp2_with fail
    refine (HNB.out w1).mono ?_
    rintro e w1' ⟨rfl, rfl⟩
    go_wp2_with fail
    refine (HND.out w1).mono ?_
    rintro e w1' ⟨rfl, rfl⟩
    clear HNA HNB HND
    by_cases hf : f = [45]
    · rw [hf] at p4
      have HTX : Hid (txO f = true) := Lib.hid (by rw [hf]; rfl)
      have HTR : Hid (txR f = []) := Lib.hid (by rw [hf]; rfl)
      clear hf HNF
      go_wp2_with fail
      clear p0 p1 p2 p3 p4
      obtain ⟨X, hX⟩ : ∃ X, X = w1.alloc (.cells #[.int .u64 (N0 : Int), .int .u64 (N1 : Int), str x, .int .i64 (M0 : Int), str []] 24) := ⟨_, rfl⟩
      have hxb : Below w1.heap.size w1 X := by rw [hX]; exact (Below.refl _ _).alloc (Nat.le_refl _) _
      have HBX := Lib.hid (HB1.out.trans (hxb.mono HB1.out.size))
      have HKX := Lib.hid (HK1.out.below hxb HK1.out.lt)
      have HNX := Lib.hid (show Blk X w1.heap.size [.int .u64 (N0 : Int), .int .u64 (N1 : Int), str x, .int .i64 (M0 : Int), str []] from by rw [hX]; exact Blk.new w1 _ _)
      obtain ⟨E, hE⟩ : ∃ E : EvL, E = ⟨N0, N1, x, (M0 : Int), []⟩ := ⟨_, rfl⟩
      have hER : evR a b x d f = E := by rw [HEV.out, HTR.out, hE, HM0.out]
      have hG := HGD.out
      rw [hER] at hG
      have hkk : E.kind.length ≤ 600 := by rw [hE]; exact HXL.out
      have hea : evA E = .agg #[.int .u64 (N0 : Int), .int .u64 (N1 : Int), str x, .int .i64 (M0 : Int), str []] := by rw [hE]; rfl
      have HLN : Hid (∃ L z, (Calls Tryz.prog 7 #[evA E] X fun x w' => x = .returned (.tuple #[str L, .int .i64 z]) ∧ Below X.heap.size X w') ∧ (E.Ok → z = 0) ∧ (¬ E.Ok → z = 4)) := Lib.hid (by
        by_cases ho : E.Ok
        · exact ⟨_, 0, refLine_ok E ho X, fun _ => rfl, fun h => absurd ho h⟩
        · exact ⟨_, 4, refLine_bad E hkk ho X, fun h => absurd h ho, fun _ => rfl⟩)
      rw [hea] at HLN
      have hcase : (b0 = true ∧ b1 = true ∧ b3 = true ∧ C0 ≤ 2147483647 ∧ E.Ok ∧ R = (E, 0)) ∨ (R = (⟨0, 0, [], 0, []⟩, 4) ∧ (b0 = false ∨ (b0 = true ∧ b1 = false) ∨ (b0 = true ∧ b1 = true ∧ b3 = false) ∨ (b0 = true ∧ b1 = true ∧ b3 = true ∧ 2147483647 < C0) ∨ (b0 = true ∧ b1 = true ∧ b3 = true ∧ C0 ≤ 2147483647 ∧ ¬ E.Ok))) := by
        by_cases hg : GdR a b x d f
        · obtain ⟨_, g1, g2, g3, g4, g5⟩ := hG.1 hg
          exact .inl ⟨g1, g2, g3, g4, g5, by rw [HR.out, evR_good HPS.out hg, hER]⟩
        · refine .inr ⟨by rw [HR.out, evR_bad HPS.out hg], ?_⟩
          cases h0 : b0
          · exact .inl rfl
          · cases h1 : b1
            · exact .inr (.inl ⟨rfl, rfl⟩)
            · cases h3 : b3
              · exact .inr (.inr (.inl ⟨rfl, rfl, rfl⟩))
              · by_cases hc : C0 ≤ 2147483647
                · exact .inr (.inr (.inr (.inr ⟨rfl, rfl, rfl, hc, fun q => hg (hG.2 ⟨HTX.out, h0, h1, h3, hc, q⟩)⟩)))
                · exact .inr (.inr (.inr (.inl ⟨rfl, rfl, rfl, by omega⟩)))
      have HEA := Lib.hid hea
      rw [← hX]
      clear hX hxb hG hER hE hea hkk HEV HGD HDF HRG HPS HR HXL HTX
      obtain ⟨L, z, hL, hz1, hz2⟩ := HLN.out
      have HZ1 := Lib.hid hz1
      have HZ2 := Lib.hid hz2
      have HLL := Lib.hid hL
      clear HLN hL hz1 hz2
      refine HLL.out.mono ?_
      rintro e X3 ⟨rfl, hb⟩
      have HB3 := Lib.hid (HBX.out.trans (hb.mono HBX.out.size))
      have hk3 := HKX.out.below hb HKX.out.lt
      have hn3 := HNX.out.below hb HNX.out.lt
      obtain ⟨k0, k1, k2, k3, k4⟩ : X3.cell? ⟨w.heap.size, 0, none⟩ = some (.int .u64 0) ∧ X3.cell? ⟨w.heap.size, 1, none⟩ = some (.int .u64 0) ∧ X3.cell? ⟨w.heap.size, 2, none⟩ = some (str []) ∧ X3.cell? ⟨w.heap.size, 3, none⟩ = some (.int .i64 0) ∧ X3.cell? ⟨w.heap.size, 4, none⟩ = some (str []) := ⟨hk3.at (o := 0) rfl, hk3.at (o := 1) rfl, hk3.at (o := 2) rfl, hk3.at (o := 3) rfl, hk3.at (o := 4) rfl⟩
      have f0 := hk3.free 0
      have f1 := hk3.free 1
      have f2 := hk3.free 2
      have f3 := hk3.free 3
      have f4 := hk3.free 4
      have hlt := hk3.lt
      obtain ⟨g0, g1, g2, g3, g4⟩ : X3.cell? ⟨w1.heap.size, 0, none⟩ = some (.int .u64 (N0 : Int)) ∧ X3.cell? ⟨w1.heap.size, 1, none⟩ = some (.int .u64 (N1 : Int)) ∧ X3.cell? ⟨w1.heap.size, 2, none⟩ = some (str x) ∧ X3.cell? ⟨w1.heap.size, 3, none⟩ = some (.int .i64 (M0 : Int)) ∧ X3.cell? ⟨w1.heap.size, 4, none⟩ = some (str []) := ⟨hn3.at (o := 0) rfl, hn3.at (o := 1) rfl, hn3.at (o := 2) rfl, hn3.at (o := 3) rfl, hn3.at (o := 4) rfl⟩
      clear hb hk3 hn3 HLL HKX HNX HPC
      rcases hcase with ⟨rfl, rfl, rfl, hc, ho, rfl⟩ | ⟨rfl, hcase⟩
      · obtain rfl := HZ1.out ho
        have dc : decide ((2147483647 : Int) < (C0 : Int)) = false := decide_eq_false (by omega)
        have dc2 : ¬ (2147483647 : Int) < (C0 : Int) := by omega
        clear ho hc
        go_wp2_with fail
        exact bodyPost_ret (v := .tuple #[.agg #[.int .u64 (N0 : Int), .int .u64 (N1 : Int), str x, .int .i64 (M0 : Int), str []], .int .i64 0]) (by simp [results, Tryz.results9, go_sem, k0, k1, k2, k3, k4]) rfl
          ⟨by rw [HEA.out], put5_below HB3.out (Nat.le_refl _) _ _ _ _ _⟩
      · rcases hcase with rfl | ⟨rfl, rfl⟩ | ⟨rfl, rfl, rfl⟩ | ⟨rfl, rfl, rfl, hc⟩ | ⟨rfl, rfl, rfl, hc, ho⟩
        · go_wp2_with fail
          exact bodyPost_ret (v := .tuple #[.agg #[.int .u64 0, .int .u64 0, str [], .int .i64 0, str []], .int .i64 4]) (by simp [results, Tryz.results9, go_sem, k0, k1, k2, k3, k4]) rfl
            ⟨rfl, put5_below HB3.out (Nat.le_refl _) _ _ _ _ _⟩
        · go_wp2_with fail
          exact bodyPost_ret (v := .tuple #[.agg #[.int .u64 0, .int .u64 0, str [], .int .i64 0, str []], .int .i64 4]) (by simp [results, Tryz.results9, go_sem, k0, k1, k2, k3, k4]) rfl
            ⟨rfl, put5_below HB3.out (Nat.le_refl _) _ _ _ _ _⟩
        · go_wp2_with fail
          exact bodyPost_ret (v := .tuple #[.agg #[.int .u64 0, .int .u64 0, str [], .int .i64 0, str []], .int .i64 4]) (by simp [results, Tryz.results9, go_sem, k0, k1, k2, k3, k4]) rfl
            ⟨rfl, put5_below HB3.out (Nat.le_refl _) _ _ _ _ _⟩
        · have dc : decide ((2147483647 : Int) < (C0 : Int)) = true := decide_eq_true (by omega)
          have dc2 : (2147483647 : Int) < (C0 : Int) := by omega
          clear hc
          go_wp2_with fail
          exact bodyPost_ret (v := .tuple #[.agg #[.int .u64 0, .int .u64 0, str [], .int .i64 0, str []], .int .i64 4]) (by simp [results, Tryz.results9, go_sem, k0, k1, k2, k3, k4]) rfl
            ⟨rfl, put5_below HB3.out (Nat.le_refl _) _ _ _ _ _⟩
        · obtain rfl := HZ2.out ho
          have dc : decide ((2147483647 : Int) < (C0 : Int)) = false := decide_eq_false (by omega)
          have dc2 : ¬ (2147483647 : Int) < (C0 : Int) := by omega
          clear ho hc
          go_wp2_with fail
          exact bodyPost_ret (v := .tuple #[.agg #[.int .u64 0, .int .u64 0, str [], .int .i64 0, str []], .int .i64 4]) (by simp [results, Tryz.results9, go_sem, k0, k1, k2, k3, k4]) rfl
            ⟨rfl, put5_below HB3.out (Nat.le_refl _) _ _ _ _ _⟩
    · have dn : (f == [45]) = false := beq_eq_false_iff_ne.2 hf
      have HTF : Hid (txR f = (decH f).1) := Lib.hid (by unfold txR; rw [if_neg hf])
      have HTO : Hid (txO f = ((decH f).2 == 0 && !(decH f).1.isEmpty)) := Lib.hid (by unfold txO; rw [dn]; rfl)
      clear hf
      go_wp2_with fail
      refine (HNF.out w1).mono ?_
      rintro e w2 ⟨vu, rfl, hO, hb⟩
      have HB2 := Lib.hid (HB1.out.trans (hb.mono HB1.out.size))
      have HK2 := Lib.hid (HK1.out.below hb HK1.out.lt)
      have hcv := conv_sl hO.sl
      obtain ⟨AV, CV, rfl⟩ : ∃ A c, vu = .slice A (decH f).1.length c := by
        obtain ⟨A, c, h, _⟩ := hO.sl
        exact ⟨A, c, h⟩
      have q2 : w2.cell? ⟨g, 2, none⟩ = some (str x) := cell_belowA p2 hb
      obtain ⟨T0, hT0⟩ : ∃ T0, T0 = (decH f).1 := ⟨_, rfl⟩
      obtain ⟨Z0, hZ0⟩ : ∃ Z0, Z0 = (decH f).2 := ⟨_, rfl⟩
      rw [← hT0] at HTF HTO hcv ⊢
      rw [← hZ0] at HTO ⊢
      clear hO hb hT0 hZ0 HNF p0 p1 p2 p3 p4
      by_cases hbad : Z0 ≠ 0 ∨ T0 = []
      · have hz : R = (⟨0, 0, [], 0, []⟩, 4) := by
          rw [HR.out]
          refine evR_bad HPS.out (fun q => ?_)
          have h1 := q.1
          rw [HTO.out, Bool.and_eq_true, beq_iff_eq, Bool.not_eq_true'] at h1
          rcases hbad with h | h
          · exact h h1.1
          · rw [h] at h1; cases h1.2
        subst hz
        have hk3 := HK2.out
        have HB3 := HB2
        obtain ⟨k0, k1, k2, k3, k4⟩ : w2.cell? ⟨w.heap.size, 0, none⟩ = some (.int .u64 0) ∧ w2.cell? ⟨w.heap.size, 1, none⟩ = some (.int .u64 0) ∧ w2.cell? ⟨w.heap.size, 2, none⟩ = some (str []) ∧ w2.cell? ⟨w.heap.size, 3, none⟩ = some (.int .i64 0) ∧ w2.cell? ⟨w.heap.size, 4, none⟩ = some (str []) := ⟨hk3.at (o := 0) rfl, hk3.at (o := 1) rfl, hk3.at (o := 2) rfl, hk3.at (o := 3) rfl, hk3.at (o := 4) rfl⟩
        have f0 := hk3.free 0
        have f1 := hk3.free 1
        have f2 := hk3.free 2
        have f3 := hk3.free 3
        have f4 := hk3.free 4
        have hlt := hk3.lt
        clear hk3 HEV HGD HDF HRG HPS HR HXL HTF HTO HPC
        by_cases hz0 : Z0 = 0
        · have ht0 : T0 = [] := by rcases hbad with h | h; exact absurd hz0 h; exact h
          subst hz0 ht0
          clear hbad
          go_wp2_with fail
          exact bodyPost_ret (v := .tuple #[.agg #[.int .u64 0, .int .u64 0, str [], .int .i64 0, str []], .int .i64 4]) (by simp [results, Tryz.results9, go_sem, k0, k1, k2, k3, k4]) rfl
            ⟨rfl, put5_below HB3.out (Nat.le_refl _) _ _ _ _ _⟩
        · have dz : (Z0 == 0) = false := beq_eq_false_iff_ne.2 hz0
          clear hbad
          go_wp2_with fail
          exact bodyPost_ret (v := .tuple #[.agg #[.int .u64 0, .int .u64 0, str [], .int .i64 0, str []], .int .i64 4]) (by simp [results, Tryz.results9, go_sem, k0, k1, k2, k3, k4]) rfl
            ⟨rfl, put5_below HB3.out (Nat.le_refl _) _ _ _ _ _⟩
      · have hz0 : Z0 = 0 := by rcases Classical.em (Z0 = 0) with h | h; exact h; exact absurd (.inl h) hbad
        have ht0 : T0 ≠ [] := fun h => hbad (.inr h)
        have HTX : Hid (txO f = true) := Lib.hid (by rw [HTO.out, hz0]; cases T0 with | nil => exact absurd rfl ht0 | cons => rfl)
        have dl : ((T0.length : Int) == 0) = false := beq_eq_false_iff_ne.2 (by have := List.length_pos_iff.2 ht0; omega)
        subst hz0
        clear hbad ht0 HTO
        go_wp2_with fail
        clear q2 dl
        obtain ⟨X, hX⟩ : ∃ X, X = w2.alloc (.cells #[.int .u64 (N0 : Int), .int .u64 (N1 : Int), str x, .int .i64 (M0 : Int), str T0] 24) := ⟨_, rfl⟩
        have hxb : Below w2.heap.size w2 X := by rw [hX]; exact (Below.refl _ _).alloc (Nat.le_refl _) _
        have HBX := Lib.hid (HB2.out.trans (hxb.mono HB2.out.size))
        have HKX := Lib.hid (HK2.out.below hxb HK2.out.lt)
        have HNX := Lib.hid (show Blk X w2.heap.size [.int .u64 (N0 : Int), .int .u64 (N1 : Int), str x, .int .i64 (M0 : Int), str T0] from by rw [hX]; exact Blk.new w2 _ _)
        obtain ⟨E, hE⟩ : ∃ E : EvL, E = ⟨N0, N1, x, (M0 : Int), T0⟩ := ⟨_, rfl⟩
        have hER : evR a b x d f = E := by rw [HEV.out, HTF.out, hE, HM0.out]
        have hG := HGD.out
        rw [hER] at hG
        have hkk : E.kind.length ≤ 600 := by rw [hE]; exact HXL.out
        have hea : evA E = .agg #[.int .u64 (N0 : Int), .int .u64 (N1 : Int), str x, .int .i64 (M0 : Int), str T0] := by rw [hE]; rfl
        have HLN : Hid (∃ L z, (Calls Tryz.prog 7 #[evA E] X fun x w' => x = .returned (.tuple #[str L, .int .i64 z]) ∧ Below X.heap.size X w') ∧ (E.Ok → z = 0) ∧ (¬ E.Ok → z = 4)) := Lib.hid (by
          by_cases ho : E.Ok
          · exact ⟨_, 0, refLine_ok E ho X, fun _ => rfl, fun h => absurd ho h⟩
          · exact ⟨_, 4, refLine_bad E hkk ho X, fun h => absurd h ho, fun _ => rfl⟩)
        rw [hea] at HLN
        have hcase : (b0 = true ∧ b1 = true ∧ b3 = true ∧ C0 ≤ 2147483647 ∧ E.Ok ∧ R = (E, 0)) ∨ (R = (⟨0, 0, [], 0, []⟩, 4) ∧ (b0 = false ∨ (b0 = true ∧ b1 = false) ∨ (b0 = true ∧ b1 = true ∧ b3 = false) ∨ (b0 = true ∧ b1 = true ∧ b3 = true ∧ 2147483647 < C0) ∨ (b0 = true ∧ b1 = true ∧ b3 = true ∧ C0 ≤ 2147483647 ∧ ¬ E.Ok))) := by
          by_cases hg : GdR a b x d f
          · obtain ⟨_, g1, g2, g3, g4, g5⟩ := hG.1 hg
            exact .inl ⟨g1, g2, g3, g4, g5, by rw [HR.out, evR_good HPS.out hg, hER]⟩
          · refine .inr ⟨by rw [HR.out, evR_bad HPS.out hg], ?_⟩
            cases h0 : b0
            · exact .inl rfl
            · cases h1 : b1
              · exact .inr (.inl ⟨rfl, rfl⟩)
              · cases h3 : b3
                · exact .inr (.inr (.inl ⟨rfl, rfl, rfl⟩))
                · by_cases hc : C0 ≤ 2147483647
                  · exact .inr (.inr (.inr (.inr ⟨rfl, rfl, rfl, hc, fun q => hg (hG.2 ⟨HTX.out, h0, h1, h3, hc, q⟩)⟩)))
                  · exact .inr (.inr (.inr (.inl ⟨rfl, rfl, rfl, by omega⟩)))
        have HEA := Lib.hid hea
        rw [← hX]
        clear hX hxb hG hER hE hea hkk HEV HGD HDF HRG HPS HR HXL HTX
        obtain ⟨L, z, hL, hz1, hz2⟩ := HLN.out
        have HZ1 := Lib.hid hz1
        have HZ2 := Lib.hid hz2
        have HLL := Lib.hid hL
        clear HLN hL hz1 hz2
        refine HLL.out.mono ?_
        rintro e X3 ⟨rfl, hb⟩
        have HB3 := Lib.hid (HBX.out.trans (hb.mono HBX.out.size))
        have hk3 := HKX.out.below hb HKX.out.lt
        have hn3 := HNX.out.below hb HNX.out.lt
        obtain ⟨k0, k1, k2, k3, k4⟩ : X3.cell? ⟨w.heap.size, 0, none⟩ = some (.int .u64 0) ∧ X3.cell? ⟨w.heap.size, 1, none⟩ = some (.int .u64 0) ∧ X3.cell? ⟨w.heap.size, 2, none⟩ = some (str []) ∧ X3.cell? ⟨w.heap.size, 3, none⟩ = some (.int .i64 0) ∧ X3.cell? ⟨w.heap.size, 4, none⟩ = some (str []) := ⟨hk3.at (o := 0) rfl, hk3.at (o := 1) rfl, hk3.at (o := 2) rfl, hk3.at (o := 3) rfl, hk3.at (o := 4) rfl⟩
        have f0 := hk3.free 0
        have f1 := hk3.free 1
        have f2 := hk3.free 2
        have f3 := hk3.free 3
        have f4 := hk3.free 4
        have hlt := hk3.lt
        obtain ⟨g0, g1, g2, g3, g4⟩ : X3.cell? ⟨w2.heap.size, 0, none⟩ = some (.int .u64 (N0 : Int)) ∧ X3.cell? ⟨w2.heap.size, 1, none⟩ = some (.int .u64 (N1 : Int)) ∧ X3.cell? ⟨w2.heap.size, 2, none⟩ = some (str x) ∧ X3.cell? ⟨w2.heap.size, 3, none⟩ = some (.int .i64 (M0 : Int)) ∧ X3.cell? ⟨w2.heap.size, 4, none⟩ = some (str T0) := ⟨hn3.at (o := 0) rfl, hn3.at (o := 1) rfl, hn3.at (o := 2) rfl, hn3.at (o := 3) rfl, hn3.at (o := 4) rfl⟩
        clear hb hk3 hn3 HLL HKX HNX HPC
        rcases hcase with ⟨rfl, rfl, rfl, hc, ho, rfl⟩ | ⟨rfl, hcase⟩
        · obtain rfl := HZ1.out ho
          have dc : decide ((2147483647 : Int) < (C0 : Int)) = false := decide_eq_false (by omega)
          have dc2 : ¬ (2147483647 : Int) < (C0 : Int) := by omega
          clear ho hc
          go_wp2_with fail
          exact bodyPost_ret (v := .tuple #[.agg #[.int .u64 (N0 : Int), .int .u64 (N1 : Int), str x, .int .i64 (M0 : Int), str T0], .int .i64 0]) (by simp [results, Tryz.results9, go_sem, k0, k1, k2, k3, k4]) rfl
            ⟨by rw [HEA.out], put5_below HB3.out (Nat.le_refl _) _ _ _ _ _⟩
        · rcases hcase with rfl | ⟨rfl, rfl⟩ | ⟨rfl, rfl, rfl⟩ | ⟨rfl, rfl, rfl, hc⟩ | ⟨rfl, rfl, rfl, hc, ho⟩
          · go_wp2_with fail
            exact bodyPost_ret (v := .tuple #[.agg #[.int .u64 0, .int .u64 0, str [], .int .i64 0, str []], .int .i64 4]) (by simp [results, Tryz.results9, go_sem, k0, k1, k2, k3, k4]) rfl
              ⟨rfl, put5_below HB3.out (Nat.le_refl _) _ _ _ _ _⟩
          · go_wp2_with fail
            exact bodyPost_ret (v := .tuple #[.agg #[.int .u64 0, .int .u64 0, str [], .int .i64 0, str []], .int .i64 4]) (by simp [results, Tryz.results9, go_sem, k0, k1, k2, k3, k4]) rfl
              ⟨rfl, put5_below HB3.out (Nat.le_refl _) _ _ _ _ _⟩
          · go_wp2_with fail
            exact bodyPost_ret (v := .tuple #[.agg #[.int .u64 0, .int .u64 0, str [], .int .i64 0, str []], .int .i64 4]) (by simp [results, Tryz.results9, go_sem, k0, k1, k2, k3, k4]) rfl
              ⟨rfl, put5_below HB3.out (Nat.le_refl _) _ _ _ _ _⟩
          · have dc : decide ((2147483647 : Int) < (C0 : Int)) = true := decide_eq_true (by omega)
            have dc2 : (2147483647 : Int) < (C0 : Int) := by omega
            clear hc
            go_wp2_with fail
            exact bodyPost_ret (v := .tuple #[.agg #[.int .u64 0, .int .u64 0, str [], .int .i64 0, str []], .int .i64 4]) (by simp [results, Tryz.results9, go_sem, k0, k1, k2, k3, k4]) rfl
              ⟨rfl, put5_below HB3.out (Nat.le_refl _) _ _ _ _ _⟩
          · obtain rfl := HZ2.out ho
            have dc : decide ((2147483647 : Int) < (C0 : Int)) = false := decide_eq_false (by omega)
            have dc2 : ¬ (2147483647 : Int) < (C0 : Int) := by omega
            clear ho hc
            go_wp2_with fail
            exact bodyPost_ret (v := .tuple #[.agg #[.int .u64 0, .int .u64 0, str [], .int .i64 0, str []], .int .i64 4]) (by simp [results, Tryz.results9, go_sem, k0, k1, k2, k3, k4]) rfl
              ⟨rfl, put5_below HB3.out (Nat.le_refl _) _ _ _ _ _⟩
  · have hz : R = (⟨0, 0, [], 0, []⟩, 4) := by
      rw [HR.out]
      exact rdL_noR (fun q => hl (by have := q.1; rw [← HPS.out] at this; exact this))
    subst hz
    have hne : ((ps.length : Int) == 5) = false := by rw [beq_eq_false_iff_ne]; omega
    have hne2 : ((ps.length : Int) != 5) = true := by rw [bne_iff_ne]; omega
    obtain ⟨k0, k1, k2, k3, k4⟩ : w1.cell? ⟨w.heap.size, 0, none⟩ = some (.int .u64 0) ∧ w1.cell? ⟨w.heap.size, 1, none⟩ = some (.int .u64 0) ∧ w1.cell? ⟨w.heap.size, 2, none⟩ = some (str []) ∧ w1.cell? ⟨w.heap.size, 3, none⟩ = some (.int .i64 0) ∧ w1.cell? ⟨w.heap.size, 4, none⟩ = some (str []) := ⟨hk1.at (o := 0) rfl, hk1.at (o := 1) rfl, hk1.at (o := 2) rfl, hk1.at (o := 3) rfl, hk1.at (o := 4) rfl⟩
    have f0 := hk1.free 0
    have f1 := hk1.free 1
    have f2 := hk1.free 2
    have f3 := hk1.free 3
    have f4 := hk1.free 4
    have hlt := hk1.lt
    clear hk1 hl
    go_wp2_with fail
    exact bodyPost_ret (v := .tuple #[.agg #[.int .u64 0, .int .u64 0, str [], .int .i64 0, str []], .int .i64 4]) (by simp [results, Tryz.results9, go_sem, k0, k1, k2, k3, k4]) rfl
      ⟨rfl, put5_below HB1.out (Nat.le_refl _) _ _ _ _ _⟩
end Go.Proofs.YtoehkhbppmgfkaaGreatDoor
