/- The reference's Few. -/
import Derived.Test.YtajclihnoedecaaGreatDoorHdPi
import Derived.Test.YtajclihnoedecaaGreatDoorReg
import Derived.Test.YtajclihnoedecaaGreatDoorStrT
import Derived.Test.YtajclihnoedecaaGreatDoorCut
import Derived.Deep.RegionLaw
import Derived.Test.YtajclihnoedecaaGreatDoorHdRq
set_option maxRecDepth 100000
namespace Go.Proofs.YtajclihnoedecaaGreatDoor
open Go.RowKit Go.Shelf
def cutW (x : List UInt8 × List UInt8) : List UInt8 × List UInt8 := (x.1.take 12, x.2.take 2000)
def fewL (l : Prs) : Prs := (l.take 27).map cutW
theorem fewL_low (l : Prs) (k : Nat) (hk : k < l.length) (h : k < 27) : fewL (l.take (k + 1)) = fewL (l.take k) ++ [cutW l[k]] := by
  unfold fewL
  rw [List.take_take, List.take_take, Nat.min_eq_right (by omega), Nat.min_eq_right (by omega), take_snocG l k hk, List.map_append]; rfl
theorem fewL_high (l : Prs) (k : Nat) (h : ¬ k < 27) : fewL (l.take (k + 1)) = fewL (l.take k) := by
  unfold fewL
  rw [List.take_take, List.take_take, Nat.min_eq_left (by omega), Nat.min_eq_left (by omega)]
theorem fewL_len (l : Prs) : (fewL l).length ≤ 27 := by unfold fewL; rw [List.length_map, List.length_take]; omega
theorem fewL_mem (l : Prs) : ∀ x ∈ fewL l, x.1.length ≤ 12 ∧ x.2.length ≤ 2000 := by
  intro x hx
  unfold fewL at hx
  obtain ⟨y, _, rfl⟩ := List.mem_map.1 hx
  show (y.1.take 12).length ≤ 12 ∧ (y.2.take 2000).length ≤ 2000
  rw [List.length_take, List.length_take]; omega
theorem size_setCells_few (b : Nat) (vs : List Value) (w : World) (c : Obj) : ((w.drew.alloc c).setCells b 0 vs).heap.size = w.heap.size + 1 := by
  have h : ∀ (vs : List Value) (W : World) (o : Nat), (W.setCells b o vs).heap.size = W.heap.size := by
    intro vs
    induction vs with
    | nil => intro W o; rfl
    | cons v vs ih => intro W o; show ((W.setCell ⟨b, o, none⟩ v).setCells b (o + 1) vs).heap.size = _; rw [ih]; simp
  rw [h]; simp
def hdV (a b : List UInt8) (st : Int) (v : Value) : Value := .agg #[str a, str b, .int .i64 st, v]
set_option maxHeartbeats 1000000 in
theorem few_any (a b : List UInt8) (st : Int) (v0 : Value) (l : Prs) (asks : Bool) (w : World) (hv : PrIn w v0 l) (hbig : ∀ x ∈ l, x.1.length ≤ 9223372036854775807 ∧ x.2.length ≤ 9223372036854775807) (ha : a.length ≤ 9223372036854775807) (hb0 : b.length ≤ 9223372036854775807) :
    Calls Tryz.prog 12 #[.agg #[str a, str b, .int .i64 st, v0], .bool asks] w fun e w' => ∃ v, e = .returned (.agg #[str (a.take 100), str (if asks then b.take 2500 else []), .int .i64 (if asks then 0 else st), v]) ∧ OwnP w' w.heap.size v (fewL l) ∧ Below w.heap.size w w' := by
  have hk0 := (Blk.new w [str a, str b, .int .i64 st, v0] 29).alloc (.cells #[str [], str [], .int .i64 0, .slice none 0 0] 29)
  have hk1 := Blk.new (w.alloc (.cells [str a, str b, .int .i64 st, v0].toArray 29)) [str [], str [], .int .i64 0, .slice none 0 0] 29
  have hbw : Below w.heap.size w ((w.alloc (.cells #[str a, str b, .int .i64 st, v0] 29)).alloc (.cells #[str [], str [], .int .i64 0, .slice none 0 0] 29)) :=
    ((Below.refl _ w).alloc (Nat.le_refl _) _).alloc (by simp) _
  obtain ⟨w1, hw1⟩ : ∃ w1, w1 = (w.alloc (.cells #[str a, str b, .int .i64 st, v0] 29)).alloc (.cells #[str [], str [], .int .i64 0, .slice none 0 0] 29) := ⟨_, rfl⟩
  have hz1 : w1.heap.size = w.heap.size + 2 := by rw [hw1]; simp
  rw [World.size_alloc] at hk1
  rw [show [str a, str b, Value.int .i64 st, v0].toArray = #[str a, str b, .int .i64 st, v0] from rfl] at hk0 hk1
  rw [show [str [], str [], Value.int .i64 0, .slice none 0 0].toArray = #[str [], str [], .int .i64 0, .slice none 0 0] from rfl] at hk1
  rw [← hw1] at hbw hk0 hk1
  have HBW := Lib.hid hbw
  have HK0 := Lib.hid hk0
  have HK1 := Lib.hid hk1
  have HW1 := Lib.hid hw1
  have HZ1 := Lib.hid hz1
  have HV := Lib.hid (hv.below hbw)
  have HB1 := Lib.hid (Below.refl w1.heap.size w1)
  have HBIG := Lib.hid hbig
  have p3 := hk0.at (o := 3) rfl
  obtain ⟨A0, c0, rfl, hc0, hcm0, hq⟩ := hv
  clear hq hbig hbw hk0 hk1
  go_enter Tryz.func12, Tryz.ntmps12
  go_wp2_with fail
  go_loopw [5, 12] (fun v i wr => ∃ k : Nat, k ≤ l.length ∧ i = .int .i64 (k : Int) ∧ OwnP wr w1.heap.size v (fewL (l.take k)) ∧ Below w1.heap.size w1 wr) (fun _ i _ => l.length - (intOf i).toNat)
  case atStart => exact ⟨0, by omega, rfl, World.ownsRow_nil _ _ _ 2, by rw [HW1.out]; exact Below.refl _ _⟩
  case round =>
    obtain ⟨k, hk, rfl, hO, hb⟩ := hrel
    by_cases hlt : k < l.length
    · obtain ⟨A', c', he, _, _, hin⟩ := HV.out.below (hb.mono (Nat.le_refl _))
      injection he with he1 he2 he3
      subst he1 he3
      obtain ⟨g, o, rfl, d0, d1⟩ := hin k hlt
      clear hin he2
      have hbx := HBIG.out l[k] (List.getElem_mem hlt)
      have hlow := fewL_low l k hlt
      have hhigh := fewL_high l k
      obtain ⟨x, hx⟩ : ∃ x, x = l[k] := ⟨_, rfl⟩
      rw [← hx] at d0 d1 hbx hlow
      clear hx
      obtain ⟨q, r⟩ := x
      simp only at d0 d1 hbx
      have hll := fewL_len (l.take k)
      obtain ⟨L, hL⟩ : ∃ L, L = fewL (l.take k) := ⟨_, rfl⟩
      rw [← hL] at hO hlow hhigh hll
      have hz := hb.size
      have hb2 : Below w1.heap.size w1 (wr.alloc (.cells #[str q, str r] 51)) := hb.alloc hz _
      have HO := Lib.hid (hO.below ((Below.refl wr.heap.size wr).alloc (Nat.le_refl _) (.cells #[str q, str r] 51)))
      have HB2 := Lib.hid hb2
      have HLT := Lib.hid (fun kk (e : u5.ownBlock = some kk) => (World.ownsRow.lt hO kk e).2)
      have HLOW := Lib.hid hlow; have HHIGH := Lib.hid hhigh
      obtain ⟨hb1, hb2'⟩ := hbx
      have HC1 := Lib.hid (fun W => cutText_any q 12 W hb1 (by omega) (by omega))
      have HC2 := Lib.hid (fun W => cutText_any r 2000 W hb2' (by omega) (by omega))
      clear hL hO hb hb2 hlow hhigh hb1 hb2'
      by_cases h12 : k < 27
      · have h12' : (k : Int) < 27 := by omega
        have HS := Lib.hid (HLOW.out h12)
        clear h12 HLOW HHIGH
        have hX := Blk.new wr [str q, str r] 51
        obtain ⟨X, hXe⟩ : ∃ X, X = wr.alloc (.cells [str q, str r].toArray 51) := ⟨_, rfl⟩
        have hzX : X.heap.size = wr.heap.size + 1 := by rw [hXe]; simp
        have hXe2 : wr.alloc (.cells #[str q, str r] 51) = X := hXe.symm
        rw [← hXe] at hX
        rw [hXe2] at HO HB2
        have HX := Lib.hid hX
        have HXE := Lib.hid hXe2
        have HZX := Lib.hid hzX
        have hll2 : L.length ≤ 100000 := by omega
        clear hXe hXe2 hX hzX
        go_wp2_with fail
        rw [HXE.out]
        refine wp_region_noPanic ?_
        refine wp_region_held (S := fun W => W.cell? ⟨wr.heap.size, 0, none⟩ = some (str q) ∧ W.cell? ⟨wr.heap.size, 1, none⟩ = some (str r)) (by kernel_rfl) ?_
        change wpAnyH _ _ _ _ _ _ _ _ X.drew
        have hXd : X.drew.cell? ⟨wr.heap.size, 0, none⟩ = some (str q) ∧ X.drew.cell? ⟨wr.heap.size, 1, none⟩ = some (str r) := ⟨HX.out.at (o := 0) rfl, HX.out.at (o := 1) rfl⟩
        have HXD := Lib.hid hXd; clear hXd
        refine takeH 0 19 u5 rfl rfl (by kernel_rfl) (by kernel_rfl) (by kernel_rfl) (fun _ _ _ h => h) rfl (fun w' _ => by go_simp) HXD.out ?_
        go_frame
        refine takeH 1 20 (.pointer (some ⟨wr.heap.size, 0, none⟩)) rfl rfl (by kernel_rfl) (by kernel_rfl) (by kernel_rfl) (fun _ _ _ h => h) rfl (fun w' _ => by go_simp) HXD.out ?_
        go_frame
        refine takeH 2 21 (str q) rfl rfl (by kernel_rfl) (by kernel_rfl) (by kernel_rfl) (fun _ _ _ h => h) rfl (fun w' h => by obtain ⟨h0, h1⟩ := h; go_simp) HXD.out ?_
        go_frame
        refine takeH 4 23 (.pointer (some ⟨wr.heap.size, 1, none⟩)) rfl rfl (by kernel_rfl) (by kernel_rfl) (by kernel_rfl) (fun _ _ _ h => h) rfl (fun w' _ => by go_simp) HXD.out ?_
        go_frame
        refine takeH 5 24 (str r) rfl rfl (by kernel_rfl) (by kernel_rfl) (by kernel_rfl) (fun _ _ _ h => h) rfl (fun w' h => by obtain ⟨h0, h1⟩ := h; go_simp) HXD.out ?_
        go_frame
        refine wpAnyH_all (rs := [3]) (by kernel_rfl) (by simp) ?_
        simp only [List.mem_singleton, forall_eq]
        refine wpOp_callD 22 rfl rfl rfl 25 #[str q, .int .i64 12] (by go_simp) ?_
        refine (HC1.out _).mono ?_
        rintro e w4 ⟨rfl, rfl⟩
        refine ⟨_, rfl, HXD.out, ?_⟩
        go_frame
        refine wpAnyH_all (rs := [6]) (by kernel_rfl) (by simp) ?_
        simp only [List.mem_singleton, forall_eq]
        refine wpOp_callD 25 rfl rfl rfl 25 #[str r, .int .i64 2000] (by go_simp) ?_
        refine (HC2.out _).mono ?_
        rintro e w4 ⟨rfl, rfl⟩
        refine ⟨_, rfl, HXD.out, ?_⟩
        go_frame
        obtain ⟨Q1, hQ1⟩ : ∃ Q1, Q1 = q.take (12 : Int).toNat := ⟨_, rfl⟩
        obtain ⟨R1, hR1⟩ : ∃ R1, R1 = r.take (2000 : Int).toNat := ⟨_, rfl⟩
        rw [← hQ1, ← hR1]
        have HQR := Lib.hid (show cutW (q, r) = (Q1, R1) by rw [hQ1, hR1]; rfl)
        clear hQ1 hR1
        refine takeH 7 26 (.agg #[str Q1, str R1]) rfl rfl (by kernel_rfl) (by kernel_rfl) (by kernel_rfl) (fun _ _ _ h => h) rfl (fun w' _ => by go_simp) HXD.out ?_
        go_frame
        obtain ⟨Y, hY⟩ : ∃ Y, Y = X.drew.alloc (.cells #[str Q1, str R1] 51) := ⟨_, rfl⟩
        have hbX : Below X.heap.size X Y := by rw [hY]; exact ((Below.refl _ X).drew).alloc (Nat.le_refl _) _
        have hYn : Y.heap[X.heap.size]? = some (.cells #[str Q1, str R1] 51 (0, 0)) := by rw [hY]; exact heap_alloc_new X.drew _
        have hY0 : Y.cell? ⟨wr.heap.size, 0, none⟩ = some (str q) ∧ Y.cell? ⟨wr.heap.size, 1, none⟩ = some (str r) := ⟨cell_below (HX.out.at (o := 0) rfl) hbX, cell_below (HX.out.at (o := 1) rfl) hbX⟩
        refine wpAnyH_all (rs := [8]) (by kernel_rfl) (by simp) ?_
        simp only [List.mem_singleton, forall_eq]
        refine wpOp_valueW 27 rfl rfl rfl (.slice (some ⟨X.heap.size, 0, none⟩) 1 1) Y (by rw [hY]; go_simp) ⟨hY0, ?_⟩
        go_frame
        have HOW := Lib.hid (HO.out.below hbX)
        have hzY : w1.heap.size ≤ Y.heap.size := by have := hbX.size; have := HZX.out; omega
        have HBY := Lib.hid (HB2.out.trans (hbX.mono (by have := HZX.out; omega)))
        have hYX : X.heap.size < Y.heap.size := (Array.getElem?_eq_some_iff.1 hYn).1
        clear hY
        refine wpAnyH_all (rs := [9]) (by kernel_rfl) (by simp) ?_
        simp only [List.mem_singleton, forall_eq]
        refine wpOp_appP 28 rfl rfl rfl (.tmp 19) (.tmp 27) rfl w1.heap.size u5 L rfl HOW.out X.heap.size Q1 R1 rfl hYn hll2 hzY ?_
        intro v5 A1 hO5 hg5
        have hB5 := HBY.out.grown hg5 hzY (fun kk hkk => (World.ownsRow.lt HOW.out kk hkk).1)
        have hne : some wr.heap.size ≠ u5.ownBlock := fun e => by
          have := HLT.out _ e.symm; omega
        have hA0 : A1.cell? ⟨wr.heap.size, 0, none⟩ = some (str q) ∧ A1.cell? ⟨wr.heap.size, 1, none⟩ = some (str r) := by
          have hb := hg5.block wr.heap.size (by have := HZX.out; omega) hne
          exact ⟨(World.cell?_of_block (a := ⟨wr.heap.size, 0, none⟩) hb).trans hY0.1, (World.cell?_of_block (a := ⟨wr.heap.size, 1, none⟩) hb).trans hY0.2⟩
        refine ⟨hA0, ?_⟩
        go_frame
        have HO5 := Lib.hid hO5; have HB5 := Lib.hid hB5
        refine takeH 10 5 v5 rfl rfl (by kernel_rfl) (by kernel_rfl) (by kernel_rfl) (fun _ _ _ h => h) rfl (fun w' _ => by go_simp) hA0 ?_
        go_frame
        refine wpAnyH_done (by kernel_rfl) ?_ _
        refine NoPanic.normal ?_
        clear hO5 hg5 hB5 hA0 hne hYn hY0 hbX hzY hYX
        go_wp2_with fail
        go_roundw
        case rel => exact ⟨k + 1, by omega, by go_num, by rw [HS.out, HQR.out]; exact HO5.out, HB5.out⟩
        case measure => simp [intOf]; omega
      · have h12' : ¬ (k : Int) < 27 := by omega
        have HS := Lib.hid (HHIGH.out h12)
        clear h12 HLOW HHIGH
        go_wp2_with fail
        go_roundw
        case rel => exact ⟨k + 1, by omega, by go_num, by rw [HS.out]; exact HO.out, HB2.out⟩
        case measure => simp [intOf]; omega
    · have htk : l.take k = l := List.take_of_length_le (by omega)
      rw [htk] at hO
      obtain ⟨xs, hxs⟩ : ∃ xs, xs = fewL l := ⟨_, rfl⟩
      rw [← hxs] at hO
      obtain ⟨VA, VC, rfl⟩ := hO.form
      have HXS := Lib.hid hxs
      have hz := hb.size
      have hkr := HK0.out.below hb (by have := HZ1.out; omega)
      have hkt := HK1.out.below hb (by have := HZ1.out; omega)
      have HB2 := Lib.hid (HBW.out.trans (hb.mono HBW.out.size))
      have HO := Lib.hid hO
      have HKR := Lib.hid hkr
      have HKT := Lib.hid hkt
      have HC1 := Lib.hid (fun W => cutText_any a 100 W ha (by omega) (by omega))
      have HC2 := Lib.hid (fun W => cutText_any b 2500 W hb0 (by omega) (by omega))
      have HZ := Lib.hid hz
      have hXd : wr.drew.cell? ⟨w.heap.size, 0, none⟩ = some (str a) ∧ wr.drew.cell? ⟨w.heap.size, 2, none⟩ = some (.int .i64 st) := ⟨hkr.at (o := 0) rfl, hkr.at (o := 2) rfl⟩
      have HXD := Lib.hid hXd
      clear hXd hxs htk hO hb hz hkr hkt HV HBIG p3 ha hb0
      go_wp2_with fail
      refine wp_region_noPanic ?_
      refine wp_region_held (S := fun W => W.cell? ⟨w.heap.size, 0, none⟩ = some (str a) ∧ W.cell? ⟨w.heap.size, 2, none⟩ = some (.int .i64 st)) (by kernel_rfl) ?_
      change wpAnyH _ _ _ _ _ _ _ _ wr.drew
      refine takeH 0 30 (.pointer (some ⟨w.heap.size, 0, none⟩)) rfl rfl (by kernel_rfl) (by kernel_rfl) (by kernel_rfl) (fun _ _ _ h => h) rfl (fun w' _ => by go_simp) HXD.out ?_
      go_frame
      refine takeH 1 31 (str a) rfl rfl (by kernel_rfl) (by kernel_rfl) (by kernel_rfl) (fun _ _ _ h => h) rfl (fun w' h => by obtain ⟨h0, h1⟩ := h; go_simp) HXD.out ?_
      go_frame
      refine takeH 3 33 (.pointer (some ⟨w.heap.size, 2, none⟩)) rfl rfl (by kernel_rfl) (by kernel_rfl) (by kernel_rfl) (fun _ _ _ h => h) rfl (fun w' _ => by go_simp) HXD.out ?_
      go_frame
      refine takeH 4 34 (.int .i64 st) rfl rfl (by kernel_rfl) (by kernel_rfl) (by kernel_rfl) (fun _ _ _ h => h) rfl (fun w' h => by obtain ⟨h0, h1⟩ := h; go_simp) HXD.out ?_
      go_frame
      refine takeH 5 35 (.slice VA xs.length VC) rfl rfl (by kernel_rfl) (by kernel_rfl) (by kernel_rfl) (fun _ _ _ h => h) rfl (fun w' _ => by go_simp) HXD.out ?_
      go_frame
      obtain ⟨A1, hA1⟩ : ∃ A1, A1 = a.take (100 : Int).toNat := ⟨_, rfl⟩
      rw [← hA1] at HC1
      obtain ⟨B1, hB1⟩ : ∃ B1, B1 = b.take (2500 : Int).toNat := ⟨_, rfl⟩
      rw [← hB1] at HC2
      have HB1Y := Lib.hid (show b.take 2500 = B1 from hB1.symm)
      clear hB1
      have HA1 := Lib.hid (show a.take 100 = A1 from hA1.symm)
      have hY0 : (wr.drew.alloc (.cells #[str [], str [], .int .i64 0, .slice none 0 0] 29)).cell? ⟨w.heap.size, 0, none⟩ = some (str a) ∧ (wr.drew.alloc (.cells #[str [], str [], .int .i64 0, .slice none 0 0] 29)).cell? ⟨w.heap.size, 2, none⟩ = some (.int .i64 st) := ⟨(HKR.out.drew.alloc _).at (o := 0) rfl, (HKR.out.drew.alloc _).at (o := 2) rfl⟩
      have HY0 := Lib.hid hY0
      have hbl := Blk.newA wr.drew #[str [], str [], .int .i64 0, .slice none 0 0] 29
      have HBL := Lib.hid hbl
      clear hA1 hY0 hbl
      refine wpAnyH_all (rs := [2, 7]) (by kernel_rfl) (by simp) ?_
      intro i hi
      simp only [List.mem_cons, List.not_mem_nil, or_false] at hi
      rcases hi with rfl | rfl
      · skip
        refine wpOp_callD 32 rfl rfl rfl 25 #[str a, .int .i64 100] (by go_simp) ?_
        refine (HC1.out _).mono ?_
        rintro e w4 ⟨rfl, rfl⟩
        refine ⟨_, rfl, HXD.out, ?_⟩
        go_frame
        refine takeH 6 36 (.agg #[str A1, str [], .int .i64 st, .slice VA xs.length VC]) rfl rfl (by kernel_rfl) (by kernel_rfl) (by kernel_rfl) (fun _ _ _ h => h) rfl (fun w' _ => by go_simp) HXD.out ?_
        go_frame
        refine wpAnyH_all (rs := [7]) (by kernel_rfl) (by simp) ?_
        simp only [List.mem_singleton, forall_eq]
        refine wpOp_valueW 8 rfl rfl rfl (.pointer (some ⟨wr.heap.size, 0, none⟩)) (wr.drew.alloc (.cells #[str [], str [], .int .i64 0, .slice none 0 0] 29)) (by go_simp) ⟨HY0.out, ?_⟩
        go_frame
        have hbz : Below wr.heap.size wr ((wr.drew.alloc (.cells #[str [], str [], .int .i64 0, .slice none 0 0] 29)).setCells wr.heap.size 0 [str A1, str [], .int .i64 st, .slice VA xs.length VC]) := below_setCells (Nat.le_refl _) _ (((Below.refl _ wr).drew).alloc (Nat.le_refl _) _) 0
        have hzn : Blk ((wr.drew.alloc (.cells #[str [], str [], .int .i64 0, .slice none 0 0] 29)).setCells wr.heap.size 0 [str A1, str [], .int .i64 st, .slice VA xs.length VC]) wr.heap.size [str A1, str [], .int .i64 st, .slice VA xs.length VC] := HBL.out.setAll rfl
        have ht := HBL.out.there 0 4 (Nat.le_refl _)
        have hzz : ((wr.drew.alloc (.cells #[str [], str [], .int .i64 0, .slice none 0 0] 29)).setCells wr.heap.size 0 [str A1, str [], .int .i64 st, .slice VA xs.length VC]).heap.size = wr.heap.size + 1 := by have := (grown_setCells wr.heap.size [str A1, str [], .int .i64 st, .slice VA xs.length VC] (wr.drew.alloc (.cells #[str [], str [], .int .i64 0, .slice none 0 0] 29)) 0); exact size_setCells_few _ _ _ _
        refine wpAnyH_all (rs := [8]) (by kernel_rfl) (by simp) ?_
        simp only [List.mem_singleton, forall_eq]
        obtain ⟨Z, hZ⟩ : ∃ Z, Z = (wr.drew.alloc (.cells #[str [], str [], .int .i64 0, .slice none 0 0] 29)).setCells wr.heap.size 0 [str A1, str [], .int .i64 st, .slice VA xs.length VC] := ⟨_, rfl⟩
        rw [← hZ] at hbz hzn hzz
        have hz0 := HKR.out.below hbz HKR.out.lt
        have hzt := HKT.out.below hbz HKT.out.lt
        have HZO := Lib.hid (HO.out.below hbz)
        have HZB := Lib.hid (HB2.out.trans (hbz.mono (HB2.out.size)))
        refine wpOp_storeN rfl rfl rfl 29 (.tmp 8) (.tmp 36) rfl wr.heap.size 0 #[str A1, str [], .int .i64 st, .slice VA xs.length VC] rfl rfl ht (by kernel_rfl) (by simp [Value.oneCell']) ?_
        rw [show (#[str A1, str [], .int .i64 st, .slice VA xs.length VC] : Array Value).toList = [str A1, str [], .int .i64 st, .slice VA xs.length VC] from rfl, ← hZ]
        refine ⟨⟨hz0.at (o := 0) rfl, hz0.at (o := 2) rfl⟩, wpAnyH_done (by kernel_rfl) ?_ _⟩
        refine NoPanic.normal ?_
        have HZ2 := Lib.hid hbz
        have p1 := hz0.at (o := 1) rfl
        have n0 := hzn.at (o := 0) rfl
        have n1 := hzn.at (o := 1) rfl
        have n2 := hzn.at (o := 2) rfl
        have n3 := hzn.at (o := 3) rfl
        have m1 := hzn.free 1
        have m2 := hzn.free 2
        have q0 := hzt.at (o := 0) rfl
        have q1 := hzt.at (o := 1) rfl
        have q2 := hzt.at (o := 2) rfl
        have q3 := hzt.at (o := 3) rfl
        have r0 := hzt.free 0
        have r1 := hzt.free 1
        have r2 := hzt.free 2
        have r3 := hzt.free 3
        have hne : w.heap.size + 1 ≠ wr.heap.size := by have := HKT.out.lt; omega
        have hne2 : wr.heap.size ≠ w.heap.size + 1 := fun e => hne e.symm
        have hne3 : w.heap.size ≠ wr.heap.size := by have := HKT.out.lt; omega
        have hlt1 : wr.heap.size < Z.heap.size := hzn.lt
        have hlt2 : w.heap.size + 1 < Z.heap.size := hzt.lt
        clear hbz hzn hz0 hzt hZ ht hzz
        cases asks
        · go_wp2_with fail
          have hBf : Below w.heap.size w ((((Z.setCell ⟨w.heap.size + 1, 0, none⟩ (str A1)).setCell ⟨w.heap.size + 1, 1, none⟩ (str [])).setCell ⟨w.heap.size + 1, 2, none⟩ (.int .i64 st)).setCell ⟨w.heap.size + 1, 3, none⟩ (.slice VA xs.length VC)) := ((((((((HZB.out).setCell (p := ⟨w.heap.size + 1, 0, none⟩) (Nat.le_succ _) _)).setCell (p := ⟨w.heap.size + 1, 1, none⟩) (Nat.le_succ _) _)).setCell (p := ⟨w.heap.size + 1, 2, none⟩) (Nat.le_succ _) _)).setCell (p := ⟨w.heap.size + 1, 3, none⟩) (Nat.le_succ _) _)
          have hOf := OwnP.le (base' := w.heap.size) ((((((((HZO.out).set (b := w.heap.size + 1) (i := 0) (by have := HZ1.out; omega) (str A1))).set (b := w.heap.size + 1) (i := 1) (by have := HZ1.out; omega) (str []))).set (b := w.heap.size + 1) (i := 2) (by have := HZ1.out; omega) (.int .i64 st))).set (b := w.heap.size + 1) (i := 3) (by have := HZ1.out; omega) (.slice VA xs.length VC)) (by have := HZ1.out; omega)
          exact bodyPost_ret (v := .agg #[(str A1), (str []), (.int .i64 st), (.slice VA xs.length VC)]) (by simp [results, Tryz.results12, go_sem, q0, q1, q2, q3]) rfl ⟨.slice VA xs.length VC, by rw [HA1.out], by rw [← HXS.out]; exact hOf, hBf⟩
        · go_wp2_with fail
          refine (HC2.out _).mono ?_
          rintro e w5 ⟨rfl, rfl⟩
          go_wp2_with fail
          have hzle : w.heap.size ≤ wr.heap.size := by have := HZ.out; have := HZ1.out; omega
          have hBf : Below w.heap.size w ((((((Z.setCell ⟨wr.heap.size, 1, none⟩ (str B1)).setCell ⟨wr.heap.size, 2, none⟩ (.int .i64 0)).setCell ⟨w.heap.size + 1, 0, none⟩ (str A1)).setCell ⟨w.heap.size + 1, 1, none⟩ (str B1)).setCell ⟨w.heap.size + 1, 2, none⟩ (.int .i64 0)).setCell ⟨w.heap.size + 1, 3, none⟩ (.slice VA xs.length VC)) := (((((((((HZB.out.setCell (p := ⟨wr.heap.size, 1, none⟩) hzle _).setCell (p := ⟨wr.heap.size, 2, none⟩) hzle _).setCell (p := ⟨w.heap.size + 1, 0, none⟩) (Nat.le_succ _) _)).setCell (p := ⟨w.heap.size + 1, 1, none⟩) (Nat.le_succ _) _)).setCell (p := ⟨w.heap.size + 1, 2, none⟩) (Nat.le_succ _) _)).setCell (p := ⟨w.heap.size + 1, 3, none⟩) (Nat.le_succ _) _)
          have hOf := OwnP.le (base' := w.heap.size) (((((((((HO.out.below ((HZ2.out.setCell (p := ⟨wr.heap.size, 1, none⟩) (Nat.le_refl _) (str B1)).setCell (p := ⟨wr.heap.size, 2, none⟩) (Nat.le_refl _) (.int .i64 0)))).set (b := w.heap.size + 1) (i := 0) (by have := HZ1.out; omega) (str A1))).set (b := w.heap.size + 1) (i := 1) (by have := HZ1.out; omega) (str B1))).set (b := w.heap.size + 1) (i := 2) (by have := HZ1.out; omega) (.int .i64 0))).set (b := w.heap.size + 1) (i := 3) (by have := HZ1.out; omega) (.slice VA xs.length VC)) (by have := HZ1.out; omega)
          exact bodyPost_ret (v := .agg #[(str A1), (str B1), (.int .i64 0), (.slice VA xs.length VC)]) (by simp [results, Tryz.results12, go_sem, q0, q1, q2, q3]) rfl ⟨.slice VA xs.length VC, by rw [HA1.out, HB1Y.out], by rw [← HXS.out]; exact hOf, hBf⟩
      · skip
        refine wpOp_valueW 8 rfl rfl rfl (.pointer (some ⟨wr.heap.size, 0, none⟩)) (wr.drew.alloc (.cells #[str [], str [], .int .i64 0, .slice none 0 0] 29)) (by go_simp) ⟨HY0.out, ?_⟩
        go_frame
        refine wpAnyH_all (rs := [2]) (by kernel_rfl) (by simp) ?_
        simp only [List.mem_singleton, forall_eq]
        refine wpOp_callD 32 rfl rfl rfl 25 #[str a, .int .i64 100] (by go_simp) ?_
        refine (HC1.out _).mono ?_
        rintro e w4 ⟨rfl, rfl⟩
        refine ⟨_, rfl, HY0.out, ?_⟩
        go_frame
        refine takeH 6 36 (.agg #[str A1, str [], .int .i64 st, .slice VA xs.length VC]) rfl rfl (by kernel_rfl) (by kernel_rfl) (by kernel_rfl) (fun _ _ _ h => h) rfl (fun w' _ => by go_simp) HY0.out ?_
        go_frame
        have hbz : Below wr.heap.size wr ((wr.drew.alloc (.cells #[str [], str [], .int .i64 0, .slice none 0 0] 29)).setCells wr.heap.size 0 [str A1, str [], .int .i64 st, .slice VA xs.length VC]) := below_setCells (Nat.le_refl _) _ (((Below.refl _ wr).drew).alloc (Nat.le_refl _) _) 0
        have hzn : Blk ((wr.drew.alloc (.cells #[str [], str [], .int .i64 0, .slice none 0 0] 29)).setCells wr.heap.size 0 [str A1, str [], .int .i64 st, .slice VA xs.length VC]) wr.heap.size [str A1, str [], .int .i64 st, .slice VA xs.length VC] := HBL.out.setAll rfl
        have ht := HBL.out.there 0 4 (Nat.le_refl _)
        have hzz : ((wr.drew.alloc (.cells #[str [], str [], .int .i64 0, .slice none 0 0] 29)).setCells wr.heap.size 0 [str A1, str [], .int .i64 st, .slice VA xs.length VC]).heap.size = wr.heap.size + 1 := by have := (grown_setCells wr.heap.size [str A1, str [], .int .i64 st, .slice VA xs.length VC] (wr.drew.alloc (.cells #[str [], str [], .int .i64 0, .slice none 0 0] 29)) 0); exact size_setCells_few _ _ _ _
        refine wpAnyH_all (rs := [8]) (by kernel_rfl) (by simp) ?_
        simp only [List.mem_singleton, forall_eq]
        obtain ⟨Z, hZ⟩ : ∃ Z, Z = (wr.drew.alloc (.cells #[str [], str [], .int .i64 0, .slice none 0 0] 29)).setCells wr.heap.size 0 [str A1, str [], .int .i64 st, .slice VA xs.length VC] := ⟨_, rfl⟩
        rw [← hZ] at hbz hzn hzz
        have hz0 := HKR.out.below hbz HKR.out.lt
        have hzt := HKT.out.below hbz HKT.out.lt
        have HZO := Lib.hid (HO.out.below hbz)
        have HZB := Lib.hid (HB2.out.trans (hbz.mono (HB2.out.size)))
        refine wpOp_storeN rfl rfl rfl 29 (.tmp 8) (.tmp 36) rfl wr.heap.size 0 #[str A1, str [], .int .i64 st, .slice VA xs.length VC] rfl rfl ht (by kernel_rfl) (by simp [Value.oneCell']) ?_
        rw [show (#[str A1, str [], .int .i64 st, .slice VA xs.length VC] : Array Value).toList = [str A1, str [], .int .i64 st, .slice VA xs.length VC] from rfl, ← hZ]
        refine ⟨⟨hz0.at (o := 0) rfl, hz0.at (o := 2) rfl⟩, wpAnyH_done (by kernel_rfl) ?_ _⟩
        refine NoPanic.normal ?_
        have HZ2 := Lib.hid hbz
        have p1 := hz0.at (o := 1) rfl
        have n0 := hzn.at (o := 0) rfl
        have n1 := hzn.at (o := 1) rfl
        have n2 := hzn.at (o := 2) rfl
        have n3 := hzn.at (o := 3) rfl
        have m1 := hzn.free 1
        have m2 := hzn.free 2
        have q0 := hzt.at (o := 0) rfl
        have q1 := hzt.at (o := 1) rfl
        have q2 := hzt.at (o := 2) rfl
        have q3 := hzt.at (o := 3) rfl
        have r0 := hzt.free 0
        have r1 := hzt.free 1
        have r2 := hzt.free 2
        have r3 := hzt.free 3
        have hne : w.heap.size + 1 ≠ wr.heap.size := by have := HKT.out.lt; omega
        have hne2 : wr.heap.size ≠ w.heap.size + 1 := fun e => hne e.symm
        have hne3 : w.heap.size ≠ wr.heap.size := by have := HKT.out.lt; omega
        have hlt1 : wr.heap.size < Z.heap.size := hzn.lt
        have hlt2 : w.heap.size + 1 < Z.heap.size := hzt.lt
        clear hbz hzn hz0 hzt hZ ht hzz
        cases asks
        · go_wp2_with fail
          have hBf : Below w.heap.size w ((((Z.setCell ⟨w.heap.size + 1, 0, none⟩ (str A1)).setCell ⟨w.heap.size + 1, 1, none⟩ (str [])).setCell ⟨w.heap.size + 1, 2, none⟩ (.int .i64 st)).setCell ⟨w.heap.size + 1, 3, none⟩ (.slice VA xs.length VC)) := ((((((((HZB.out).setCell (p := ⟨w.heap.size + 1, 0, none⟩) (Nat.le_succ _) _)).setCell (p := ⟨w.heap.size + 1, 1, none⟩) (Nat.le_succ _) _)).setCell (p := ⟨w.heap.size + 1, 2, none⟩) (Nat.le_succ _) _)).setCell (p := ⟨w.heap.size + 1, 3, none⟩) (Nat.le_succ _) _)
          have hOf := OwnP.le (base' := w.heap.size) ((((((((HZO.out).set (b := w.heap.size + 1) (i := 0) (by have := HZ1.out; omega) (str A1))).set (b := w.heap.size + 1) (i := 1) (by have := HZ1.out; omega) (str []))).set (b := w.heap.size + 1) (i := 2) (by have := HZ1.out; omega) (.int .i64 st))).set (b := w.heap.size + 1) (i := 3) (by have := HZ1.out; omega) (.slice VA xs.length VC)) (by have := HZ1.out; omega)
          exact bodyPost_ret (v := .agg #[(str A1), (str []), (.int .i64 st), (.slice VA xs.length VC)]) (by simp [results, Tryz.results12, go_sem, q0, q1, q2, q3]) rfl ⟨.slice VA xs.length VC, by rw [HA1.out], by rw [← HXS.out]; exact hOf, hBf⟩
        · go_wp2_with fail
          refine (HC2.out _).mono ?_
          rintro e w5 ⟨rfl, rfl⟩
          go_wp2_with fail
          have hzle : w.heap.size ≤ wr.heap.size := by have := HZ.out; have := HZ1.out; omega
          have hBf : Below w.heap.size w ((((((Z.setCell ⟨wr.heap.size, 1, none⟩ (str B1)).setCell ⟨wr.heap.size, 2, none⟩ (.int .i64 0)).setCell ⟨w.heap.size + 1, 0, none⟩ (str A1)).setCell ⟨w.heap.size + 1, 1, none⟩ (str B1)).setCell ⟨w.heap.size + 1, 2, none⟩ (.int .i64 0)).setCell ⟨w.heap.size + 1, 3, none⟩ (.slice VA xs.length VC)) := (((((((((HZB.out.setCell (p := ⟨wr.heap.size, 1, none⟩) hzle _).setCell (p := ⟨wr.heap.size, 2, none⟩) hzle _).setCell (p := ⟨w.heap.size + 1, 0, none⟩) (Nat.le_succ _) _)).setCell (p := ⟨w.heap.size + 1, 1, none⟩) (Nat.le_succ _) _)).setCell (p := ⟨w.heap.size + 1, 2, none⟩) (Nat.le_succ _) _)).setCell (p := ⟨w.heap.size + 1, 3, none⟩) (Nat.le_succ _) _)
          have hOf := OwnP.le (base' := w.heap.size) (((((((((HO.out.below ((HZ2.out.setCell (p := ⟨wr.heap.size, 1, none⟩) (Nat.le_refl _) (str B1)).setCell (p := ⟨wr.heap.size, 2, none⟩) (Nat.le_refl _) (.int .i64 0)))).set (b := w.heap.size + 1) (i := 0) (by have := HZ1.out; omega) (str A1))).set (b := w.heap.size + 1) (i := 1) (by have := HZ1.out; omega) (str B1))).set (b := w.heap.size + 1) (i := 2) (by have := HZ1.out; omega) (.int .i64 0))).set (b := w.heap.size + 1) (i := 3) (by have := HZ1.out; omega) (.slice VA xs.length VC)) (by have := HZ1.out; omega)
          exact bodyPost_ret (v := .agg #[(str A1), (str B1), (.int .i64 0), (.slice VA xs.length VC)]) (by simp [results, Tryz.results12, go_sem, q0, q1, q2, q3]) rfl ⟨.slice VA xs.length VC, by rw [HA1.out, HB1Y.out], by rw [← HXS.out]; exact hOf, hBf⟩
end Go.Proofs.YtajclihnoedecaaGreatDoor
