/- The law's do on two nil Tables. -/
import Derived.Test.YtipgjpmaflcpkaaTeSame2
set_option maxRecDepth 100000
namespace Go.Proofs.Ytipgjpmaflcpkaa
open Go.RowKit Go.Shelf
attribute [local go_sem] Oper.semAt_some
set_option maxHeartbeats 2000000 in
theorem prune_nil (p3 : Addr) (w : World) : Calls Try.prog 19 #[tN, gvS p3] w fun e w' => e = .returned (.int .i64 0) ∧ Below w.heap.size w w' := by
  refine (callsIn_wide (n := 12)).1 ?_
  refine callsIn_of_wp_marks Try.func19 rfl trivial ?_ rfl
  simp only [Try.ntmps19, List.size_toArray, List.length_cons, List.length_nil, Nat.reduceAdd, Nat.reduceSub, Array.replicate_succ, Array.replicate_zero, List.push_toArray, List.append_toArray, List.nil_append, List.cons_append]
  gi_wp2
  refine ⟨trivial, (callsIn_wide.2 (all_nil _)).mono ?_⟩
  rintro e w3 ⟨rfl, hw3⟩
  have hB3 : Below w.heap.size w w3 := by rw [hw3]; exact ((((Below.refl _ w).alloc (Nat.le_refl _) _).alloc (by simp) _).alloc (by simp; omega) _).alloc (by simp; omega) _
  have hq : Boxed w3 (w.heap.size + 2) 3 (.int .i64 0) ∧ Boxed w3 (w.heap.size + 3) 24 tN ∧ w3.heap.size = w.heap.size + 4 := by
    have q2 := Boxed.new ((w.alloc (.cells #[tN] 24)).alloc (.cells #[gvS p3] 55)) 3 (.int .i64 0)
    have q3 := Boxed.new (((w.alloc (.cells #[tN] 24)).alloc (.cells #[gvS p3] 55)).alloc (.cells #[.int .i64 0] 3)) 24 tN
    simp only [World.size_alloc] at q2 q3
    refine ⟨?_, ?_, ?_⟩
    · rw [hw3]; exact q2.alloc _
    · rw [hw3]; exact q3
    · rw [hw3]; simp
  simp only [World.size_alloc, Nat.add_assoc, Nat.reduceAdd]
  clear hw3
  obtain ⟨hb2, hb3, hz3⟩ := hq
  have HSQ := Lib.hid (all1_nil (12 - 1) (by omega) (w.heap.size + 3) w3 KE hb3)
  have HB3 := Lib.hid hB3
  have H2 := Lib.hid hb2
  clear hb2 hb3 hB3
  gi_wp2
  refine wpIn_rangeFunc_g rfl (by omega) (gf := aF) (lb := #[.pointer (some ⟨w.heap.size + 3, 0, none⟩)]) rfl trivial (fun _ _ => rfl) (encs := fun x : List UInt8 × VT => #[strT x.1, vv x.2]) StR KE (fun _ pre x _ => pre ++ [x] <+: []) (fun ys => ys = []) (fun _ => True)
    (fun _ A => Boxed A (w.heap.size + 2) 3 (.int .i64 0) ∧ Below w.heap.size w A) (fun _ _ _ => False)
    HSQ.out (fun _ _ _ => trivial) (fun _ => rfl)
    (fun _ _ _ _ h _ hk => h.block _ hk) (fun _ _ _ h => h.size) (fun _ _ _ h k => fun a b c d => k a b c (h a b c d)) (fun W l o o' _ h hc => fun k c f ho => kc_putObj (b := 0) h hc k c tE f (Nat.zero_le _) ho)
    (fun pre A B h hst => ⟨(hst.block _ h.1.lt).trans h.1, h.2.trans (hst.mono h.2.size)⟩) (fun _ _ _ _ h _ => h)
    (fun pre A l o o' h hl ho hc => ⟨kc_putObj (b := 0) ho hc _ _ _ _ (Nat.zero_le _) h.1, below_putObj h.2 h.2.size (by omega)⟩) (fun _ _ _ _ _ _ h _ _ _ => h)
    (fun _ _ _ _ _ _ _ h _ _ _ => h)
    (fun W' hb hs => ⟨(hb.block _ H2.out.lt).trans H2.out, HB3.out.trans (hb.mono HB3.out.size)⟩)
    (fun _ _ => True)
    ?assign ?body ?done ?stop
  case assign =>
    rintro k x A K hK
    have HK := Lib.hid hK; clear hK
    unfold vv
    gi_wp2
    exact HK.out _ trivial
  case stop => exact fun _ _ _ _ _ _ h => h.elim
  case done =>
    rintro D ys A hD hz rfl hJ hK
    have c2 := hJ.1.cell
    gi_wp2
    show LeavesInM _ _ _ _ _ _ _ _ _
    refine ⟨by simp, .inl ⟨_, _, rfl, run_takeDeferred hK, ?_⟩⟩
    exact ⟨_, results_tmp rfl _ _ _, rfl, below_putObj hJ.2 hJ.2.size (by omega)⟩
  case body =>
    rintro lp bb pre x a' A hbb hbz hJ hpre _
    have := hpre.length_le
    simp at this
set_option maxHeartbeats 4000000 in
theorem do_nil (d : Int) (s : List UInt8) (v : Int) (w : World) (hd0 : 0 ≤ d) (hd1 : d ≤ 255) (hs : s.length ≤ 9223372036854775807) :
    Calls Try.prog 7 #[tN, tN, .agg #[.int .u8 d, strT s, .int .i64 v]] w fun e w' => e = .returned (.bool true) ∧ Below w.heap.size w w' := by
  obtain ⟨k, hk⟩ : ∃ k, k = s.take 12 := ⟨_, rfl⟩
  have hr3 := r3_lo v
  obtain ⟨W, hW⟩ : ∃ W, W = (w.alloc (.cells #[.int .u8 d, strT s, .int .i64 v] tO)).alloc (.cells #[.int .i64 (v.tmod 3 % 3)] 3) := ⟨_, rfl⟩
  have hB : Below w.heap.size w W := by rw [hW]; exact ((Below.refl _ w).alloc (Nat.le_refl _) _).alloc (by simp) _
  have hP : BlkT W w.heap.size tO [.int .u8 d, strT s, .int .i64 v] := by rw [hW]; exact BlkT.alloc (heap_alloc_new w _) _
  have hR : BlkT W (w.heap.size + 1) 3 [.int .i64 (v.tmod 3 % 3)] := by
    rw [hW]
    have := heap_alloc_new (w.alloc (.cells #[.int .u8 d, strT s, .int .i64 v] tO)) (.cells #[.int .i64 (v.tmod 3 % 3)] 3)
    rwa [World.size_alloc] at this
  have HB := Lib.hid hB
  have HP := Lib.hid hP
  have HR := Lib.hid hR
  clear hB hP hR
  have c0 : (w.alloc (.cells #[.int .u8 d, strT s, .int .i64 v] tO)).cell? ⟨w.heap.size, 0, none⟩ = some (.int .u8 d) := BlkT.at (heap_alloc_new w (.cells #[.int .u8 d, strT s, .int .i64 v] tO)) rfl
  go_enter Try.func7, Try.ntmps7
  go_wp2_with fail
  refine (cutText_any s 12 _ hs (by omega) (by omega)).mono ?_
  rintro e w1 ⟨rfl, rfl⟩
  rw [show ((12 : Int).toNat) = 12 from rfl, ← hk]
  clear hk
  go_wp2_with fail
  · -- Set
    rw [← hW]
    have e2 : W.cell? ⟨w.heap.size, 2, none⟩ = some (.int .i64 v) := HP.out.at rfl
    clear hW c0
    go_region_held3 (fun w' => w'.cell? ⟨w.heap.size, 2, none⟩ = some (.int .i64 v)) (first | exact e4 | exact e2 | go_keep)
      (first
        | (go_at_call 14; refine (set_nil k v _).mono ?_; rintro e w3 ⟨rfl, rfl⟩)
        | (go_at_call 15; refine (set_nilX (strT k) _ _).mono ?_; rintro e w4 ⟨rfl, hb4⟩; have e4 : w4.cell? ⟨w.heap.size, 2, none⟩ = some (.int .i64 v) := (HP.out.drew.below hb4 HP.out.lt).at rfl; have HB4 := Lib.hid hb4; clear hb4))
    all_goals
      go_wp2_with fail
      go_ret
      exact ⟨by simp, HB.out.trans ((Below.refl W.heap.size W).drew.trans HB4.out |>.mono HB.out.size)⟩
  · -- Drop
    rw [← hW]
    clear hW c0
    refine (drop_nil k _).mono ?_
    rintro e w3 ⟨rfl, rfl⟩
    go_wp2_with fail
    refine (drop_nilX (strT k) _).mono ?_
    rintro e w4 ⟨rfl, hb4⟩
    have HB4 := Lib.hid hb4
    clear hb4
    go_wp2_with fail
    go_ret
    exact ⟨by simp, HB.out.trans (HB4.out.mono HB.out.size)⟩
  · -- Renew
    rw [← hW]
    clear hW c0
    refine (renew_nil k _).mono ?_
    rintro e w3 ⟨rfl, rfl⟩
    go_wp2_with fail
    refine (renew_nilX (strT k) _).mono ?_
    rintro e w4 ⟨rfl, hb4⟩
    have HB4 := Lib.hid hb4
    clear hb4
    go_wp2_with fail
    go_ret
    exact ⟨by simp, HB.out.trans (HB4.out.mono HB.out.size)⟩
  · -- Prune
    rw [← hW]
    have hmf : ∀ (fn : Fn) (first cap : Array Value) (w : World), (Instr.makeFunc fn first cap).run Try.prog w = .ok (.func fn first cap) w := fun _ _ _ _ => rfl
    have e2 : W.cell? ⟨w.heap.size + 1, 0, none⟩ = some (.int .i64 (v.tmod 3 % 3)) := HR.out.at rfl
    clear hW c0
    go_region_held3 (fun w' => w'.cell? ⟨w.heap.size + 1, 0, none⟩ = some (.int .i64 (v.tmod 3 % 3))) (first | exact e4 | exact e3 | go_keep)
      (first
        | (go_at_call 19; refine (prune_nil _ _).mono ?_; rintro e w3 ⟨rfl, hb3⟩; have e3 : w3.cell? ⟨w.heap.size + 1, 0, none⟩ = some (.int .i64 (v.tmod 3 % 3)) := (HR.out.drew.below hb3 HR.out.lt).at rfl; have HB3 := Lib.hid hb3; clear hb3)
        | (go_at_call 21; refine (prune_nilX _ _).mono ?_; rintro e w4 ⟨rfl, hb4⟩; have e4 : w4.cell? ⟨w.heap.size + 1, 0, none⟩ = some (.int .i64 (v.tmod 3 % 3)) := ((HR.out.drew.below HB3.out HR.out.lt).below hb4 (by have := HB3.out.size; have := HR.out.lt; simp at *; omega)).at rfl; have HB4 := Lib.hid hb4; clear hb4))
    all_goals
      go_wp2_with fail
      go_ret
      exact ⟨by simp, HB.out.trans (((Below.refl W.heap.size W).drew.trans (HB3.out.trans (HB4.out.mono HB3.out.size))).mono HB.out.size)⟩
  · -- Put
    rw [← hW]
    have e2 : W.cell? ⟨w.heap.size, 2, none⟩ = some (.int .i64 v) := HP.out.at rfl
    clear hW c0
    go_region_held3 (fun w' => w'.cell? ⟨w.heap.size, 2, none⟩ = some (.int .i64 v)) (first | exact e4 | exact e2 | go_keep)
      (first
        | (go_at_call 11; refine (put_nil k v _).mono ?_; rintro e w3 ⟨rfl, rfl⟩)
        | (go_at_call 22; refine (put_nilX (strT k) _ _).mono ?_; rintro e w4 ⟨rfl, hb4⟩; have e4 : w4.cell? ⟨w.heap.size, 2, none⟩ = some (.int .i64 v) := (HP.out.drew.below hb4 HP.out.lt).at rfl; have HB4 := Lib.hid hb4; clear hb4))
    all_goals
      go_wp2_with fail
      go_ret
      exact ⟨by simp, HB.out.trans ((Below.refl W.heap.size W).drew.trans HB4.out |>.mono HB.out.size)⟩
end Go.Proofs.Ytipgjpmaflcpkaa
