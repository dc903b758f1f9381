/- sha.Load. -/
import Derived.Test.YtkbelfoeofhppaaDoorShaSave
import Derived.Test.YtkbelfoeofhppaaDoorSame
import Derived.Test.YtkbelfoeofhppaaDoorRefGo
namespace Go.Proofs.YtkbelfoeofhppaaDoor
open Go.RowKit
/-- The state that bytes are. -/
def stB (p : List UInt8) : St := ⟨bword p 0, bword p 1, bword p 2, bword p 3, bword p 4, bword p 5, bword p 6, bword p 7⟩
theorem stB_list (p : List UInt8) (k : Nat) (h : k < 8) : (stB p).list.getD k 0 = bword p k := by
  match k, h with
  | 0, _ => rfl
  | 1, _ => rfl
  | 2, _ => rfl
  | 3, _ => rfl
  | 4, _ => rfl
  | 5, _ => rfl
  | 6, _ => rfl
  | 7, _ => rfl
/-- The number of bytes that a saved Hash tells. -/
def cntB (p : List UInt8) : Nat := num ((p.drop 32).take 8)
/-- The word at place d. -/
def wordAt (p : List UInt8) (d : Nat) : BitVec 32 := word4 (p.getD d 0) (p.getD (d + 1) 0) (p.getD (d + 2) 0) (p.getD (d + 3) 0)
theorem wordAt_b (p : List UInt8) (k : Nat) : wordAt p (4 * k) = bword p k := rfl
theorem fold_num : ∀ (b : List UInt8) (k : Nat), b.foldl (fun n x => n * 256 + x.toNat) k = k * 256 ^ b.length + b.foldl (fun n x => n * 256 + x.toNat) 0
  | [], k => by simp
  | x :: b, k => by
    rw [List.foldl_cons, List.foldl_cons, fold_num b (k * 256 + x.toNat), fold_num b (0 * 256 + x.toNat), List.length_cons, Nat.pow_succ, Nat.zero_mul, Nat.zero_add, Nat.add_mul, Nat.mul_assoc, Nat.mul_comm 256, Nat.add_assoc]
theorem num_app (a b : List UInt8) : num (a ++ b) = num a * 256 ^ b.length + num b := by
  unfold num
  rw [List.foldl_append, fold_num]
theorem or_words (X Y : Nat) (hX : X < 4294967296) (hY : Y < 4294967296) : bits .or .u64 (IntKind.u64.wrap ((X : Int) * 4294967296)) (Y : Int) = ((X * 4294967296 + Y : Nat) : Int) := by
  have h1 : IntKind.u64.wrap ((X : Int) * 4294967296) = ((4294967296 * X : Nat) : Int) := by rw [IntKind.wrap_u64]; omega
  rw [h1]
  show IntKind.u64.wrap ((BitVec.ofInt 64 ((4294967296 * X : Nat) : Int) ||| BitVec.ofInt 64 (Y : Int)).toNat : Int) = _
  have e1 : BitVec.ofInt 64 ((4294967296 * X : Nat) : Int) = BitVec.ofNat 64 (4294967296 * X) := BitVec.ofInt_natCast _ _
  have e2 : BitVec.ofInt 64 (Y : Int) = BitVec.ofNat 64 Y := BitVec.ofInt_natCast _ _
  rw [e1, e2, BitVec.toNat_or, BitVec.toNat_ofNat, BitVec.toNat_ofNat, Nat.mod_eq_of_lt (by omega), Nat.mod_eq_of_lt (by omega)]
  have := Nat.two_pow_add_eq_or_of_lt (i := 32) (b := Y) (by omega) X
  rw [show (2 : Nat) ^ 32 = 4294967296 from rfl] at this
  rw [← this, IntKind.wrap_u64]
  omega
theorem cnt_split (p : List UInt8) (h : 40 ≤ p.length) : cntB p = (bword p 8).toNat * 4294967296 + (bword p 9).toNat := by
  have l1 : ((p.drop 32).take 4).length = 4 := by rw [List.length_take, List.length_drop]; omega
  have l2 : ((p.drop 36).take 4).length = 4 := by rw [List.length_take, List.length_drop]; omega
  have b1 := num_lt ((p.drop 32).take 4)
  have b2 := num_lt ((p.drop 36).take 4)
  rw [l1] at b1
  rw [l2] at b2
  have e1 := bword_num p 8 (by omega)
  have e2 := bword_num p 9 (by omega)
  rw [show 4 * 8 = 32 from rfl] at e1
  rw [show 4 * 9 = 36 from rfl] at e2
  have e3 : (p.drop 32).take 8 = (p.drop 32).take 4 ++ (p.drop 36).take 4 := by
    rw [show (8 : Nat) = 4 + 4 from rfl, List.take_add, List.drop_drop]
  unfold cntB
  rw [e3, num_app, l2, ← e1, ← e2, BitVec.toNat_ofNat, BitVec.toNat_ofNat, Nat.mod_eq_of_lt (by omega), Nat.mod_eq_of_lt (by omega)]
theorem wrap64_wn (x : BitVec 32) : IntKind.u64.wrap (wn x) = wn x := by rw [IntKind.wrap_u64]; have := wn_range x; omega
theorem cnt_words (p : List UInt8) (h : 40 ≤ p.length) : bits .or .u64 (IntKind.u64.wrap (IntKind.u64.wrap (wn (wordAt p 32)) * 4294967296)) (IntKind.u64.wrap (wn (wordAt p 36))) = (cntB p : Int) := by
  rw [show wordAt p 32 = bword p 8 from wordAt_b p 8, show wordAt p 36 = bword p 9 from wordAt_b p 9, wrap64_wn, wrap64_wn]
  rw [cnt_split p h]
  exact or_words _ _ (by have := (bword p 8).isLt; omega) (by have := (bword p 9).isLt; omega)
theorem cnt_lt (p : List UInt8) (h : 40 ≤ p.length) : cntB p < 18446744073709551616 := by
  rw [cnt_split p h]
  have := (bword p 8).isLt
  have := (bword p 9).isLt
  omega
theorem run_at (pb po plen pcap k : Nat) (K : Int) (hK : K = (k : Int)) (hk : k ≤ plen) (hc : k < pcap) (W : World) : (Instr.sliceAt 24 (.slice (some ⟨pb, po, none⟩) plen pcap) (some (.int .i64 K)) none none).run Tryd.prog W = .ok (.slice (some ⟨pb, po + k, none⟩) (plen - k) (pcap - k)) W := by
  obtain ⟨o', h1, h2⟩ := run_from pb po plen pcap k K hK hk
  rw [h1 W, h2 hc]
attribute [irreducible] wordAt cntB
set_option maxRecDepth 100000 in
set_option maxHeartbeats 1000000 in
theorem load_short (B : Nat) (v : Value) (p : List UInt8) (w : World) (hs : Sl w B v p) (h : p.length < 40) :
    Calls Tryd.prog 27 #[v] w fun e w' => e = .returned (.tuple #[.pointer none, .int .i64 2]) ∧ w = w' := by
  obtain ⟨A, c, rfl, _⟩ := hs
  have h' : (p.length : Int) < 40 := by omega
  go_enter Tryd.func27, Tryd.ntmps27
  go_wp2_with fail
  go_ret2
  exact ⟨rfl, rfl⟩
/-- What stands ahead of every walk of Load: its two words. -/
theorem words_of {w : World} {b o : Nat} {p : List UInt8} (h : Bs w b o p) : ∀ d L C n, d + 4 ≤ p.length → 4 ≤ L → L ≤ 9223372036854775807 → Hid (Calls Tryd.prog 39 #[.slice (some ⟨b, o + d, none⟩) L C] (w.drewN n) fun e w' => e = .returned (vw (wordAt p d)) ∧ ∃ m, w' = (w.drewN n).drewN m) := fun d L C n h1 h2 h3 => Lib.hid (by
  have hb : Bs (w.drewN n) b o p := h
  unfold wordAt
  exact word_any b (o + d) L C _ _ _ _ (w.drewN n) (hb.getD (by omega)) (hb.getD2 (by omega)) (hb.getD2 (by omega)) (hb.getD2 (by omega)) h2 h3)
set_option maxRecDepth 100000 in
set_option maxHeartbeats 1000000 in
theorem load_long (B : Nat) (v : Value) (p : List UInt8) (w : World) (hs : Sl w B v p) (h : 40 ≤ p.length) (hN : 2305843009213693952 ≤ cntB p) :
    Calls Tryd.prog 27 #[v] w fun e w' => e = .returned (.tuple #[.pointer none, .int .i64 3]) ∧ Below w.heap.size w w' := by
  obtain ⟨A, c, rfl, _, k1, k2, k3⟩ := hs
  obtain ⟨b, o, rfl, hb, hbs⟩ := k3 (by omega)
  have hw := words_of hbs
  clear hbs k3
  obtain ⟨h1, h2, h3⟩ : (40 : Int) ≤ (p.length : Int) ∧ (p.length : Int) ≤ (c : Int) ∧ (40 : Int) ≤ (c : Int) := ⟨by omega, by omega, by omega⟩
  have hcw := cnt_words p h
  obtain ⟨N, hNe⟩ : ∃ N, N = cntB p := ⟨_, rfl⟩
  rw [← hNe] at hcw hN
  clear hNe
  have hN' : (2305843009213693952 : Int) ≤ (N : Int) := by omega
  have HCW := Lib.hid hcw; clear hcw
  have r1 := run_at b o p.length c 32 32 rfl (by omega) (by omega)
  have r2 := run_at b o p.length c 36 36 rfl (by omega) (by omega)
  go_enter Tryd.func27, Tryd.ntmps27
  go_wp2_with fail
  go_quiet ((go_at_call 39; exact Calls.quiet_of (hw _ _ _ _ (by omega) (by omega) (by omega)).out))
  rw [HCW.out]
  clear r1 r2
  go_wp2_with fail
  go_ret2
  exact ⟨rfl, below_drewN (Below.refl _ _) nq⟩
set_option maxRecDepth 100000 in
set_option maxHeartbeats 1000000 in
theorem load_few (B : Nat) (v : Value) (p : List UInt8) (w : World) (hs : Sl w B v p) (h : 40 ≤ p.length) (hN : cntB p < 2305843009213693952) (hl : p.length - 40 ≠ cntB p % 64) :
    Calls Tryd.prog 27 #[v] w fun e w' => e = .returned (.tuple #[.pointer none, .int .i64 (if p.length - 40 < cntB p % 64 then 2 else 4)]) ∧ Below w.heap.size w w' := by
  obtain ⟨A, c, rfl, _, k1, k2, k3⟩ := hs
  obtain ⟨b, o, rfl, hb, hbs⟩ := k3 (by omega)
  have hw := words_of hbs
  clear hbs k3
  obtain ⟨h1, h2, h3⟩ : (40 : Int) ≤ (p.length : Int) ∧ (p.length : Int) ≤ (c : Int) ∧ (40 : Int) ≤ (c : Int) := ⟨by omega, by omega, by omega⟩
  have hcw := cnt_words p h
  obtain ⟨N, hNe⟩ : ∃ N, N = cntB p := ⟨_, rfl⟩
  rw [← hNe] at hcw hN hl ⊢
  clear hNe
  obtain ⟨K, hK⟩ : ∃ K : Int, K = (N : Int) := ⟨_, rfl⟩
  rw [← hK] at hcw
  have hN' : K < 2305843009213693952 := by omega
  have hN0 : 0 ≤ K := by omega
  have HCW := Lib.hid hcw; clear hcw
  obtain ⟨M, hM⟩ : ∃ M, M = p.length - 40 := ⟨_, rfl⟩
  obtain ⟨R, hR⟩ : ∃ R, R = N % 64 := ⟨_, rfl⟩
  have hR64 : R < 64 := by omega
  have hRi : K % 64 = (R : Int) := by omega
  have r1 := run_at b o p.length c 32 32 rfl (by omega) (by omega)
  have r2 := run_at b o p.length c 36 36 rfl (by omega) (by omega)
  obtain ⟨o', r3, _⟩ := run_from b o p.length c 40 40 rfl h
  rw [← hM] at r3 hl ⊢
  rw [← hR] at hl ⊢
  clear hM hR hN hK
  by_cases hlt : M < R
  · rw [if_pos hlt]
    have hlt' : (M : Int) < (R : Int) := by omega
    go_enter Tryd.func27, Tryd.ntmps27
    go_wp2_with fail
    go_quiet ((go_at_call 39; exact Calls.quiet_of (hw _ _ _ _ (by omega) (by omega) (by omega)).out))
    rw [HCW.out]
    clear r1 r2
    go_wp2_with fail
    go_ret2
    exact ⟨rfl, below_drewN (Below.refl _ _) nq⟩
  · rw [if_neg hlt]
    have hlt' : ¬ (M : Int) < (R : Int) := by omega
    have hgt' : (R : Int) < (M : Int) := by omega
    go_enter Tryd.func27, Tryd.ntmps27
    go_wp2_with fail
    go_quiet ((go_at_call 39; exact Calls.quiet_of (hw _ _ _ _ (by omega) (by omega) (by omega)).out))
    rw [HCW.out]
    clear r1 r2
    go_wp2_with fail
    go_ret2
    exact ⟨rfl, below_drewN (Below.refl _ _) nq⟩
/-- The cells of a Hash that is being loaded: k words of its state. -/
def lcells (p : List UInt8) (k : Nat) (n : Nat) : List Value := ((List.range k).map fun i => vw (bword p i)) ++ List.replicate (8 - k) (.int .u32 0) ++ (List.replicate 64 (.int .u8 0) ++ [.int .u64 (un n)])
theorem lcells_at (p : List UInt8) (k n : Nat) (h : k < 8) : (lcells p k n)[k]? = some (.int .u32 0) := by
  unfold lcells
  rw [List.append_assoc, List.getElem?_append_right (by simp), List.length_map, List.length_range, Nat.sub_self, List.getElem?_append_left (by simp; omega), List.getElem?_replicate, if_pos (by omega)]
theorem lcells_set (p : List UInt8) (k n : Nat) (h : k < 8) : (lcells p k n).set k (vw (bword p k)) = lcells p (k + 1) n := by
  unfold lcells
  rw [List.append_assoc, List.set_append_right _ _ (by simp), List.length_map, List.length_range, Nat.sub_self, show 8 - k = (8 - (k + 1)) + 1 by omega, List.replicate_succ, List.cons_append, List.set_cons_zero, List.range_succ, List.map_append, List.append_assoc, List.append_assoc]
  rfl
theorem lcells_full (p : List UInt8) (n : Nat) : lcells p 8 n = hcells (stB p) (List.replicate 64 0) n := by
  unfold lcells hcells
  rw [List.map_replicate]
  rfl
theorem lcells_zero (p : List UInt8) (n : Nat) : lcells p 0 n = List.replicate 8 (.int .u32 0) ++ (List.replicate 64 (.int .u8 0) ++ [.int .u64 (un n)]) := by
  unfold lcells; rfl
attribute [irreducible] lcells
set_option maxRecDepth 100000 in
set_option maxHeartbeats 1000000 in
theorem load_ok (B : Nat) (v : Value) (p : List UInt8) (w : World) (hs : Sl w B v p) (hB : B ≤ w.heap.size) (h : 40 ≤ p.length) (hN : cntB p < 2305843009213693952) (hl : p.length - 40 = cntB p % 64) :
    Calls Tryd.prog 27 #[v] w fun e w' => e = .returned (.tuple #[.pointer (some ⟨w.heap.size, 0, none⟩), .int .i64 0]) ∧ HashAt w' w.heap.size (stB p) (p.drop 40) (cntB p) ∧ Below w.heap.size w w' := by
  obtain ⟨A, c, rfl, _, k1, k2, k3⟩ := hs
  obtain ⟨b, o, rfl, hb, hbs⟩ := k3 (by omega)
  have hw := words_of hbs
  have HBS := Lib.hid hbs
  clear hbs k3
  obtain ⟨h1, h2, h3⟩ : (40 : Int) ≤ (p.length : Int) ∧ (p.length : Int) ≤ (c : Int) ∧ (40 : Int) ≤ (c : Int) := ⟨by omega, by omega, by omega⟩
  have hcw := cnt_words p h
  obtain ⟨N, hNe⟩ : ∃ N, N = cntB p := ⟨_, rfl⟩
  rw [← hNe] at hcw hN hl ⊢
  clear hNe
  obtain ⟨K, hK⟩ : ∃ K : Int, K = (N : Int) := ⟨_, rfl⟩
  rw [← hK] at hcw
  have hN' : K < 2305843009213693952 := by omega
  have hN0 : 0 ≤ K := by omega
  have HKU : Hid (K = un N) := Lib.hid (by rw [hK, un_lt _ (by omega)])
  have HCW := Lib.hid hcw; clear hcw
  obtain ⟨M, hM⟩ : ∃ M, M = p.length - 40 := ⟨_, rfl⟩
  have hM64 : M < 64 := by omega
  have hRi : K % 64 = (M : Int) := by omega
  have r1 := run_at b o p.length c 32 32 rfl (by omega) (by omega)
  have r2 := run_at b o p.length c 36 36 rfl (by omega) (by omega)
  obtain ⟨o', r3, ho'⟩ := run_from b o p.length c 40 40 rfl h
  have HO' := Lib.hid ho'; clear ho'
  rw [← hM] at r3
  have HM := Lib.hid hM; clear hM
  have HNM : Hid (M = N % 64) := Lib.hid (by rw [HM.out]; exact hl)
  have hz := zero_hash
  have hz73 : hzero.length = 73 := by decide
  have hd1 : decide ((p.length : Int) < 40) = false := by simp; omega
  have hd2 : decide (2305843009213693952 ≤ K) = false := by simp; omega
  clear hl hN hK
  go_enter Tryd.func27, Tryd.ntmps27
  go_wp2_with fail
  go_quiet ((go_at_call 39; exact Calls.quiet_of (hw _ _ _ _ (by omega) (by omega) (by omega)).out))
  rw [HCW.out]
  clear r1 r2 hw
  go_wp2_with fail
  clear hz r3
  rw [hRi]
  clear hRi
  go_loopw [40] (fun i wr => ∃ k : Nat, k ≤ 8 ∧ i = .int .i64 k ∧ Blk wr w.heap.size (lcells p k N) ∧ Below w.heap.size w wr) (fun i _ => 8 - (intOf i).toNat)
  case atStart =>
    refine ⟨0, by omega, rfl, ?_, ?_⟩
    · refine Blk.newAt _ _ _ (by simp) ?_
      rw [lcells_zero, HKU.out]
      simp [hzero]
    · exact (below_drewN (Below.refl _ _) nq).alloc (by simp) _
  case round =>
    obtain ⟨k, hk, rfl, hX, hBl⟩ := hrel
    have HX := Lib.hid hX
    have HB := Lib.hid hBl; clear hBl
    by_cases hlt : k < 8
    · have c0 : wr.cell? ⟨w.heap.size, k, none⟩ = some (.int .u32 0) := hX.at (lcells_at p k N hlt)
      have f0 : wr.frozen? ⟨w.heap.size, k, none⟩ = false := hX.free k
      have hword := words_of (HBS.out.below HB.out (by omega)) (4 * k) (p.length - 4 * k) (c - 4 * k) 1 (by omega) (by omega) (by omega)
      have hwb : Hid (wordAt p (4 * k) = bword p k) := Lib.hid (wordAt_b p k)
      have r4 := run_at b o p.length c (4 * k) (4 * (k : Int)) (by omega) (by omega) (by omega)
      clear hX
      obtain ⟨j0, j1⟩ : (k : Int) < 8 ∧ (0 : Int) ≤ (k : Int) := ⟨by omega, by omega⟩
      have j2 : IntKind.i64.wrap (4 * (k : Int)) = 4 * (k : Int) := IntWalk.i64_in _ (by omega)
      go_wp2_with fail
      refine wp_region_noPanic ?_
      refine wp_region_held (S := fun _ => True) (by kernel_rfl) ?_
      change wpAnyH _ _ _ _ _ _ _ _ wr.drew
      refine takeH 0 43 (Value.pointer (some ⟨w.heap.size, 0, none⟩)) rfl rfl (by kernel_rfl) (by kernel_rfl) (by kernel_rfl) (fun _ _ _ h => h) rfl (fun w' hS => by go_simp) trivial ?_
      go_frame
      refine takeH 1 44 (Value.int .i64 (k : Int)) rfl rfl (by kernel_rfl) (by kernel_rfl) (by kernel_rfl) (fun _ _ _ h => h) rfl (fun w' hS => by go_simp) trivial ?_
      go_frame
      refine takeH 2 45 (Value.slice (some ⟨b, o, none⟩) p.length c) rfl rfl (by kernel_rfl) (by kernel_rfl) (by kernel_rfl) (fun _ _ _ h => h) rfl (fun w' hS => by go_simp) trivial ?_
      go_frame
      refine takeH 3 46 (Value.int .i64 (k : Int)) rfl rfl (by kernel_rfl) (by kernel_rfl) (by kernel_rfl) (fun _ _ _ h => h) rfl (fun w' hS => by go_simp) trivial ?_
      go_frame
      refine takeH 4 47 (Value.int .i64 (4 * (k : Int))) rfl rfl (by kernel_rfl) (by kernel_rfl) (by kernel_rfl) (fun _ _ _ h => h) rfl (fun w' hS => by go_simp) trivial ?_
      go_frame
      refine takeH 5 48 (Value.slice (some ⟨b, o + 4 * k, none⟩) (p.length - 4 * k) (c - 4 * k)) rfl rfl (by kernel_rfl) (by kernel_rfl) (by kernel_rfl) (fun _ _ _ h => h) rfl (fun w' hS => by go_simp) trivial ?_
      go_frame
      refine takeH 7 50 (Value.pointer (some ⟨w.heap.size, 0, none⟩)) rfl rfl (by kernel_rfl) (by kernel_rfl) (by kernel_rfl) (fun _ _ _ h => h) rfl (fun w' hS => by go_simp) trivial ?_
      go_frame
      refine takeH 8 51 (Value.pointer (some ⟨w.heap.size, 0, none⟩)) rfl rfl (by kernel_rfl) (by kernel_rfl) (by kernel_rfl) (fun _ _ _ h => h) rfl (fun w' hS => by go_simp) trivial ?_
      go_frame
      refine wpAnyH_all (rs := [6]) (by kernel_rfl) (by simp) ?_
      simp only [List.mem_singleton, forall_eq]
      refine wpOp_callD 49 rfl rfl rfl 39 #[.slice (some ⟨b, o + 4 * k, none⟩) (p.length - 4 * k) (c - 4 * k)] (by go_simp) ?_
      refine hword.out.mono ?_
      rintro e w2 ⟨rfl, m, rfl⟩
      rw [hwb.out]
      refine ⟨_, rfl, trivial, ?_⟩
      go_frame
      refine takeH 9 52 (Value.pointer (some ⟨w.heap.size, k, none⟩)) rfl rfl (by kernel_rfl) (by kernel_rfl) (by kernel_rfl) (fun _ _ _ h => h) rfl (fun w' hS => by go_simp) trivial ?_
      go_frame
      refine wpAnyH_all (rs := [10]) (by kernel_rfl) (by simp) ?_
      simp only [List.mem_singleton, forall_eq]
      refine wpOp_of_wp rfl rfl ?_
      go_simp
      refine wpAnyH_done (by kernel_rfl) ?_ _
      refine NoPanic.normal ?_
      have hX2 := HX.out.set k (vw (bword p k))
      rw [lcells_set p k N hlt] at hX2
      have HX2 := Lib.hid hX2
      have HB2 := Lib.hid (HB.out.setCell (p := ⟨w.heap.size, k, none⟩) (Nat.le_refl _) (vw (bword p k)))
      clear hX2
      go_wp2_with fail
      go_roundw
      case rel => first | exact ⟨k + 1, by omega, by go_num, HX2.out, ⟨HB2.out.os, HB2.out.tape, HB2.out.output, HB2.out.size, HB2.out.block⟩⟩ | (refine ⟨_, _, _, _, _, _, _, _, _, _, _, _, _, _, _, ⟨k + 1, by omega, by go_num, HX2.out, ⟨HB2.out.os, HB2.out.tape, HB2.out.output, HB2.out.size, HB2.out.block⟩⟩, rfl⟩)
      case measure => simp [intOf]; omega
    · obtain rfl : k = 8 := by omega
      clear hX
      have hX := HX.out
      rw [lcells_full] at hX
      have HY := Lib.hid hX
      have hlt8 := hX.lt
      clear hX
      obtain ⟨q, hq⟩ : ∃ q, q = p.drop 40 := ⟨_, rfl⟩
      have hql : q.length = M := by rw [hq, List.length_drop, HM.out]
      have HQL := Lib.hid hql; clear hql
      have HQ := Lib.hid hq
      have HQB : Hid (0 < q.length → Bs wr b o' q) := Lib.hid fun hp => by
        rw [HO'.out (by have := HQL.out; have := HM.out; omega), hq]
        exact (HBS.out.below HB.out (by omega)).drop 40
      clear hq
      rw [show (((8 : Nat) : Int)) = (8 : Int) from rfl]
      go_wp2_with ((with_reducible refine wpList_copy_to ?g1 (.tmp 57) (.tmp 58) 24 24 ?g2 5 Tryd.underlying24 info_b1 (some ⟨w.heap.size, 8, none⟩) (some ⟨b, o', none⟩) 64 64 M (c - 40) ?g3 ?g4 w.heap.size 8 (q.map vb) ?g5 ?g6 ?g7 (oneCell_bytes q) ?_); (case g1 => rfl); (case g2 => rfl); (case g3 => rfl); (case g4 => rfl); (case g5 => rw [List.length_map, HQL.out]; exact (Nat.min_eq_left (by omega)).symm); (case g6 => exact fun hp => ⟨rfl, b, o', rfl, (HQB.out (by rw [List.length_map] at hp; exact hp)).rangeAt⟩); (case g7 => exact HY.out.there _ _ (by rw [List.length_map, HQL.out, hcells_length _ _ _ (by simp)]; omega)))
      have hb6 := HY.out.setCells (vs := q.map vb) (8 + 0) (by rw [List.length_map, HQL.out, hcells_length _ _ _ (by simp)]; omega)
      rw [hcells_setTail _ _ _ _ _ (by simp) (by rw [HQL.out]; omega)] at hb6
      have hb7 := below_setCells (Nat.le_refl w.heap.size) (q.map vb) HB.out 8
      generalize World.setCells _ _ _ _ = w6 at hb6 hb7 ⊢
      have HB6 := Lib.hid hb6; clear hb6
      have HB7 := Lib.hid hb7; clear hb7
      go_wp2_with fail
      go_ret2
      refine ⟨rfl, ⟨over (List.replicate 64 0) 0 q, ⟨HB6.out, ?_⟩, ?_⟩, HB7.out⟩
      · rw [over_length _ _ _ (by rw [HQL.out]; simp; omega)]; simp
      · rw [← HNM.out, ← HQL.out, ← HQ.out]
        have := over_take (List.replicate 64 0) q 0 (by simp)
        rw [Nat.zero_add, List.take_zero, List.nil_append] at this
        exact this
end Go.Proofs.YtkbelfoeofhppaaDoor
