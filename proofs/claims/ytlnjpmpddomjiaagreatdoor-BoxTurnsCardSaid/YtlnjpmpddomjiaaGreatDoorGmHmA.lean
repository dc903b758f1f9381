/- HMAC and what is derived from it, said of lists of bytes. Nothing of the program is imported. hmac.pad and hmac.begin: a key as a block, and a Hash that begins with it, masked. A Mac in memory: New, Reset, Write, Sum, whole; hmac.Sum of parts. hmac.New; a Mac's whole; hmac.Sum of parts. -/
import Derived.Test.YtlnjpmpddomjiaaGreatDoorGmMgA
import Derived.Test.YtlnjpmpddomjiaaGreatDoorGmShaSum
import Derived.Test.YtlnjpmpddomjiaaGreatDoorGmCutE
import Derived.Deep.WholeRow
import Derived.Deep.DeepCutAuto
import Derived.Test.YtlnjpmpddomjiaaGreatDoorGmWriteE
import Derived.Test.YtlnjpmpddomjiaaGreatDoorGmMgB
namespace Go.Proofs.YtlnjpmpddomjiaaGreatDoor
open Go.RowKit
/-- A key of at most a block. -/
def keyK (key : List UInt8) : List UInt8 := if 64 < key.length then sumL key else key
theorem keyK_le (key : List UInt8) : (keyK key).length ≤ 64 := by
  unfold keyK
  split
  · rw [sumL_length]; decide
  · omega
theorem keyK_long {key : List UInt8} (h : 64 < key.length) : keyK key = sumL key := by unfold keyK; rw [if_pos h]
theorem keyK_short {key : List UInt8} (h : ¬ 64 < key.length) : keyK key = key := by unfold keyK; rw [if_neg h]
/-- .. filled up to a block. -/
def padK (key : List UInt8) : List UInt8 := keyK key ++ List.replicate (64 - (keyK key).length) 0
theorem padK_def (key : List UInt8) : padK key = keyK key ++ List.replicate (64 - (keyK key).length) 0 := rfl
theorem padK_length (key : List UInt8) : (padK key).length = 64 := by
  have := keyK_le key
  unfold padK; rw [List.length_append, List.length_replicate]; omega
/-- The first j bytes masked. -/
def maskN (x : UInt8) (j : Nat) (l : List UInt8) : List UInt8 := (l.take j).map (· ^^^ x) ++ l.drop j
def maskL (x : UInt8) (l : List UInt8) : List UInt8 := l.map (· ^^^ x)
theorem maskN_zero (x : UInt8) (l : List UInt8) : maskN x 0 l = l := by unfold maskN; simp
theorem maskN_all (x : UInt8) (l : List UInt8) : maskN x l.length l = maskL x l := by unfold maskN maskL; simp
theorem maskN_length (x : UInt8) (j : Nat) (l : List UInt8) : (maskN x j l).length = l.length := by unfold maskN; simp; omega
theorem maskN_at (x : UInt8) (j : Nat) (l : List UInt8) (h : j < l.length) : (maskN x j l)[j]? = some l[j] := by
  unfold maskN
  rw [List.getElem?_append_right (by simp; omega)]
  simp [Nat.min_eq_left (show j ≤ l.length by omega), List.getElem?_eq_getElem h]
theorem maskN_succ (x : UInt8) (j : Nat) (l : List UInt8) (h : j < l.length) : maskN x (j + 1) l = (maskN x j l).set j (l[j] ^^^ x) := by
  unfold maskN
  rw [List.take_succ_eq_append_getElem h, List.map_append, List.set_append_right _ _ (by simp; omega)]
  have e : l.drop j = l[j] :: l.drop (j + 1) := (List.getElem_cons_drop h).symm
  rw [show (List.map (· ^^^ x) (l.take j)).length = j by simp; omega, Nat.sub_self, e, List.set_cons_zero]
  simp
theorem maskL_length (x : UInt8) (l : List UInt8) : (maskL x l).length = l.length := by unfold maskL; simp
/-- The code of a message under a key. -/
def hm (key msg : List UInt8) : List UInt8 := sumL (maskL 92 (padK key) ++ sumL (maskL 54 (padK key) ++ msg))
theorem hm_def (key msg : List UInt8) : hm key msg = sumL (maskL 92 (padK key) ++ sumL (maskL 54 (padK key) ++ msg)) := rfl
theorem hm_length (key msg : List UInt8) : (hm key msg).length = 32 := sumL_length _
/-- Byte by byte. -/
def xorN (a b : List UInt8) (j : Nat) : List UInt8 := (List.zipWith (· ^^^ ·) a b).take j ++ List.replicate (min a.length b.length - j) 0
def xorL (a b : List UInt8) : List UInt8 := List.zipWith (· ^^^ ·) a b
theorem xorL_length (a b : List UInt8) : (xorL a b).length = min a.length b.length := by unfold xorL; simp
theorem xorN_zero (a b : List UInt8) : xorN a b 0 = List.replicate (min a.length b.length) 0 := by unfold xorN; simp
theorem xorN_all (a b : List UInt8) : xorN a b (min a.length b.length) = xorL a b := by unfold xorN xorL; simp [List.take_of_length_le]
theorem xorN_length (a b : List UInt8) (j : Nat) (h : j ≤ min a.length b.length) : (xorN a b j).length = min a.length b.length := by unfold xorN; simp; omega
theorem xorN_succ (a b : List UInt8) (j : Nat) (ha : j < a.length) (hb : j < b.length) : xorN a b (j + 1) = (xorN a b j).set j (a[j] ^^^ b[j]) := by
  unfold xorN
  have hz : j < (List.zipWith (· ^^^ ·) a b).length := by simp; omega
  rw [List.take_succ_eq_append_getElem hz, List.set_append_right _ _ (by simp; omega)]
  have e1 : (List.take j (List.zipWith (· ^^^ ·) a b)).length = j := by simp; omega
  rw [e1, Nat.sub_self, show min a.length b.length - j = (min a.length b.length - (j + 1)) + 1 by omega, List.replicate_succ, List.set_cons_zero]
  simp
theorem xor_back (a b : List UInt8) : xorL (xorL a b) b = a.take (min a.length b.length) := by
  unfold xorL
  apply List.ext_getElem
  · simp
  · intro i h1 h2
    simp [UInt8.xor_assoc]
/-- The rounds of a password's piece: the last code, and all of them together. -/
def pbr (pass : List UInt8) (u : List UInt8) : Nat → List UInt8 × List UInt8
  | 0 => (u, u)
  | k + 1 => (hm pass (pbr pass u k).1, xorL (pbr pass u k).2 (hm pass (pbr pass u k).1))
theorem pbr_zero (pass u : List UInt8) : pbr pass u 0 = (u, u) := rfl
theorem pbr_succ (pass u : List UInt8) (k : Nat) : pbr pass u (k + 1) = (hm pass (pbr pass u k).1, xorL (pbr pass u k).2 (hm pass (pbr pass u k).1)) := rfl
theorem pbr_len (pass u : List UInt8) (h : u.length = 32) (k : Nat) : (pbr pass u k).1.length = 32 ∧ (pbr pass u k).2.length = 32 := by
  induction k with
  | zero => exact ⟨h, h⟩
  | succ k ih => rw [pbr_succ]; exact ⟨hm_length _ _, by rw [xorL_length, hm_length, ih.2]; rfl⟩
/-- The n-th piece of a password's key. -/
def pieceS (pass salt : List UInt8) (rounds : Nat) (n : Nat) : List UInt8 := (pbr pass (hm pass (salt ++ [0, 0, 0, UInt8.ofNat n])) (rounds - 1)).2
theorem pieceS_len (pass salt : List UInt8) (rounds n : Nat) : (pieceS pass salt rounds n).length = 32 := (pbr_len _ _ (hm_length _ _) _).2
/-- The n-th piece of an expanded key; before the first there is none. -/
def pieceE (key info : List UInt8) : Nat → List UInt8
  | 0 => []
  | n + 1 => hm key (pieceE key info n ++ info ++ [UInt8.ofNat (n + 1)])
theorem pieceE_zero (key info : List UInt8) : pieceE key info 0 = [] := rfl
theorem pieceE_succ (key info : List UInt8) (n : Nat) : pieceE key info (n + 1) = hm key (pieceE key info n ++ info ++ [UInt8.ofNat (n + 1)]) := rfl
theorem pieceE_len (key info : List UInt8) (n : Nat) : (pieceE key info (n + 1)).length = 32 := hm_length _ _
/-- The first k pieces together. -/
def catN (p : Nat → List UInt8) : Nat → List UInt8
  | 0 => []
  | k + 1 => catN p k ++ p (k + 1)
theorem catN_zero (p : Nat → List UInt8) : catN p 0 = [] := rfl
theorem catN_succ (p : Nat → List UInt8) (k : Nat) : catN p (k + 1) = catN p k ++ p (k + 1) := rfl
theorem catN_len (p : Nat → List UInt8) (h : ∀ n, (p (n + 1)).length = 32) (k : Nat) : (catN p k).length = 32 * k := by
  induction k with
  | zero => rfl
  | succ k ih => rw [catN_succ, List.length_append, ih, h]; omega
theorem catN_take (p : Nat → List UInt8) (h : ∀ n, (p (n + 1)).length = 32) (k j n : Nat) (hn : n ≤ 32 * k) : (catN p (k + j)).take n = (catN p k).take n := by
  induction j with
  | zero => rfl
  | succ j ih => rw [← Nat.add_assoc, catN_succ, List.take_append_of_le_length (by rw [catN_len p h]; omega), ih]
attribute [irreducible] padK keyK hm pbr pieceS pieceE catN xorN maskN
theorem bv_xor8 (x y : UInt8) : bits .xor .u8 (bn x) (bn y) = bn (x ^^^ y) := by
  show IntKind.u8.wrap ((BitVec.ofInt 8 (bn x) ^^^ BitVec.ofInt 8 (bn y)).toNat : Int) = _
  rw [ofInt_bn, ofInt_bn, IntKind.wrap_u8]
  have h2 : (x.toBitVec ^^^ y.toBitVec).toNat = (x ^^^ y).toNat := rfl
  rw [h2]
  unfold bn
  have := (x ^^^ y).toNat_lt
  omega
theorem bv_or8 (x y : UInt8) : bits .or .u8 (bn x) (bn y) = bn (x ||| y) := by
  show IntKind.u8.wrap ((BitVec.ofInt 8 (bn x) ||| BitVec.ofInt 8 (bn y)).toNat : Int) = _
  rw [ofInt_bn, ofInt_bn, IntKind.wrap_u8]
  have h2 : (x.toBitVec ||| y.toBitVec).toNat = (x ||| y).toNat := rfl
  rw [h2]
  unfold bn
  have := (x ||| y).toNat_lt
  omega
end Go.Proofs.YtlnjpmpddomjiaaGreatDoor
namespace Go.Proofs.YtlnjpmpddomjiaaGreatDoor
open Go.RowKit
/-- An array of 64 bytes, all nought. -/
def azero : List Value := List.replicate 64 (.int .u8 0)
theorem zero_arr (W : World) : (zeroValue 122).run Tryz.prog W = .ok (.agg azero.toArray) W := by kernel_rfl
theorem info_a64 : (Tryz.prog.info? 122).map (·.size) = some 64 := by kernel_rfl
theorem azero_vb : azero = (List.replicate 64 (0 : UInt8)).map vb := rfl
theorem results_var {fn : Func} {t : Tmp} {ty : TypeId} (h : fn.results = #[.cell t ty]) (tmps : Array Value) (P : Program) (w : World) (a : Addr) (v : Value) (ha : tmps.getD t undef = .pointer (some a))
    (hl : (loadVar ty a).run P w = .ok v w) : (results fn tmps).run P w = .ok v w := by
  have ha2 : tmps[t]?.getD undef = .pointer (some a) := by simpa using ha
  generalize hm : loadVar ty a = m at hl
  simp [results, h, ha2, asAddr, hm, hl]
set_option maxRecDepth 100000 in
set_option maxHeartbeats 1000000 in
theorem pad_any (v : Value) (key : List UInt8) (w : World) (hs : Sl w w.heap.size v key) (hl : key.length ≤ 1000000) (hT : TabA w) :
    Calls Tryz.prog 89 #[v] w fun e w' => e = .returned (.agg ((padK key).map vb).toArray) ∧ Below w.heap.size w w' := by
  have hz := zero_arr
  have hG := tab_lt hT
  have HT := Lib.hid hT; clear hT
  have HS := Lib.hid hs
  have ha : azero.toArray.size = 64 := by decide
  obtain ⟨A, c, rfl, k0, k1, k2, _⟩ := hs
  have HP : Hid (((padK key).map vb).toArray.size = 64) := Lib.hid (by rw [List.size_toArray, List.length_map, padK_length])
  have HKL := Lib.hid (keyK_le key)
  go_enter Tryz.func89, Tryz.ntmps89
  go_upto_region 1 with fail
  have hB0 : Below w.heap.size w (w.alloc (.cells azero.toArray 122)) := (Below.refl _ _).alloc (Nat.le_refl _) _
  have hK0 : Blk (w.alloc (.cells azero.toArray 122)) w.heap.size azero := Blk.newAt w azero.toArray _ rfl rfl
  have hs0 : (w.alloc (.cells azero.toArray 122)).heap.size = w.heap.size + 1 := by simp
  generalize hW0 : w.alloc (.cells azero.toArray 122) = w0 at hB0 hK0 hs0 ⊢
  clear hW0
  have HZ0 := Lib.hid hs0; clear hs0
  have HB0 := Lib.hid hB0; clear hB0
  have HK0 := Lib.hid hK0; clear hK0
  go_upto_if 6 with fail
  go_cut [0] (fun s0 wx => Sl wx wx.heap.size s0 (keyK key) ∧ Blk wx w.heap.size azero ∧ Below w.heap.size w wx)
  case first =>
    by_cases h64 : 64 < key.length
    · have HK64 := Lib.hid (keyK_long h64)
      go_wp2_with fail
      obtain ⟨W1, hW1⟩ : ∃ W1, W1 = w0.alloc (.cells #[.slice A key.length c] 34) := ⟨_, rfl⟩
      have hs0 := HZ0.out
      have hz1 : W1.heap.size = w0.heap.size + 1 := by rw [hW1]; simp
      have hb1 : Below w0.heap.size w0 W1 := by rw [hW1]; exact (Below.refl _ _).alloc (Nat.le_refl _) _
      have hs1 : Sls W1 W1.heap.size (.slice (some ⟨w0.heap.size, 0, none⟩) 1 1) [key] := by
        rw [hz1, hW1]
        exact Sls.one w0 key (.slice A key.length c) 34 ((HS.out.below HB0.out (Nat.le_refl _)).more (by omega))
      rw [← hW1]
      clear hW1 hs0
      have HB1 := Lib.hid hb1; clear hb1
      have HS1 := Lib.hid hs1; clear hs1
      refine (shaSum_any _ [key] W1 HS1.out (by simp; omega) ((HT.out.below HB0.out hG).below HB1.out (by have := HZ0.out; omega))).mono ?_
      rintro e w2 ⟨v2, rfl, hO, hB2⟩
      rw [show ([key] : List (List UInt8)).flatten = key by simp, ← HK64.out] at hO
      have HO := Lib.hid hO; clear hO
      have HB2 := Lib.hid (HB1.out.trans (hB2.mono HB1.out.size)); clear hB2
      go_wp2_with fail
      go_meet
      case rel => exact ⟨HO.out.sl, HK0.out.below HB2.out (by have := HZ0.out; omega), HB0.out.trans (HB2.out.mono (by have := HZ0.out; omega))⟩
    · have HK64 := Lib.hid (keyK_short h64)
      go_wp2_with fail
      go_meet
      case rel => exact ⟨by rw [HK64.out]; exact (HS.out.below HB0.out (Nat.le_refl _)).more (by have := HZ0.out; omega), HK0.out, HB0.out⟩
  case rest =>
  obtain ⟨hS2, hK2, hB2⟩ := hcut
  have HK2 := Lib.hid hK2; clear hK2
  have HB2 := Lib.hid hB2; clear hB2
  clear HS HK0 HB0
  have hzw := HK2.out.lt
  obtain ⟨k2, hk2⟩ : ∃ k2, k2 = keyK key := ⟨_, rfl⟩
  have hkl : k2.length ≤ 64 := by rw [hk2]; exact HKL.out
  have HPK : Hid (azero.take 0 ++ k2.map vb ++ azero.drop (0 + (k2.map vb).length) = (padK key).map vb) := Lib.hid (by
    rw [padK_def, ← hk2, azero_vb, List.map_append, List.length_map, Nat.zero_add, ← List.map_drop, List.drop_replicate]; rfl)
  rw [← hk2] at hS2
  clear hk2 HKL
  obtain ⟨A2, c2, rfl, m0, m1, m2, m3⟩ := hS2
  have H3 := Lib.hid m3; clear m3 m0
  have hb3 : Below wc.heap.size wc (wc.alloc (.cells azero.toArray 122)) := (Below.refl _ _).alloc (Nat.le_refl _) _
  have hk3 : Blk (wc.alloc (.cells azero.toArray 122)) wc.heap.size azero := Blk.newAt wc azero.toArray _ rfl rfl
  have HB3 := Lib.hid hb3; clear hb3
  have HK3 := Lib.hid hk3; clear hk3
  have hL : (k2.map vb).length = k2.length := List.length_map ..
  have HL := Lib.hid hL; clear hL
  go_wp2_with (first
    | ((with_reducible refine wpList_copy_to ?g1 (.tmp 10) (.tmp 11) 34 34 ?g2 5 Tryz.underlying34 info_b1 (some ⟨wc.heap.size, 0, none⟩) A2 64 64 k2.length c2 ?g3 ?g4 wc.heap.size 0 (k2.map vb) ?g5 ?g6 ?g7 (oneCell_bytes k2) ?_); (case g1 => rfl); (case g2 => rfl); (case g3 => rfl); (case g4 => rfl); (case g5 => rw [HL.out]; exact (Nat.min_eq_left (by omega)).symm); (case g6 => exact fun hp => ⟨rfl, (by rw [HL.out] at hp; obtain ⟨b, o, e, hlt, hbs⟩ := H3.out hp; exact ⟨b, o, e, (hbs.below HB3.out hlt).rangeAt⟩)⟩); (case g7 => exact HK3.out.there _ _ (by rw [HL.out]; show 0 + k2.length ≤ 64; omega)); rw [HL.out]; (have HK4 := Lib.hid (HK3.out.setCells (vs := k2.map vb) 0 (by rw [HL.out]; show 0 + k2.length ≤ 64; omega))); (rw [HPK.out] at HK4); (have HB4 := Lib.hid (below_setCells (Nat.le_refl wc.heap.size) (k2.map vb) HB3.out 0)); (generalize World.setCells _ _ _ _ = w5 at HK4 HB4 ⊢))
    | ((with_reducible refine wpList_load_mid ?a1 122 (.tmp 3) ?a2 wc.heap.size 0 ?a3 ((padK key).map vb) _ ?a6 Tryz.underlying122 ?a4 ?a5 ?_); (case a1 => rfl); (case a2 => rfl); (case a3 => rfl); (case a6 => exact (by have := HK4.out.range 0 64; rwa [List.drop_zero, List.take_of_length_le (by rw [List.length_map, padK_length]; omega)] at this)); (case a4 => rfl); (case a5 => rw [List.length_map, padK_length]; exact info_a64))
    | ((with_reducible refine wpList_store_mid ?b1 122 (.tmp 2) (.tmp 13) ?b2 w.heap.size 0 ((padK key).map vb).toArray ?b3 ?b4 ?b5 ?b6 (all_oneCell_toArray (oneCell_bytes _)) ?_); (case b1 => rfl); (case b2 => rfl); (case b3 => rfl); (case b4 => rfl); (case b5 => rw [HP.out]; exact (HK2.out.below HB4.out hzw).there 0 64 (by decide)); (case b6 => rw [HP.out]; exact info_a64)))
  have hk6 : Blk (w5.setCells w.heap.size 0 ((padK key).map vb)) w.heap.size ((padK key).map vb) := (HK2.out.below HB4.out hzw).setAll (by rw [List.length_map, padK_length]; rfl)
  have hb6 : Below w.heap.size w (w5.setCells w.heap.size 0 ((padK key).map vb)) := below_setCells (Nat.le_refl _) _ (HB2.out.trans (HB4.out.mono (by omega))) 0
  obtain ⟨t, ht⟩ := hk6.heap
  refine bodyPost_ret (results_var rfl _ _ _ ⟨w.heap.size, 0, none⟩ (.agg ((padK key).map vb).toArray) rfl (run_loadVar_row (P := Tryz.prog) _ _ t 122 _ _ _ ht Tryz.underlying122 rfl (by rw [List.size_toArray, List.length_map, padK_length]; exact info_a64))) rfl ⟨rfl, hb6⟩
set_option maxRecDepth 100000 in
set_option maxHeartbeats 1000000 in
theorem begin_any (x : UInt8) (l : List UInt8) (w : World) (hl : l.length = 64) (hT : TabA w) :
    Calls Tryz.prog 90 #[.agg (l.map vb).toArray, vb x] w fun e w' => ∃ g, e = .returned (.pointer (some ⟨g, 0, none⟩)) ∧ w.heap.size ≤ g ∧ HashM w' g (maskL x l) ∧ Below w.heap.size w w' := by
  have hG := tab_lt hT
  have HT := Lib.hid hT; clear hT
  have HL := Lib.hid (show (l.map vb).toArray.size = 64 by simp [hl])
  go_enter Tryz.func90, Tryz.ntmps90
  go_upto_region 1 with fail
  have hk0 : Blk (w.alloc (.cells (l.map vb).toArray 122)) w.heap.size (l.map vb) := Blk.newAt w _ _ rfl (by simp)
  have hb0 : Below w.heap.size w (w.alloc (.cells (l.map vb).toArray 122)) := (Below.refl _ _).alloc (Nat.le_refl _) _
  generalize w.alloc (.cells (l.map vb).toArray 122) = w0 at hk0 hb0 ⊢
  have HK0 := Lib.hid hk0; clear hk0
  have HB0 := Lib.hid hb0; clear hb0
  go_wp2_with fail
  go_loopw [5, 7] (fun _ i wr => ∃ j : Nat, j ≤ 64 ∧ i = .int .i64 j ∧ Blk wr w.heap.size ((maskN x j l).map vb) ∧ Below w.heap.size w wr) (fun _ i _ => 64 - (intOf i).toNat)
  case atStart => exact ⟨0, by omega, rfl, by rw [maskN_zero]; exact HK0.out, HB0.out⟩
  case round =>
    obtain ⟨j, hj, rfl, hk, hb⟩ := hrel
    by_cases hlt : j < 64
    · have hc := hk.at (o := j) (v := vb (l[j]'(by omega))) (by rw [List.getElem?_map, maskN_at x j l (by omega)]; rfl)
      have hf := hk.free j
      have hset : (maskN x (j + 1) l).map vb = ((maskN x j l).map vb).set j (vb (l[j]'(by omega) ^^^ x)) := by rw [maskN_succ x j l (by omega), List.map_set]
      obtain ⟨y, hy⟩ : ∃ y, y = l[j]'(by omega) := ⟨_, rfl⟩
      rw [← hy] at hc hset
      have hx := bv_xor8 y x
      have HK := Lib.hid hk; clear hk
      have HB := Lib.hid hb; clear hb
      have HS := Lib.hid hset; clear hset hy
      go_wp2_with fail
      go_roundw
      case rel => exact ⟨j + 1, by omega, by go_num, by rw [HS.out]; exact HK.out.set j _, HB.out.setCell (p := ⟨w.heap.size, j, none⟩) (Nat.le_refl _) _⟩
      case measure => simp [intOf]; omega
    · obtain rfl : j = 64 := by omega
      have hall : maskN x 64 l = maskL x l := by rw [← hl]; exact maskN_all x l
      rw [hall] at hk
      have HK := Lib.hid hk; clear hk
      have HB := Lib.hid hb; clear hb
      have hzr := HK.out.lt
      clear hall
      go_wp2_with fail
      refine (new_any wr).mono ?_
      rintro e w2 ⟨rfl, hM, hB2⟩
      have HM := Lib.hid hM; clear hM
      have HK2 := Lib.hid (HK.out.below hB2 hzr)
      have HB2 := Lib.hid (HB.out.trans (hB2.mono (by omega))); clear hB2
      have hsrc : Src w2 wr.heap.size (some ⟨w.heap.size, 0, none⟩) (maskL x l) 64 := ⟨by rw [maskL_length]; omega, by omega, by rw [maskL_length]; omega, fun _ => ⟨_, 0, rfl, HK2.out.lt, by omega, Bs.of_blk HK2.out 0 (fun j hj => by rw [Nat.zero_add, List.getElem?_map, List.getElem?_eq_getElem hj]; rfl)⟩⟩
      have hwr := write_m wr.heap.size [] (some ⟨w.heap.size, 0, none⟩) 64 (maskL x l) w2 HM.out hsrc (HT.out.below HB2.out hG) (by omega)
      rw [maskL_length, hl] at hwr
      have HW := Lib.hid hwr; clear hwr hsrc
      go_wp2_with fail
      refine HW.out.mono ?_
      rintro e w3 ⟨rfl, hM3, hg3⟩
      rw [List.nil_append] at hM3
      have HM3 := Lib.hid hM3; clear hM3
      have HB3 := Lib.hid (HB2.out.grown hg3 HB2.out.size (fun j e => by cases e; omega)); clear hg3
      go_wp2_with fail
      go_ret
      exact ⟨_, rfl, by omega, HM3.out, HB3.out⟩
end Go.Proofs.YtlnjpmpddomjiaaGreatDoor
namespace Go.Proofs.YtlnjpmpddomjiaaGreatDoor
open Go.RowKit
abbrev ptr (g : Nat) : Value := .pointer (some ⟨g, 0, none⟩)
/-- The Mac at block g: two Hashes that its key begins, and whatever stands for the text. -/
structure MacK (w : World) (base g : Nat) (key : List UInt8) (bi bo : Nat) (t : Value) : Prop where
  blk : Blk w g [ptr bi, ptr bo, t]
  hi : HashM w bi (maskL 54 (padK key))
  ho : HashM w bo (maskL 92 (padK key))
  lg : base ≤ g
  li : base ≤ bi
  lo : base ≤ bo
  ni : g ≠ bi
  no : g ≠ bo
  tp : ∃ a, t = .pointer a
theorem MacK.below {w w' : World} {base g : Nat} {key : List UInt8} {bi bo B : Nat} {t : Value} (h : MacK w base g key bi bo t) (hb : Below B w w') (hB : w.heap.size ≤ B) : MacK w' base g key bi bo t :=
  ⟨h.blk.below hb (Nat.lt_of_lt_of_le h.blk.lt hB), h.hi.below hb (Nat.lt_of_lt_of_le h.hi.lt hB), h.ho.below hb (Nat.lt_of_lt_of_le h.ho.lt hB), h.lg, h.li, h.lo, h.ni, h.no, h.tp⟩
theorem MacK.grown {w w' : World} {base g : Nat} {key : List UInt8} {bi bo k : Nat} {t : Value} (h : MacK w base g key bi bo t) (hg : w.grownBy w' (some k)) (n1 : k ≠ g) (n2 : k ≠ bi) (n3 : k ≠ bo) : MacK w' base g key bi bo t :=
  ⟨h.blk.grown hg (by simp; omega), h.hi.grown hg (by simp; omega), h.ho.grown hg (by simp; omega), h.lg, h.li, h.lo, h.ni, h.no, h.tp⟩
theorem MacK.lower {w : World} {base base' g : Nat} {key : List UInt8} {bi bo : Nat} {t : Value} (h : MacK w base g key bi bo t) (hb : base' ≤ base) : MacK w base' g key bi bo t :=
  ⟨h.blk, h.hi, h.ho, Nat.le_trans hb h.lg, Nat.le_trans hb h.li, Nat.le_trans hb h.lo, h.ni, h.no, h.tp⟩
theorem info_mac : (Tryz.prog.info? 137).map (·.size) = some 3 := by kernel_rfl
set_option maxRecDepth 100000 in
set_option maxHeartbeats 1000000 in
/-- Reset: the text begins anew, in a new Hash. -/
theorem reset_any (base g : Nat) (key : List UInt8) (bi bo : Nat) (t : Value) (w : World) (h : MacK w base g key bi bo t) :
    Calls Tryz.prog 91 #[ptr g] w fun e w' => e = .returned (.tuple #[]) ∧ MacK w' base g key bi bo (ptr w.heap.size) ∧ HashM w' w.heap.size (maskL 54 (padK key)) ∧ w.grownBy w' (some g) := by
  have c0 := h.blk.at (o := 0) rfl
  have hgl := h.blk.lt
  have HK := Lib.hid h; clear h
  go_enter Tryz.func91, Tryz.ntmps91
  go_wp2_with fail
  refine (copyH_any bi _ _ _ w HK.out.hi).mono ?_
  rintro e w1 ⟨rfl, hM, hB⟩
  have f2 := (HK.out.blk.below hB hgl).free 2
  have c2 := (HK.out.blk.below hB hgl).at (o := 2) rfl
  have HM : Hid (HashM w1 w.heap.size (maskL 54 (padK key))) := Lib.hid hM
  have HK1 := Lib.hid (HK.out.below hB (Nat.le_refl _))
  have HB := Lib.hid hB; clear hM hB c0
  go_wp2_with fail
  go_end0
  have hs : w1.grownBy (w1.setCell ⟨g, 2, none⟩ (ptr w.heap.size)) (some g) := grown_set w1 ⟨g, 2, none⟩ _
  refine ⟨rfl, ⟨HK1.out.blk.set 2 _, HK1.out.hi.grown hs (by have := HK1.out.ni; simp; omega), HK1.out.ho.grown hs (by have := HK1.out.no; simp; omega), HK1.out.lg, HK1.out.li, HK1.out.lo, HK1.out.ni, HK1.out.no, _, rfl⟩, HM.out.grown hs (by simp; omega), (grown_of_below HB.out (some g)).trans hs⟩
set_option maxRecDepth 100000 in
set_option maxHeartbeats 1000000 in
theorem macWrite_any (base g : Nat) (key m : List UInt8) (bi bo bt : Nat) (A : Option Addr) (c : Nat) (p : List UInt8) (w : World) (h : MacK w base g key bi bo (ptr bt)) (ht : HashM w bt (maskL 54 (padK key) ++ m)) (hs : Src w bt A p c) (hT : TabA w)
    (hG : 0 ≠ bt) :
    Calls Tryz.prog 92 #[ptr g, .slice A p.length c] w fun e w' => e = .returned (.int .i64 p.length) ∧ HashM w' bt (maskL 54 (padK key) ++ (m ++ p)) ∧ w.grownBy w' (some bt) := by
  have c2 := h.blk.at (o := 2) rfl
  have HK := Lib.hid h; clear h
  have HT := Lib.hid hT; clear hT
  have HS := Lib.hid hs; clear hs
  have Ht := Lib.hid ht; clear ht
  go_enter Tryz.func92, Tryz.ntmps92
  go_wp2_with fail
  refine (write_m bt _ A c p w Ht.out HS.out HT.out hG).mono ?_
  rintro e w1 ⟨rfl, hM, hg⟩
  rw [List.append_assoc] at hM
  have HM := Lib.hid hM; clear hM
  have Hg := Lib.hid hg; clear hg
  go_wp2_with fail
  go_ret
  exact ⟨rfl, HM.out, Hg.out⟩
set_option maxRecDepth 100000 in
set_option maxHeartbeats 1000000 in
theorem macSum_any (base g : Nat) (key m : List UInt8) (bi bo bt : Nat) (w : World) (h : MacK w base g key bi bo (ptr bt)) (ht : HashM w bt (maskL 54 (padK key) ++ m)) (hT : TabA w) :
    Calls Tryz.prog 93 #[ptr g] w fun e w' => ∃ v', e = .returned v' ∧ OwnB w' w.heap.size v' (hm key m) ∧ Below w.heap.size w w' := by
  have c1 := h.blk.at (o := 1) rfl
  have hG := tab_lt hT
  have HK := Lib.hid h; clear h
  have HT := Lib.hid hT; clear hT
  have Ht := Lib.hid ht; clear ht
  go_enter Tryz.func93, Tryz.ntmps93
  go_wp2_with fail
  refine (copyH_any bo _ _ _ w HK.out.ho).mono ?_
  rintro e w1 ⟨rfl, hM, hB⟩
  have HM : Hid (HashM w1 w.heap.size (maskL 92 (padK key))) := Lib.hid hM
  have hlt := HM.out.lt
  have c2 := (HK.out.below hB (Nat.le_refl _)).blk.at (o := 2) rfl
  have Ht1 := Lib.hid (Ht.out.below hB Ht.out.lt)
  have HB := Lib.hid hB; clear hM hB c1
  go_wp2_with fail
  refine (sumM_any bt _ w1 Ht1.out (HT.out.below HB.out hG)).mono ?_
  rintro e w2 ⟨v2, rfl, hO, hB2⟩
  obtain ⟨A2, cp2, rfl, hsr⟩ := hO.src (hb := w.heap.size) hlt (by rw [sumL_length]; decide)
  have HSR := Lib.hid hsr
  have HM2 := Lib.hid (HM.out.below hB2 hlt)
  have HB2 := Lib.hid (HB.out.trans (hB2.mono HB.out.size)); clear hB2 hsr hO c2
  have hwr := write_m w.heap.size _ A2 cp2 _ w2 HM2.out HSR.out (HT.out.below HB2.out hG) (by omega)
  rw [sumL_length] at hwr ⊢
  have HW := Lib.hid hwr; clear hwr
  go_wp2_with fail
  refine HW.out.mono ?_
  rintro e w3 ⟨rfl, hM3, hg3⟩
  have HM3 := Lib.hid hM3; clear hM3
  have HB3 := Lib.hid (HB2.out.grown hg3 HB2.out.size (fun j e => by cases e; omega)); clear hg3
  go_wp2_with fail
  refine (sumM_any w.heap.size _ w3 HM3.out (HT.out.below HB3.out hG)).mono ?_
  rintro e w4 ⟨v4, rfl, hO4, hB4⟩
  have HO4 := Lib.hid hO4; clear hO4
  have HB4 := Lib.hid (HB3.out.trans (hB4.mono HB3.out.size)); clear hB4
  go_wp2_with fail
  go_ret
  exact ⟨_, rfl, by rw [hm_def]; exact HO4.out.lower HB3.out.size, HB4.out⟩
end Go.Proofs.YtlnjpmpddomjiaaGreatDoor
namespace Go.Proofs.YtlnjpmpddomjiaaGreatDoor
open Go.RowKit
theorem grown_low {a b c : World} {row : Option Nat} (hg : a.grownBy b row) (hb : Below a.heap.size b c) : a.grownBy c row :=
  ⟨hb.os.trans hg.os, hb.tape.trans hg.tape, hb.output.trans hg.output, Nat.le_trans hg.size hb.size, fun k hk hne => (hb.block k hk).trans (hg.block k hk hne)⟩
/-- Where a cell is no pointer, it lies in no block of three pointers. -/
theorem not_ptrs {w : World} {g b o : Nat} {p q r v : Value} (hk : Blk w g [p, q, r]) (hc : w.cell? ⟨b, o, none⟩ = some v) (hp : v ≠ p) (hq : v ≠ q) (hr : v ≠ r) : b ≠ g := by
  rintro rfl
  rw [hk.cell] at hc
  match o, hc with
  | 0, h => exact hp (Option.some.inj h).symm
  | 1, h => exact hq (Option.some.inj h).symm
  | 2, h => exact hr (Option.some.inj h).symm
  | o + 3, h => simp at h
theorem Sl.keepG {w w' : World} {B g : Nat} {v : Value} {l : List UInt8} {p q r : Option Addr} (h : Sl w B v l) (hk : Blk w g [.pointer p, .pointer q, .pointer r]) (hg : w.grownBy w' (some g)) : Sl w' B v l := by
  obtain ⟨A, c, rfl, h0, h1, h2, h3⟩ := h
  refine ⟨A, c, rfl, h0, h1, h2, fun hl => ?_⟩
  obtain ⟨b, o, rfl, hlt, hbs⟩ := h3 hl
  refine ⟨b, o, rfl, hlt, fun j hj => ?_⟩
  have hc := hbs j hj
  exact hg.cell hc (fun e => not_ptrs hk hc (by simp) (by simp) (by simp) (Option.some.inj e))
theorem Sls.keepG {w w' : World} {B g : Nat} {v : Value} {ls : List (List UInt8)} {p q r : Option Addr} (h : Sls w B v ls) (hk : Blk w g [.pointer p, .pointer q, .pointer r]) (hg : w.grownBy w' (some g)) : Sls w' B v ls := by
  obtain ⟨A, c, rfl, h1, h2, h3⟩ := h
  refine ⟨A, c, rfl, h1, h2, fun hl => ?_⟩
  obtain ⟨b, o, rfl, hlt, hx⟩ := h3 hl
  refine ⟨b, o, rfl, hlt, fun j hj => ?_⟩
  obtain ⟨vj, hc, hs⟩ := hx j hj
  refine ⟨vj, hg.cell hc (fun e => ?_), hs.keepG hk hg⟩
  obtain ⟨A', c', rfl, _⟩ := hs
  exact not_ptrs hk hc (by simp) (by simp) (by simp) (Option.some.inj e)
theorem MacK.row {w : World} {base g : Nat} {key : List UInt8} {bi bo : Nat} {t : Value} (h : MacK w base g key bi bo t) : ∃ a, Blk w g [.pointer (some ⟨bi, 0, none⟩), .pointer (some ⟨bo, 0, none⟩), .pointer a] := by
  obtain ⟨a, ha⟩ := h.tp
  exact ⟨a, ha ▸ h.blk⟩
theorem TabA.keepG {w w' : World} {g : Nat} {p q r : Option Addr} (h : TabA w) (hk : Blk w g [.pointer p, .pointer q, .pointer r]) (hg : w.grownBy w' (some g)) : TabA w' := fun j hj => by
  have hc := h j hj
  exact hg.cell hc (fun e => not_ptrs hk hc (by simp) (by simp) (by simp) (Option.some.inj e))
theorem Sls.more {w : World} {B B' : Nat} {v : Value} {ls : List (List UInt8)} (h : Sls w B v ls) (hB : B ≤ B') : Sls w B' v ls := by
  obtain ⟨A, c, rfl, h1, h2, h3⟩ := h
  refine ⟨A, c, rfl, h1, h2, fun hl => ?_⟩
  obtain ⟨b, o, rfl, hlt, hx⟩ := h3 hl
  exact ⟨b, o, rfl, by omega, fun j hj => by obtain ⟨vj, hc, hs⟩ := hx j hj; exact ⟨vj, hc, hs.more hB⟩⟩
theorem TabA.drew {w : World} (h : TabA w) : TabA w.drew := h
set_option maxRecDepth 100000 in
set_option maxHeartbeats 2000000 in
theorem macWhole_any (base g : Nat) (key : List UInt8) (bi bo : Nat) (t : Value) (v : Value) (ls : List (List UInt8)) (w : World) (h : MacK w base g key bi bo t) (hs : Sls w w.heap.size v ls) (hl : ∀ l ∈ ls, l.length ≤ 1000000) (hT : TabA w) :
    Calls Tryz.prog 69 #[ptr g, v] w fun e w' => ∃ v' bt, e = .returned v' ∧ OwnB w' w.heap.size v' (hm key ls.flatten) ∧ MacK w' base g key bi bo (ptr bt) ∧ w.grownBy w' (some g) := by
  have hG := tab_lt hT
  have hgl := h.blk.lt
  have hil := h.hi.lt
  have hol := h.ho.lt
  have HK := Lib.hid h; clear h
  have HS := Lib.hid hs
  have HT := Lib.hid hT; clear hT
  have HL := Lib.hid hl; clear hl
  obtain ⟨A, c, rfl, k1, k2, _⟩ := hs
  go_enter Tryz.func69, Tryz.ntmps69
  go_wp2_with fail
  refine (reset_any base g key bi bo t w HK.out).mono ?_
  rintro e w1 ⟨rfl, hK1, hM1, hg1⟩
  obtain ⟨a, hrow⟩ := HK.out.row
  have HS1 := Lib.hid (HS.out.keepG hrow hg1)
  have HT1 := Lib.hid (HT.out.keepG hrow hg1)
  have HK1 := Lib.hid hK1; clear hK1
  have HM1 := Lib.hid hM1; clear hM1
  have Hg1 := Lib.hid hg1; clear hg1 hrow
  obtain ⟨A', c', e', _, _, h3⟩ := HS1.out
  obtain ⟨rfl, rfl⟩ : A = A' ∧ c = c' := by injection e' with a b c; exact ⟨a, c⟩
  have H3 := Lib.hid h3; clear h3 e'
  go_wp2_with fail
  go_loopw [6, 11] (fun _ i wr => ∃ k : Nat, k ≤ ls.length ∧ i = .int .i64 k ∧ MacK wr base g key bi bo (ptr w.heap.size) ∧ HashM wr w.heap.size (maskL 54 (padK key) ++ (ls.take k).flatten) ∧ Below w.heap.size w1 wr) (fun _ i _ => ls.length - (intOf i).toNat)
  case atStart => exact ⟨0, by omega, rfl, HK1.out, by simpa using HM1.out, Below.refl _ _⟩
  case round =>
    obtain ⟨k, hk, rfl, hK2, hM2, hB2⟩ := hrel
    have HK2 := Lib.hid hK2; clear hK2
    have HM2 := Lib.hid hM2; clear hM2
    have HB2 := Lib.hid hB2; clear hB2
    by_cases hlt : k < ls.length
    · obtain ⟨b, o, rfl, hb, hx⟩ := H3.out (by omega)
      obtain ⟨vj, hc, hsl⟩ := hx k hlt
      have hcell : wr.cell? ⟨b, o + k, none⟩ = some vj := (HB2.out.cell (p := ⟨b, o + k, none⟩) hb).trans hc
      obtain ⟨l, hll⟩ : ∃ l, l = ls[k] := ⟨_, rfl⟩
      have hl1 : l.length ≤ 4611686018427387904 := by have := HL.out ls[k] (List.getElem_mem _); rw [hll]; omega
      rw [← hll] at hsl
      obtain ⟨A1, c1, rfl, hsr⟩ := (hsl.below HB2.out (Nat.le_refl _)).src (hb := w.heap.size) (Nat.le_refl _) (Nat.le_of_lt HM2.out.lt) hl1
      have HSR := Lib.hid hsr
      have HF : Hid ((ls.take (k + 1)).flatten = (ls.take k).flatten ++ l) := Lib.hid (by rw [List.take_succ_eq_append_getElem hlt, List.flatten_append, hll]; simp)
      clear hx hc hsl hsr hll
      go_wp2_with fail
      refine (macWrite_any base g key _ bi bo w.heap.size A1 c1 l wr HK2.out HM2.out HSR.out (HT1.out.below HB2.out hG) (by omega)).mono ?_
      rintro e w3 ⟨rfl, hM3, hg3⟩
      have HM3 := Lib.hid hM3; clear hM3
      have HK3 := Lib.hid (HK2.out.grown hg3 (by omega) (by omega) (by omega))
      have HB3 := Lib.hid (HB2.out.grown hg3 (Nat.le_of_lt HM2.out.lt) (fun j e => by cases e; exact Nat.le_refl _)); clear hg3
      go_wp2_with fail
      go_roundw
      case rel => exact ⟨k + 1, by omega, by go_num, HK3.out, by rw [HF.out]; exact HM3.out, HB3.out⟩
      case measure => simp [intOf]; omega
    · obtain rfl : k = ls.length := by omega
      rw [List.take_length] at HM2
      go_wp2_with fail
      refine (macSum_any base g key _ bi bo w.heap.size wr HK2.out HM2.out (HT1.out.below HB2.out hG)).mono ?_
      rintro e w3 ⟨v3, rfl, hO3, hB3⟩
      have hzr := HM2.out.lt
      have HO3 := Lib.hid hO3; clear hO3
      have HK3 := Lib.hid (HK2.out.below hB3 (Nat.le_refl _))
      have HB3 := Lib.hid (HB2.out.trans (hB3.mono (Nat.le_of_lt hzr))); clear hB3
      go_wp2_with fail
      go_ret
      exact ⟨_, w.heap.size, rfl, HO3.out.lower (Nat.le_of_lt hzr), HK3.out, grown_low Hg1.out HB3.out⟩
theorem vb54 : vb (54 : UInt8) = .int .u8 54 := rfl
theorem vb92 : vb (92 : UInt8) = .int .u8 92 := rfl
set_option maxRecDepth 100000 in
set_option maxHeartbeats 2000000 in
theorem macNew_any (v : Value) (key : List UInt8) (w : World) (hs : Sl w w.heap.size v key) (hl : key.length ≤ 1000000) (hT : TabA w) :
    Calls Tryz.prog 68 #[v] w fun e w' => ∃ g bi bo bt, e = .returned (ptr g) ∧ MacK w' w.heap.size g key bi bo (ptr bt) ∧ HashM w' bt (maskL 54 (padK key)) ∧ w.heap.size ≤ bt ∧ bt ≠ g ∧ bt ≠ bi ∧ bt ≠ bo ∧ Below w.heap.size w w' := by
  have hz := zero_arr
  have ha : azero.toArray.size = 64 := by decide
  have hG := tab_lt hT
  have HT := Lib.hid hT; clear hT
  have HS := Lib.hid hs; clear hs
  have HP : Hid (((padK key).map vb).toArray.size = 64) := Lib.hid (by rw [List.size_toArray, List.length_map, padK_length])
  go_enter Tryz.func68, Tryz.ntmps68
  go_wp2_with fail
  refine (pad_any v key w HS.out hl HT.out).mono ?_
  rintro e w1 ⟨rfl, hB⟩
  have hb3 : Below w1.heap.size w1 (w1.alloc (.cells azero.toArray 122)) := (Below.refl _ _).alloc (Nat.le_refl _) _
  have hk3 : Blk (w1.alloc (.cells azero.toArray 122)) w1.heap.size azero := Blk.newAt w1 azero.toArray _ rfl rfl
  have HB3 := Lib.hid hb3; clear hb3
  have HK3 := Lib.hid hk3; clear hk3
  have HB := Lib.hid hB; clear hB
  go_wp2_with ((with_reducible refine wpList_store_mid ?b1 122 (.tmp 3) (.tmp 6) ?b2 w1.heap.size 0 ((padK key).map vb).toArray ?b3 ?b4 ?b5 ?b6 (all_oneCell_toArray (oneCell_bytes _)) ?_); (case b1 => rfl); (case b2 => rfl); (case b3 => rfl); (case b4 => rfl); (case b5 => rw [HP.out]; exact HK3.out.there 0 64 (by decide)); (case b6 => rw [HP.out]; exact info_a64); (have HK4 : Hid (Blk ((w1.alloc (.cells azero.toArray 122)).setCells w1.heap.size 0 ((padK key).map vb)) w1.heap.size ((padK key).map vb)) := Lib.hid (HK3.out.setAll (by rw [List.length_map, padK_length]; rfl))); (have HB4 := Lib.hid (below_setCells (Nat.le_refl w1.heap.size) ((padK key).map vb) HB3.out 0)); (change wpList _ _ _ _ _ ((w1.alloc (.cells azero.toArray 122)).setCells w1.heap.size 0 ((padK key).map vb))); (generalize World.setCells _ _ _ _ = w5 at HK4 HB4 ⊢))
  have h54 := fun W h => begin_any 54 (padK key) W (padK_length key) h
  have h92 := fun W h => begin_any 92 (padK key) W (padK_length key) h
  rw [vb54] at h54
  rw [vb92] at h92
  have hw5 : w.heap.size ≤ w5.heap.size := Nat.le_trans HB.out.size HB4.out.size
  have hG1 : 0 < w1.heap.size := Nat.lt_of_lt_of_le hG HB.out.size
  have HT5 := Lib.hid ((HT.out.below HB.out hG).below HB4.out hG1)
  have HB5 := Lib.hid (HB.out.trans (HB4.out.mono HB.out.size))
  have hz1 := HK4.out.lt
  refine wp_region_noPanic ?_
  refine wp_region_held (S := fun w' => w'.rangeAt w1.heap.size 0 ((padK key).map vb)) (by kernel_rfl) ?_
  change wpAnyH _ _ _ _ _ _ _ _ w5.drew
  have hrng : ∀ W, Blk W w1.heap.size ((padK key).map vb) → W.rangeAt w1.heap.size 0 ((padK key).map vb) := fun W h => by
    have := h.range 0 64
    rwa [List.drop_zero, List.take_of_length_le (by rw [List.length_map, padK_length]; omega)] at this
  have hS0 : w5.drew.rangeAt w1.heap.size 0 ((padK key).map vb) := hrng _ HK4.out.drew
  refine takeHY 0 7 (.agg ((padK key).map vb).toArray) rfl rfl (by kernel_rfl) (by kernel_rfl) (by kernel_rfl) (fun _ _ _ h => h) (yieldsIf_load_mid rfl 122 (.tmp 3) rfl w1.heap.size 0 rfl ((padK key).map vb) _ (fun _ h => h) Tryz.underlying122 rfl (by rw [List.length_map, padK_length]; exact info_a64)) hS0 ?_
  go_frame
  refine takeHY 2 9 (.agg ((padK key).map vb).toArray) rfl rfl (by kernel_rfl) (by kernel_rfl) (by kernel_rfl) (fun _ _ _ h => h) (yieldsIf_load_mid rfl 122 (.tmp 3) rfl w1.heap.size 0 rfl ((padK key).map vb) _ (fun _ h => h) Tryz.underlying122 rfl (by rw [List.length_map, padK_length]; exact info_a64)) hS0 ?_
  go_frame
  refine wpAnyH_all (rs := [1]) (by kernel_rfl) (by simp) ?_
  simp only [List.mem_singleton, forall_eq]
  refine wpOp_callD 8 rfl rfl rfl 90 #[.agg ((padK key).map vb).toArray, .int .u8 54] (by go_simp) ?_
  refine (h54 w5.drew HT5.out.drew).mono ?_
  rintro e w6 ⟨bi, rfl, hbi, hMi, hB6⟩
  have hK6 : Blk w6 w1.heap.size ((padK key).map vb) := (HK4.out.drew).below hB6 hz1
  refine ⟨_, rfl, hrng _ hK6, ?_⟩
  go_frame
  refine wpAnyH_all (rs := [3]) (by kernel_rfl) (by simp) ?_
  simp only [List.mem_singleton, forall_eq]
  refine wpOp_callD 10 rfl rfl rfl 90 #[.agg ((padK key).map vb).toArray, .int .u8 92] (by go_simp) ?_
  have hG5 : 0 < w5.drew.heap.size := by show _ < w5.heap.size; omega
  refine (h92 w6 (HT5.out.drew.below hB6 hG5)).mono ?_
  rintro e w7 ⟨bo, rfl, hbo, hMo, hB7⟩
  have hil := hMi.lt
  have hK7 : Blk w7 w1.heap.size ((padK key).map vb) := hK6.below hB7 hK6.lt
  have hMi7 : HashM w7 bi (maskL 54 (padK key)) := hMi.below hB7 hil
  refine ⟨_, rfl, hrng _ hK7, ?_⟩
  go_frame
  refine takeH 4 11 (.agg #[ptr bi, ptr bo, .pointer none]) rfl rfl (by kernel_rfl) (by kernel_rfl) (by kernel_rfl) (fun _ _ _ h => h) rfl (fun w' hS => by go_simp; try rfl) (hrng _ hK7) ?_
  go_frame
  refine wpAnyH_all (rs := [5]) (by kernel_rfl) (by simp) ?_
  simp only [List.mem_singleton, forall_eq]
  refine wpOp_runD 12 rfl rfl rfl (ptr w7.heap.size) (w' := w7.alloc (.cells #[ptr bi, ptr bo, .pointer none] 137)) (by go_simp) ?_
  have hK8 : Blk (w7.alloc (.cells #[ptr bi, ptr bo, .pointer none] 137)) w1.heap.size ((padK key).map vb) := hK7.alloc _
  refine ⟨hrng _ hK8, ?_⟩
  go_frame
  refine takeH 6 4 (ptr w7.heap.size) rfl rfl (by kernel_rfl) (by kernel_rfl) (by kernel_rfl) (fun _ _ _ h => h) rfl (fun w' hS => by go_simp) (hrng _ hK8) ?_
  go_frame
  refine wpAnyH_done (by kernel_rfl) ?_ _
  refine NoPanic.normal ?_
  have hol := hMo.lt
  have hz6 := hB6.size
  have hz7 := hB7.size
  have hz5 : w5.drew.heap.size = w5.heap.size := rfl
  have hmac : MacK (w7.alloc (.cells #[ptr bi, ptr bo, .pointer none] 137)) w.heap.size w7.heap.size key bi bo (.pointer none) :=
    ⟨Blk.newA w7 _ _, HashAt.grown hMi7 (World.grownBy_alloc _ _ none) (by simp), HashAt.grown hMo (World.grownBy_alloc _ _ none) (by simp), by omega, by omega, by omega, by omega, by omega, none, rfl⟩
  have hb8 : Below w.heap.size w (w7.alloc (.cells #[ptr bi, ptr bo, .pointer none] 137)) :=
    (((below_drewN HB5.out 1).trans (hB6.mono (by omega))).trans (hB7.mono (by omega))).alloc (by omega) _
  generalize hg8 : w7.alloc (.cells #[ptr bi, ptr bo, .pointer none] 137) = w8 at hmac hb8 ⊢
  have HMac := Lib.hid hmac; clear hmac
  have HB8 := Lib.hid hb8; clear hb8
  clear hg8 hK8 hK7 hMi7 hMi hMo hB6 hB7 hK6 hS0 hrng h54 h92
  obtain ⟨G8, hG8⟩ : ∃ g, g = w7.heap.size := ⟨_, rfl⟩
  rw [← hG8] at HMac ⊢
  clear hG8
  have n1 := HMac.out.blk.lt
  have n2 := HMac.out.hi.lt
  have n3 := HMac.out.ho.lt
  go_wp2_with fail
  refine (reset_any w.heap.size G8 key bi bo (.pointer none) w8 HMac.out).mono ?_
  rintro e w9 ⟨rfl, hK9, hM9, hg9⟩
  have HK9 := Lib.hid hK9; clear hK9
  have HM9 := Lib.hid hM9; clear hM9
  have HB9 := Lib.hid (HB8.out.grown hg9 HB8.out.size (fun j e => by cases e; exact HMac.out.lg)); clear hg9
  go_wp2_with fail
  go_ret
  exact ⟨G8, bi, bo, w8.heap.size, rfl, HK9.out, HM9.out, HB8.out.size, by omega, by omega, by omega, HB9.out⟩
set_option maxRecDepth 100000 in
set_option maxHeartbeats 2000000 in
/-- hmac.Sum of parts. -/
theorem hmacSum_any (v v2 : Value) (key : List UInt8) (ls : List (List UInt8)) (w : World) (hs : Sl w w.heap.size v key) (hl : key.length ≤ 1000000) (hs2 : Sls w w.heap.size v2 ls) (hl2 : ∀ l ∈ ls, l.length ≤ 1000000) (hT : TabA w) :
    Calls Tryz.prog 44 #[v, v2] w fun e w' => ∃ v', e = .returned v' ∧ OwnB w' w.heap.size v' (hm key ls.flatten) ∧ Below w.heap.size w w' := by
  have hG := tab_lt hT
  have HT := Lib.hid hT; clear hT
  have HS := Lib.hid hs; clear hs
  have HS2 := Lib.hid hs2; clear hs2
  go_enter Tryz.func44, Tryz.ntmps44
  go_wp2_with fail
  refine (macNew_any v key w HS.out hl HT.out).mono ?_
  rintro e w1 ⟨g, bi, bo, bt, rfl, hK, _, _, _, _, _, hB⟩
  have HK := Lib.hid hK; clear hK
  have HB := Lib.hid hB; clear hB
  have hz := HB.out.size
  go_wp2_with fail
  have hsx := (HS2.out.below HB.out (Nat.le_refl _)).more hz
  refine (macWhole_any w.heap.size g key bi bo (ptr bt) v2 ls w1 HK.out hsx hl2 (HT.out.below HB.out hG)).mono ?_
  rintro e w2 ⟨v3, bt', rfl, hO, _, hg⟩
  have HO := Lib.hid hO; clear hO
  have HB2 := Lib.hid (HB.out.grown hg hz (fun j e => by cases e; exact HK.out.lg)); clear hg hsx
  go_wp2_with fail
  go_ret
  exact ⟨_, rfl, HO.out.lower hz, HB2.out⟩
end Go.Proofs.YtlnjpmpddomjiaaGreatDoor
