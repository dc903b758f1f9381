/- hmac.Xor, for a seat without the HMACs' texts. -/
import Derived.Test.YtpfbpiegejbhkaaDoorBeSu
import Derived.Deep.QuietTactic
import Derived.BigQuiet
namespace Go.Proofs.YtpfbpiegejbhkaaDoor
open Go.RowKit
/-- Block b is a row of elements of type t, none barred. -/
def Ty (w : World) (b : Nat) (t : TypeId) : Prop := ∃ cs, w.heap[b]? = some (.cells cs t (0, 0))
theorem Ty.new (w : World) (cs : Array Value) (t : TypeId) : Ty (w.alloc (.cells cs t)) w.heap.size t := ⟨cs, heap_alloc_new w _⟩
theorem Ty.set {w : World} {b : Nat} {t : TypeId} (h : Ty w b t) (b' o : Nat) (v : Value) : Ty (w.setCell ⟨b', o, none⟩ v) b t := by
  obtain ⟨cs, h⟩ := h
  by_cases he : b' = b
  · subst he
    refine ⟨cs.setIfInBounds o v, ?_⟩
    simp only [World.setCell]
    rw [Array.getElem?_modify, if_pos rfl, h]
    simp
  · exact ⟨cs, (Below.heap_setCell w ⟨b', o, none⟩ v b (Ne.symm he)).trans h⟩
theorem Ty.setCells {b b' : Nat} {t : TypeId} (vs : List Value) : ∀ {w : World} (_ : Ty w b t) (o : Nat), Ty (w.setCells b' o vs) b t := by
  induction vs with
  | nil => intro w h o; exact h
  | cons v vs ih => intro w h o; exact ih (h.set b' o v) (o + 1)
theorem Ty.below {w w' : World} {b B : Nat} {t : TypeId} (h : Ty w b t) (hb : Below B w w') (hB : b < B) : Ty w' b t := by
  obtain ⟨cs, h⟩ := h; exact ⟨cs, (hb.block b hB).trans h⟩
theorem Ty.blk {w : World} {b : Nat} {t : TypeId} {cs : List Value} (h : Ty w b t) (hk : Blk w b cs) : w.heap[b]? = some (.cells cs.toArray t (0, 0)) := by
  obtain ⟨cs', h⟩ := h
  obtain ⟨t', hk⟩ := hk
  rw [h] at hk
  injection hk with e
  injection e with e1 e2 e3
  rw [h, e1]
theorem OwnB.of_blk {w : World} {base b cap : Nat} {l : List UInt8} (ht : Ty w b 5) (hk : Blk w b (l.map vb)) (hb : base ≤ b) (hc : l.length = cap) (hm : cap ≤ 1000000) : OwnB w base (.slice (some ⟨b, 0, none⟩) cap cap) l :=
  OwnB.of_heap hb (ht.blk hk) (by simp [hc]) (by unfold maxLen; omega) hc (by rw [← hc]; exact List.take_of_length_le (by simp)) (Nat.le_refl _)

def xorN (a b : List UInt8) (j : Nat) : List UInt8 := (List.zipWith (· ^^^ ·) a b).take j ++ List.replicate (min a.length b.length - j) 0
def xorL (a b : List UInt8) : List UInt8 := List.zipWith (· ^^^ ·) a b
theorem xorL_length (a b : List UInt8) : (xorL a b).length = min a.length b.length := by unfold xorL; simp
theorem xorN_zero (a b : List UInt8) : xorN a b 0 = List.replicate (min a.length b.length) 0 := by unfold xorN; simp
theorem xorN_all (a b : List UInt8) : xorN a b (min a.length b.length) = xorL a b := by unfold xorN xorL; simp [List.take_of_length_le]
theorem xorN_length (a b : List UInt8) (j : Nat) (h : j ≤ min a.length b.length) : (xorN a b j).length = min a.length b.length := by unfold xorN; simp; omega
theorem xorN_succ (a b : List UInt8) (j : Nat) (ha : j < a.length) (hb : j < b.length) : xorN a b (j + 1) = (xorN a b j).set j (a[j] ^^^ b[j]) := by
  unfold xorN
  have hz : j < (List.zipWith (· ^^^ ·) a b).length := by simp; omega
  rw [List.take_succ_eq_append_getElem hz, List.set_append_right _ _ (by simp; omega)]
  have e1 : (List.take j (List.zipWith (· ^^^ ·) a b)).length = j := by simp; omega
  rw [e1, Nat.sub_self, show min a.length b.length - j = (min a.length b.length - (j + 1)) + 1 by omega, List.replicate_succ, List.set_cons_zero]
  simp
theorem bv_xor8 (x y : UInt8) : bits .xor .u8 (bn x) (bn y) = bn (x ^^^ y) := by
  show IntKind.u8.wrap ((BitVec.ofInt 8 (bn x) ^^^ BitVec.ofInt 8 (bn y)).toNat : Int) = _
  rw [ofInt_bn, ofInt_bn, IntKind.wrap_u8]
  have h2 : (x.toBitVec ^^^ y.toBitVec).toNat = (x ^^^ y).toNat := rfl
  rw [h2]
  unfold bn
  have := (x ^^^ y).toNat_lt
  omega
theorem Ty.drew {w : World} {b : Nat} {t : TypeId} (h : Ty w b t) : Ty w.drew b t := h
set_option maxRecDepth 100000 in
set_option maxHeartbeats 2000000 in
theorem xor_any (B : Nat) (v1 v2 : Value) (a b : List UInt8) (w : World) (h1 : Sl w B v1 a) (h2 : Sl w B v2 b) (hB : B ≤ w.heap.size) (hla : a.length ≤ 10000) (hlb : b.length ≤ 10000) :
    Calls Tryd.prog 29 #[v1, v2] w fun e w' => ∃ v', e = .returned v' ∧ OwnB w' w.heap.size v' (xorL a b) ∧ Below w.heap.size w w' := by
  obtain ⟨A1, c1, rfl, _, p1, p2, p3⟩ := h1
  obtain ⟨A2, c2, rfl, _, q1, q2, q3⟩ := h2
  have P3 := Lib.hid p3; clear p3
  have Q3 := Lib.hid q3; clear q3
  obtain ⟨n, hn⟩ : ∃ n : Nat, n = min a.length b.length := ⟨_, rfl⟩
  have hna : n ≤ a.length := by omega
  have hnb : n ≤ b.length := by omega
  have HN := Lib.hid hn; clear hn
  have hk0 : Blk (w.alloc (.cells (noughts n) 5)) w.heap.size ((xorN a b 0).map vb) := Blk.newAt w _ _ rfl (by rw [xorN_zero, ← HN.out, List.map_replicate, noughts_list])
  have hy0 : Ty (w.alloc (.cells (noughts n) 5)) w.heap.size 5 := Ty.new w _ _
  have hb0 : Below w.heap.size w (w.alloc (.cells (noughts n) 5)) := (Below.refl _ _).alloc (Nat.le_refl _) _
  have HK0 := Lib.hid hk0; clear hk0
  have HY0 := Lib.hid hy0; clear hy0
  have HB0 := Lib.hid hb0; clear hb0
  have hcase : (∃ q : Int, q = (a.length : Int) ∧ q ≤ (b.length : Int) ∧ q = (n : Int)) ∨ (∃ q : Int, q = (b.length : Int) ∧ q < (a.length : Int) ∧ q = (n : Int)) := by
    have := HN.out
    by_cases h : a.length ≤ b.length
    · exact .inl ⟨_, rfl, by omega, by omega⟩
    · exact .inr ⟨_, rfl, by omega, by omega⟩
  have hmk0 : ∀ (q : Int) (W : World), q = (n : Int) → (Instr.makeSlice 23 (.int .i64 q) (.int .i64 q)).run Tryd.prog W = .ok (.slice (some ⟨W.heap.size, 0, none⟩) n n) (W.alloc (.cells (noughts n) 5)) := fun q W h => by rw [h]; exact make_bytes n n (Nat.le_refl _) (by omega) W
  rcases hcase with ⟨q, e1, e2, e3⟩ | ⟨q, e1, e2, e3⟩
  all_goals
  have hmk := fun W => hmk0 q W e3
  have hmk2 := fun W => hmk0 (min (a.length : Int) (b.length : Int)) W (by have := HN.out; omega)
  rw [e1] at hmk e2
  have HQ := Lib.hid e3
  clear e3 e1 hmk0
  go_enter Tryd.func29, Tryd.ntmps29
  go_wp2_with fail
  go_loopw [6, 15] (fun _ i wr => ∃ j : Nat, j ≤ n ∧ i = .int .i64 j ∧ Blk wr w.heap.size ((xorN a b j).map vb) ∧ Ty wr w.heap.size 5 ∧ Below w.heap.size w wr) (fun _ i _ => n - (intOf i).toNat)
  case atStart => exact ⟨0, by omega, rfl, HK0.out, HY0.out, HB0.out⟩
  case round =>
    obtain ⟨j, hj, rfl, hk, hy, hb⟩ := hrel
    by_cases hlt : j < n
    · obtain ⟨b1, o1, rfl, hb1, hc1⟩ := P3.out (by omega)
      obtain ⟨b2, o2, rfl, hb2, hc2⟩ := Q3.out (by omega)
      obtain ⟨x, hx⟩ : ∃ x, x = a[j]'(by omega) := ⟨_, rfl⟩
      obtain ⟨y, hy2⟩ : ∃ y, y = b[j]'(by omega) := ⟨_, rfl⟩
      have d1 : wr.cell? ⟨b1, o1 + j, none⟩ = some (vb x) := by rw [hx]; exact (hc1.below hb (by omega)) j (by omega)
      have d2 : wr.cell? ⟨b2, o2 + j, none⟩ = some (vb y) := by rw [hy2]; exact (hc2.below hb (by omega)) j (by omega)
      have hlen : ((xorN a b j).map vb).length = n := by rw [List.length_map, xorN_length _ _ _ (by have := HN.out; omega), HN.out]
      have d3 : ∃ z, wr.cell? ⟨w.heap.size, j, none⟩ = some z := ⟨_, hk.at (List.getElem?_eq_getElem (by omega))⟩
      obtain ⟨z, d3⟩ := d3
      have f3 := hk.free j
      have hset : (xorN a b (j + 1)).map vb = ((xorN a b j).map vb).set j (vb (x ^^^ y)) := by rw [xorN_succ a b j (by omega) (by omega), List.map_set, hx, hy2]
      have hbx := bv_xor8 x y
      have HK := Lib.hid hk; clear hk
      have HY := Lib.hid hy; clear hy
      have HB := Lib.hid hb; clear hb
      have HS := Lib.hid hset; clear hset hx hy2 hlen hc1 hc2
      go_wp2_with fail
      go_region
      go_wp2_with fail
      go_roundw
      case rel => exact ⟨j + 1, by omega, by go_num, by rw [HS.out]; exact HK.out.drew.set j _, HY.out.drew.set _ _ _, HB.out.drew.setCell (p := ⟨w.heap.size, j, none⟩) (Nat.le_refl _) _⟩
      case measure => simp [intOf]; omega
    · obtain rfl : j = n := by omega
      have hN := HN.out
      have hall : xorN a b j = xorL a b := by rw [hN]; exact xorN_all a b
      rw [hall] at hk
      have hln : (xorL a b).length = j := by rw [xorL_length, ← hN]
      have HK := Lib.hid hk; clear hk
      have HY := Lib.hid hy; clear hy
      have HB := Lib.hid hb; clear hb
      have HLN := Lib.hid hln; clear hln
      clear hall hN
      go_wp2_with fail
      go_ret
      exact ⟨_, rfl, OwnB.of_blk HY.out HK.out (Nat.le_refl _) HLN.out (by omega), HB.out⟩

end Go.Proofs.YtpfbpiegejbhkaaDoor
