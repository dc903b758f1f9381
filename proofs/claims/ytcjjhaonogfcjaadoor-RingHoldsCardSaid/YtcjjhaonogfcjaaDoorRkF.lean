/- ring: find, Key of an epoch that isn't there, Retire of one that is, Sign without a key, Len. -/
import Derived.Test.YtcjjhaonogfcjaaDoorRkB
set_option maxRecDepth 100000
namespace Go.Proofs.YtcjjhaonogfcjaaDoor
open Go.RowKit
attribute [local go_sem] Oper.semAt_some
theorem cell_belowK {W W' : World} {p : Addr} {v : Value} (h : W.cell? p = some v) (hb : Below W.heap.size W W') : W'.cell? p = some v := (hb.cell (World.block_lt_of_cell? W p h)).trans h
theorem findW (cb ep : Nat) (k : KyL) (A : World) (h : A.cell? ⟨cb, 0, none⟩ = some (.int .u64 (ep : Int))) :
    Calls Tryd.prog 25 #[kyA k, .pointer (some ⟨cb, 0, none⟩)] A fun r B => r = .returned (.bool (decide (k.n = ep))) ∧ Below A.heap.size A B := by
  have hlt : cb < A.heap.size := World.block_lt_of_cell? A ⟨cb, 0, none⟩ h
  obtain ⟨N, Ad, m, c⟩ := k
  have hc : (A.alloc (.cells #[.int .u64 N, .slice Ad m c] tKy)).cell? ⟨cb, 0, none⟩ = some (.int .u64 ep) := cell_belowK h ((Below.refl _ A).alloc (Nat.le_refl _) _)
  have HB := Lib.hid (show Below A.heap.size A (A.alloc (.cells #[.int .u64 N, .slice Ad m c] tKy)) from (Below.refl _ A).alloc (Nat.le_refl _) _)
  have he : ((N : Int) == (ep : Int)) = decide (N = ep) := by
    by_cases h1 : N = ep
    · subst h1; simp
    · rw [decide_eq_false h1, beq_eq_false_iff_ne]; omega
  clear h hlt
  unfold kyA
  simp only
  go_enter Tryd.func25, Tryd.ntmps25
  go_wp2_with fail
  go_ret
  exact ⟨by first | rfl | rw [he] | simp, HB.out⟩
/-- Where an epoch's key stands. -/
def FindR (L : List KyL) (ep : Nat) (i : Int) : Prop := (i = -1 ∧ ∀ j (h : j < L.length), L[j].n ≠ ep) ∨ (∃ k, ∃ h : k < L.length, i = (k : Int) ∧ L[k].n = ep)
set_option maxHeartbeats 4000000 in
theorem indexFunc_any (V : Value) (L : List KyL) (cb ep : Nat) (w : World) (hV : KyIn w w.heap.size V L) (hl : L.length ≤ 1000) (hc : w.cell? ⟨cb, 0, none⟩ = some (.int .u64 (ep : Int))) :
    Calls Tryd.prog 24 #[V, .func (Fn.func 25) #[] #[.pointer (some ⟨cb, 0, none⟩)]] w fun e w' => (∃ i, e = .returned (.int .i64 i) ∧ FindR L ep i) ∧ Below w.heap.size w w' := by
  have HV := Lib.hid hV
  have HC := Lib.hid hc
  obtain ⟨A, c, rfl, -⟩ := id hV
  clear hV hc
  go_enter Tryd.func24, Tryd.ntmps24
  go_wp2_with fail
  go_loopw [5, 8] (fun _ i wr => ∃ k : Nat, k ≤ L.length ∧ i = .int .i64 (k : Int) ∧ (∀ j (h : j < L.length), j < k → L[j].n ≠ ep) ∧ Below w.heap.size w wr) (fun _ i _ => L.length - (intOf i).toNat)
  case atStart => exact ⟨0, by omega, rfl, fun j _ h => by omega, Below.refl _ _⟩
  case round =>
    obtain ⟨k, hk, rfl, hno, hb⟩ := hrel
    have HNO := Lib.hid hno
    have HB := Lib.hid hb
    clear hno hb
    by_cases hlt : k < L.length
    · obtain ⟨g, o, hA, hgl, c0, c1⟩ := (HV.out.below HB.out (Nat.le_refl _)).pair k hlt
      subst hA
      obtain ⟨y, hy⟩ : ∃ y, y = L[k] := ⟨_, rfl⟩
      rw [← hy] at c0 c1
      have HF := Lib.hid (findW cb ep y wr (cell_belowK HC.out HB.out))
      have HY := Lib.hid hy
      obtain ⟨N, Ad, m, cc⟩ := y
      unfold kyA at HF
      simp only at HF c0 c1
      clear hy
      go_wp2_with fail
      refine HF.out.mono ?_
      rintro r w2 ⟨rfl, hb2⟩
      have HB2 := Lib.hid (HB.out.trans (hb2.mono HB.out.size))
      clear hb2 c0 c1 HF
      by_cases he : N = ep
      · rw [decide_eq_true he]
        have HE := Lib.hid (show L[k].n = ep from by rw [← HY.out]; exact he)
        clear he
        go_wp2_with fail
        go_ret
        exact ⟨⟨_, rfl, .inr ⟨k, hlt, rfl, HE.out⟩⟩, HB2.out⟩
      · rw [decide_eq_false he]
        have HE := Lib.hid (show L[k].n ≠ ep from by rw [← HY.out]; exact he)
        clear he
        go_wp2_with fail
        go_roundw
        case rel => exact ⟨k + 1, by omega, by go_num, fun j h hj => by by_cases q : j = k; subst q; exact HE.out; exact HNO.out j h (by omega), HB2.out⟩
        case measure => simp [intOf]; omega
    · obtain rfl : k = L.length := by omega
      go_wp2_with fail
      go_ret
      exact ⟨⟨_, rfl, .inl ⟨rfl, fun j h => HNO.out j h h⟩⟩, HB.out⟩
section
variable {w : World} {base r bx room last : Nat} {V MV : Value} {L : List KyL} {key : List UInt8}
theorem find_any (h : RG w base r bx V MV room last L key) (ep : Nat) :
    Calls Tryd.prog 19 #[.pointer (some ⟨r, 0, none⟩), .int .u64 (ep : Int)] w fun e w' => (∃ i, e = .returned (.int .i64 i) ∧ FindR L ep i) ∧ Below w.heap.size w w' := by
  have hmf : ∀ (fn : Fn) (first cap : Array Value) (w : World), (Instr.makeFunc fn first cap).run Tryd.prog w = .ok (.func fn first cap) w := fun _ _ _ _ => rfl
  obtain ⟨W, hW⟩ : ∃ W, W = w.alloc (.cells #[.int .u64 (ep : Int)] 31) := ⟨_, rfl⟩
  have hb : Below w.heap.size w W := by rw [hW]; exact (Below.refl _ w).alloc (Nat.le_refl _) _
  have hc : W.cell? ⟨w.heap.size, 0, none⟩ = some (.int .u64 (ep : Int)) := by rw [hW]; exact (Blk.new w [.int .u64 (ep : Int)] _).at (o := 0) rfl
  have HI := Lib.hid (indexFunc_any V L w.heap.size ep W (h.below hb).own.kyIn (by have := h.len; omega) hc)
  have k4 : (w.alloc (.cells #[.int .u64 (ep : Int)] 31)).cell? ⟨r, 4, none⟩ = some V := by rw [← hW]; exact (h.below hb).blk.at (o := 4) rfl
  have HB := Lib.hid hb
  clear hb hc h
  go_enter Tryd.func19, Tryd.ntmps19
  go_wp2_with fail
  rw [← hW]
  clear hW
  refine HI.out.mono ?_
  rintro e w1 ⟨⟨i, rfl, hF⟩, hb⟩
  have HF := Lib.hid hF
  have HB1 := Lib.hid (HB.out.trans (hb.mono HB.out.size))
  clear hF hb HI
  go_wp2_with fail
  go_ret
  exact ⟨⟨_, rfl, HF.out⟩, HB1.out⟩
theorem key_none (h : RG w base r bx V MV room last L key) (ep : Nat) (hn : ∀ k ∈ L, k.n ≠ ep) :
    Calls Tryd.prog 12 #[.pointer (some ⟨r, 0, none⟩), .int .u64 (ep : Int)] w fun e w' => e = .returned (.tuple #[.slice none 0 0, .int .i64 15]) ∧ Below w.heap.size w w' := by
  have HF := Lib.hid (find_any h ep)
  have HN := Lib.hid hn
  clear h hn
  go_enter Tryd.func12, Tryd.ntmps12
  go_wp2_with fail
  refine HF.out.mono ?_
  rintro e w1 ⟨⟨i, rfl, hF⟩, hb⟩
  have hi : i = -1 := by
    rcases hF with ⟨h, _⟩ | ⟨k, hk, _, h⟩
    · exact h
    · exact absurd h (HN.out _ (List.getElem_mem hk))
  subst hi
  have HB := Lib.hid hb
  clear hF hb HF
  go_wp2_with fail
  go_ret2
  exact ⟨rfl, HB.out⟩
theorem sign_none (h : RG w base r bx V MV room last L key) (v : Value) (hn : ∀ k ∈ L, k.n ≠ last) :
    Calls Tryd.prog 8 #[.pointer (some ⟨r, 0, none⟩), v] w fun e w' => e = .returned (.tuple #[.int .u64 0, .slice none 0 0, .int .i64 15]) ∧ Below w.heap.size w w' := by
  have k3 : w.cell? ⟨r, 3, none⟩ = some (.int .u64 (last : Int)) := h.blk.at (o := 3) rfl
  have HK := Lib.hid (key_none h last hn)
  clear h hn
  go_enter Tryd.func8, Tryd.ntmps8
  go_wp2_with fail
  refine HK.out.mono ?_
  rintro e w1 ⟨rfl, hb⟩
  have HB := Lib.hid hb
  clear hb HK
  go_wp2_with fail
  go_ret3
  exact ⟨rfl, HB.out⟩
theorem len_any (h : RG w base r bx V MV room last L key) :
    Calls Tryd.prog 13 #[.pointer (some ⟨r, 0, none⟩)] w fun e w' => e = .returned (.int .i64 (L.length : Int)) ∧ w' = w := by
  obtain ⟨A, c, rfl, -⟩ := h.own.form
  have k4 : w.cell? ⟨r, 4, none⟩ = some (.slice A L.length c) := h.blk.at (o := 4) rfl
  clear h
  go_enter Tryd.func13, Tryd.ntmps13
  go_wp2_with fail
  go_ret
  exact ⟨rfl, rfl⟩
set_option maxHeartbeats 4000000 in
/-- Retire of an epoch whose key is the last. -/
theorem retire_at (h : RG w base r bx V MV room last L key) (ep : Nat) (hx : ∃ k ∈ L, k.n = ep) :
    Calls Tryd.prog 11 #[.pointer (some ⟨r, 0, none⟩), .int .u64 (ep : Int)] w fun e w' => e = .returned (.int .i64 0) ∧
      ∃ V' L' k, RG w' base r bx V' MV room last L' key ∧ (∃ hk : k < L.length, L[k].n = ep) ∧ L' = L.take k ++ L.drop (k + 1) ∧ Trs (rgS r V) w w' ∧ (∀ i ∈ rgS r V', i ∈ rgS r V ∨ w.heap.size ≤ i) := by
  have HF := Lib.hid (find_any h ep)
  have HX := Lib.hid hx
  have HH := Lib.hid h
  obtain ⟨A, c, rfl, -⟩ := h.own.form
  clear h hx
  go_enter Tryd.func11, Tryd.ntmps11
  go_wp2_with fail
  refine HF.out.mono ?_
  rintro e w1 ⟨⟨i, rfl, hF⟩, hb⟩
  obtain ⟨k, hk, hi, hn⟩ : ∃ k, ∃ h : k < L.length, i = (k : Int) ∧ L[k].n = ep := by
    rcases hF with ⟨_, h⟩ | h
    · obtain ⟨y, hy, hye⟩ := HX.out
      obtain ⟨j, hj, rfl⟩ := List.getElem_of_mem hy
      exact absurd hye (h j hj)
    · exact h
  subst hi
  have H1 := Lib.hid (HH.out.below hb)
  have HT1 := Lib.hid (show Trs (rgS r (.slice A L.length c)) w w1 from Trs.of_below hb)
  have HKN := Lib.hid hn
  have HLL := Lib.hid H1.out.len
  obtain ⟨g, rfl⟩ : ∃ g, A = some ⟨g, 0, none⟩ := by
    rcases H1.out.own.2 with ⟨e, _⟩ | ⟨g, cap', cur, e, _⟩
    · injection e with e1 e2 _
      omega
    · injection e with e1 _ _
      exact ⟨g, e1⟩
  have k4 : w1.cell? ⟨r, 4, none⟩ = some (.slice (some ⟨g, 0, none⟩) L.length c) := H1.out.blk.at (o := 4) rfl
  have HDEL := Lib.hid (delete_ky base g c L k (k + 1) rfl w1 H1.out.own hk (by have := HLL.out; omega))
  have hcast : (((k + 1 : Nat) : Int)) = (k : Int) + 1 := by omega
  rw [hcast] at HDEL
  have hwr : IntKind.i64.wrap ((k : Int) + 1) = (k : Int) + 1 := IntWalk.i64_in _ (by have := HLL.out; omega)
  have hneg : decide ((k : Int) < 0) = false := decide_eq_false (by omega)
  clear hF hb hn HF HX HH hcast
  go_wp2_with fail
  refine HDEL.out.mono ?_
  rintro e w8 ⟨rfl, hO8, hg8⟩
  obtain ⟨h9, ht9⟩ := H1.out.gone hO8 hg8 (by rw [List.length_append, List.length_take, List.length_drop]; have := HLL.out; omega)
  have hk8 := H1.out.blk.grown hg8 (fun e => H1.out.apv.1 e.symm)
  have HT9 := Lib.hid (HT1.out.trans ht9)
  have H9 := Lib.hid h9
  have c8 : w8.cell? ⟨r, 4, none⟩ = some (.slice (some ⟨g, 0, none⟩) L.length c) := hk8.at (o := 4) rfl
  have f8 := hk8.free 4
  clear h9 ht9 hk8 hO8 hg8 HDEL H1 HT1 k4 hwr hneg
  go_wp2_with fail
  go_ret
  exact ⟨rfl, _, _, k, H9.out, ⟨hk, HKN.out⟩, rfl, HT9.out, fun i hi => .inl (by rcases mem_rgS.1 hi with e | e; exact mem_rgS.2 (.inl e); exact mem_rgS.2 (.inr e))⟩
end
end Go.Proofs.YtcjjhaonogfcjaaDoor
