/- The reference of frame: Pack's errors, Unpack, Same. -/
import Derived.Test.YtgldfobfchnkeaaFrRef
namespace Go.Proofs.Ytgldfobfchnkeaa
open Go.RowKit

set_option maxRecDepth 100000 in
set_option maxHeartbeats 1000000 in
theorem packRef_bad (k : UInt8) (v : Value) (l : List UInt8) (B : Nat) (w : World) (hv : Sl w B v l) (h : chk k l.length ≠ 0) (hl : l.length ≤ 1000000) :
    Calls Try.prog 12 #[.agg #[vb k, v]] w fun e w' => e = .returned (.tuple #[.slice none 0 0, .int .i64 (chk k l.length : Int)]) ∧ Below w.heap.size w w' := by
  obtain ⟨A, c, rfl, _, k1, k2, _⟩ := hv
  have hr := bn_range k
  rcases chk_cases k l.length with ⟨h, h1 | h1⟩ | ⟨h, h1, h2, h3⟩ | ⟨h', _⟩
  · rw [h]
    have h0 : bn k = 0 := by omega
    obtain ⟨q, hq⟩ : ∃ q, q = bn k := ⟨_, rfl⟩
    rw [vb, h0]
    clear h hq h1 h0 hr
    go_enter Try.func12, Try.ntmps12
    go_wp2_with fail
    go_ret2
    exact ⟨rfl, (Below.refl _ _).alloc (Nat.le_refl _) _⟩
  · rw [h]
    have h0 : ((bn k : Int) == 0) = false := by simp; omega
    go_enter Try.func12, Try.ntmps12
    go_wp2_with fail
    go_ret2
    exact ⟨rfl, (Below.refl _ _).alloc (Nat.le_refl _) _⟩
  · rw [h]
    have h0 : ((bn k : Int) == 0) = false := by simp; omega
    go_enter Try.func12, Try.ntmps12
    go_wp2_with fail
    go_ret2
    exact ⟨rfl, (Below.refl _ _).alloc (Nat.le_refl _) _⟩
  · exact absurd h' h
/-- What the reference's Unpack answers. -/
def UnR (u : Un) (B : Nat) (e : Ending) (w' : World) : Prop :=
  match u with
  | .no c => e = .returned (.tuple #[.agg #[.int .u8 0, .slice none 0 0], .slice none 0 0, .int .i64 (c : Int)])
  | .fr k body rest => ∃ v' r', e = .returned (.tuple #[.agg #[vb k, v'], r', .int .i64 0]) ∧ Sl w' w'.heap.size v' body ∧ Sl w' B r' rest
set_option maxRecDepth 100000 in
set_option maxHeartbeats 1000000 in
theorem unpackRef_short (B : Nat) (v : Value) (l : List UInt8) (w : World) (hv : Sl w B v l) (hl : l.length < 3) :
    Calls Try.prog 16 #[v] w fun e w' => UnR (.no 2) B e w' ∧ Below w.heap.size w w' := by
  obtain ⟨A, c, rfl, _, k1, k2, _⟩ := hv
  go_enter Try.func16, Try.ntmps16
  go_wp2_with fail
  refine bodyPost_ret (v := .tuple #[.agg #[.int .u8 0, .slice none 0 0], .slice none 0 0, .int .i64 2]) (by simp [results, Try.results16, go_sem]) rfl ⟨rfl, ?_⟩
  exact (Below.refl _ _).alloc (Nat.le_refl _) _
set_option maxRecDepth 100000 in
set_option maxHeartbeats 1000000 in
theorem unpackRef_no (B : Nat) (v : Value) (k a b : UInt8) (r : List UInt8) (w : World) (hv : Sl w B v (k :: a :: b :: r)) (hB : B ≤ w.heap.size) (hl : r.length ≤ 1000000) (c : Nat) (h : un (k :: a :: b :: r) = .no c) :
    Calls Try.prog 16 #[v] w fun e w' => UnR (.no c) B e w' ∧ Below w.heap.size w w' := by
  have HV := Lib.hid hv
  obtain ⟨A, cp, rfl, _, k1, k2, _⟩ := hv
  obtain ⟨g, o, rfl, hg, c0, _, _⟩ := HV.out.head3
  have hg' : g < w.heap.size := by omega
  have hlen : (k :: a :: b :: r).length = r.length + 3 := by simp
  rw [hlen] at k1 HV ⊢
  obtain ⟨V, hrun, hsl, hform⟩ := slice_mid (some ⟨g, o, none⟩) (r.length + 3) cp 1 3 1 3 rfl rfl (by omega) (by omega) k1
  have HS : Hid (∀ W, Below w.heap.size w W → Sl W w.heap.size V [a, b]) := Lib.hid fun W hW => by
    have := hsl W w.heap.size _ ((HV.out.more hB).below hW (Nat.le_refl _)) (by simp)
    simpa using this
  clear hlen hsl hform
  have hr := bn_range k
  have hn := num2_lt a b
  have Hu := Lib.hid h
  rcases chk_cases k (num2 a b) with ⟨h', h1 | h1⟩ | ⟨h', h1, h2, h3⟩ | ⟨h', h1, h2, h3⟩
  · rw [un_bad (by omega), h'] at h
    injection h with h
    subst h
    have h0 : bn k = 0 := by omega
    rw [vb, h0] at c0
    clear h' h1 h0 hr hrun
    go_enter Try.func16, Try.ntmps16
    go_wp2_with fail
    refine bodyPost_ret (v := .tuple #[.agg #[.int .u8 0, .slice none 0 0], .slice none 0 0, .int .i64 1]) (by simp [results, Try.results16, go_sem]) rfl ⟨rfl, ?_⟩
    exact (Below.refl _ _).alloc (Nat.le_refl _) _
  · rw [un_bad (by omega), h'] at h
    injection h with h
    subst h
    have h0 : ((bn k : Int) == 0) = false := by simp; omega
    clear h' hrun
    go_enter Try.func16, Try.ntmps16
    go_wp2_with fail
    refine bodyPost_ret (v := .tuple #[.agg #[.int .u8 0, .slice none 0 0], .slice none 0 0, .int .i64 1]) (by simp [results, Try.results16, go_sem]) rfl ⟨rfl, ?_⟩
    exact (Below.refl _ _).alloc (Nat.le_refl _) _
  · rw [un_bad (by omega), h'] at h
    injection h with h
    subst h
    have h0 : ((bn k : Int) == 0) = false := by simp; omega
    clear h'
    have h3' : ¬ (num2 a b : Int) ≤ 2048 := by omega
    go_enter Try.func16, Try.ntmps16
    go_wp2_with (go_at_call 29; refine (numRef w.heap.size V a b _ (HS.out _ ((Below.refl _ _).alloc (Nat.le_refl _) _))).mono ?_; rintro e w' ⟨rfl, rfl⟩)
    refine bodyPost_ret (v := .tuple #[.agg #[.int .u8 0, .slice none 0 0], .slice none 0 0, .int .i64 3]) (by simp [results, Try.results16, go_sem]) rfl ⟨rfl, ?_⟩
    exact (Below.refl _ _).alloc (Nat.le_refl _) _
  · by_cases h4 : r.length < num2 a b
    · rw [un_part h' h4] at h
      injection h with h
      subst h
      have h0 : ((bn k : Int) == 0) = false := by simp; omega
      clear h'
      have h3' : (num2 a b : Int) ≤ 2048 := by omega
      have h5 : (r.length : Int) + 3 < 3 + (num2 a b : Int) := by omega
      go_enter Try.func16, Try.ntmps16
      go_wp2_with (go_at_call 29; refine (numRef w.heap.size V a b _ (HS.out _ ((Below.refl _ _).alloc (Nat.le_refl _) _))).mono ?_; rintro e w' ⟨rfl, rfl⟩)
      refine bodyPost_ret (v := .tuple #[.agg #[.int .u8 0, .slice none 0 0], .slice none 0 0, .int .i64 2]) (by simp [results, Try.results16, go_sem]) rfl ⟨rfl, ?_⟩
      exact (Below.refl _ _).alloc (Nat.le_refl _) _
    · rw [un_fr h' (by omega)] at h
      cases h
set_option maxRecDepth 100000 in
set_option maxHeartbeats 1000000 in
theorem unpackRef_fr (B : Nat) (v : Value) (k a b : UInt8) (r : List UInt8) (w : World) (hv : Sl w B v (k :: a :: b :: r)) (hB : B ≤ w.heap.size) (hl : r.length ≤ 1000000) (h1 : 1 ≤ bn k) (h2 : bn k ≤ 15) (h3 : num2 a b ≤ 2048) (h4 : num2 a b ≤ r.length) :
    Calls Try.prog 16 #[v] w fun e w' => UnR (.fr k (r.take (num2 a b)) (r.drop (num2 a b))) B e w' ∧ Below w.heap.size w w' := by
  have HV := Lib.hid hv
  obtain ⟨A, cp, rfl, _, k1, k2, _⟩ := hv
  obtain ⟨g, o, rfl, hg, c0, _, _⟩ := HV.out.head3
  have hg' : g < w.heap.size := by omega
  have hlen : (k :: a :: b :: r).length = r.length + 3 := by simp
  rw [hlen] at k1 HV ⊢
  obtain ⟨V, hrun, hsl, hform⟩ := slice_mid (some ⟨g, o, none⟩) (r.length + 3) cp 1 3 1 3 rfl rfl (by omega) (by omega) k1
  have HS : Hid (∀ W, Below w.heap.size w W → Sl W w.heap.size V [a, b]) := Lib.hid fun W hW => by
    have := hsl W w.heap.size _ ((HV.out.more hB).below hW (Nat.le_refl _)) (by simp)
    simpa using this
  obtain ⟨V2, hrun2, hsl2, _⟩ := slice_mid (some ⟨g, o, none⟩) (r.length + 3) cp 3 (3 + num2 a b) 3 (3 + (num2 a b : Int)) rfl (by omega) (by omega) (by omega) k1
  have HS2 : Hid (∀ W, Below w.heap.size w W → Sl W w.heap.size V2 (r.take (num2 a b))) := Lib.hid fun W hW => by
    have := hsl2 W w.heap.size _ ((HV.out.more hB).below hW (Nat.le_refl _)) (by simp)
    simpa using this
  obtain ⟨V3, hrun3, hsl3⟩ := slice_from (some ⟨g, o, none⟩) (r.length + 3) cp (3 + num2 a b) (3 + (num2 a b : Int)) (by omega) (by omega) k1
  have HS3 : Hid (∀ W, Below w.heap.size w W → Sl W B V3 (r.drop (num2 a b))) := Lib.hid fun W hW => by
    have := hsl3 W B _ (HV.out.below hW hB) (by simp)
    rw [show 3 + num2 a b = num2 a b + 3 from by omega] at this
    simpa using this
  clear hlen hsl hsl2 hsl3 hform
  have Htl : Hid ((r.take (num2 a b)).length ≤ 1000000) := Lib.hid (by rw [List.length_take]; omega)
  obtain ⟨body, hbody⟩ : ∃ x, x = r.take (num2 a b) := ⟨_, rfl⟩
  obtain ⟨rest, hrest⟩ : ∃ x, x = r.drop (num2 a b) := ⟨_, rfl⟩
  rw [← hbody] at HS2 Htl ⊢
  rw [← hrest] at HS3 ⊢
  clear hbody hrest
  have h0 : ((bn k : Int) == 0) = false := by simp; omega
  have h3' : (num2 a b : Int) ≤ 2048 := by omega
  have h5 : ¬ (r.length : Int) + 3 < 3 + (num2 a b : Int) := by omega
  have HB0 := Lib.hid ((Below.refl w.heap.size w).alloc (Nat.le_refl _) (.cells #[.int .u8 0, .slice none 0 0] 33))
  have HK0 := Lib.hid (Blk.new w [.int .u8 0, .slice none 0 0] 33)
  go_enter Try.func16, Try.ntmps16
  go_wp2_with (go_at_call 29; refine (numRef w.heap.size V a b _ (HS.out _ ((Below.refl _ _).alloc (Nat.le_refl _) _))).mono ?_; rintro e w' ⟨rfl, rfl⟩)
  have hwr : IntKind.i64.wrap (3 + (num2 a b : Int)) = 3 + (num2 a b : Int) := IntWalk.i64_in _ ⟨by omega, by omega⟩
  have hix : (0 : Int) < (r.length : Int) + 3 := by omega
  have hix2 : 0 < r.length + 3 := by omega
  go_region_held3 (fun w' => w'.cell? ⟨g, o, none⟩ = some (vb k)) (first | go_keep | exact hd0 | exact ((((Below.refl w.heap.size w2).setCell (p := ⟨w.heap.size, 0, none⟩) (Nat.le_refl _) _).setCell (p := ⟨w.heap.size, 1, none⟩) (Nat.le_refl _) _).cell (p := ⟨g, o, none⟩) hg').trans hd0)
    ((go_at_call 10; refine (copy_any w.heap.size V2 body _ (HS2.out _ HB0.out.drew) (by simp) Htl.out).mono ?_; rintro e w2 ⟨v', rfl, hO, hb⟩; obtain ⟨A2, d2, rfl, _, _, _, _⟩ := hO.sl; have hk := HK0.out.drew.below hb (by simp); have hk0 := hk.at (o := 0) rfl; have hk1 := hk.at (o := 1) rfl; have hf0 := hk.free 0; have hf1 := hk.free 1; have hd0 : w2.cell? ⟨g, o, none⟩ = some (vb k) := ((HB0.out.drew.trans (hb.mono (by simp))).cell (p := ⟨g, o, none⟩) hg').trans c0; have hO2 := Lib.hid hO; clear hO; have Hb2 := Lib.hid hb; clear hb; have HK := Lib.hid hk; clear hk))
  all_goals
    go_wp2_with fail
    refine bodyPost_ret (v := .tuple #[.agg #[vb k, .slice A2 body.length d2], V3, .int .i64 0]) (by simp [results, Try.results16, go_sem, hk0, hk1]) rfl ⟨?_, ?_⟩
    · unfold UnR
      refine ⟨_, _, rfl, ?_, ?_⟩
      · have := ((hO2.out.setLow ⟨w.heap.size, 0, none⟩ (by simp) (.int .u8 (bn k))).setLow ⟨w.heap.size, 1, none⟩ (by simp) (.slice A2 body.length d2)).sl
        exact this
      · exact HS3.out _ (((HB0.out.drew.trans (Hb2.out.mono (by simp))).setCell (Nat.le_refl _) _).setCell (Nat.le_refl _) _)
    · exact ((HB0.out.drew.trans (Hb2.out.mono (by simp))).setCell (Nat.le_refl _) _).setCell (Nat.le_refl _) _
theorem unpackRef_any (B : Nat) (v : Value) (l : List UInt8) (w : World) (hv : Sl w B v l) (hB : B ≤ w.heap.size) (hl : l.length ≤ 1000000) :
    Calls Try.prog 16 #[v] w fun e w' => UnR (un l) B e w' ∧ Below w.heap.size w w' := by
  by_cases h3 : l.length < 3
  · rw [un_short h3]
    exact unpackRef_short B v l w hv h3
  · match l, h3 with
    | [], h => simp at h
    | [_], h => simp at h
    | [_, _], h => simp at h
    | k :: a :: b :: r, _ =>
      have hr : r.length ≤ 1000000 := by simp at hl; omega
      rcases hu : un (k :: a :: b :: r) with c | ⟨k', body, rest⟩
      · exact unpackRef_no B v k a b r w hv hB hr c hu
      · have h1 : chk k (num2 a b) = 0 := by
          by_cases h : chk k (num2 a b) = 0
          · exact h
          · rw [un_bad h] at hu; cases hu
        have h2 : num2 a b ≤ r.length := by
          by_cases h : num2 a b ≤ r.length
          · exact h
          · rw [un_part h1 (by omega)] at hu; cases hu
        rw [un_fr h1 h2] at hu
        rw [← hu]
        rcases chk_cases k (num2 a b) with ⟨h, _⟩ | ⟨h, _⟩ | ⟨_, g1, g2, g3⟩
        · omega
        · omega
        · exact unpackRef_fr B v k a b r w hv hB hr g1 g2 g3 h2
set_option maxRecDepth 100000 in
set_option maxHeartbeats 1000000 in
theorem sameFr (B1 B2 : Nat) (k : UInt8) (v1 v2 : Value) (l : List UInt8) (w : World) (h1 : Sl w B1 v1 l) (h2 : Sl w B2 v2 l) (hB1 : B1 ≤ w.heap.size) (hB2 : B2 ≤ w.heap.size) :
    Calls Try.prog 15 #[.agg #[vb k, v1], .agg #[vb k, v2]] w fun e w' => e = .returned (.bool true) ∧ Below w.heap.size w w' := by
  have H1 := Lib.hid h1
  have H2 := Lib.hid h2
  obtain ⟨A1, c1, rfl, _, _, _, _⟩ := h1
  obtain ⟨A2, c2, rfl, _, _, _, _⟩ := h2
  have HB := Lib.hid (((Below.refl w.heap.size w).alloc (Nat.le_refl _) (.cells #[vb k, .slice A1 l.length c1] 33)).alloc (by simp) (.cells #[vb k, .slice A2 l.length c2] 33))
  go_enter Try.func15, Try.ntmps15
  go_wp2_with (go_at_call 13; refine (same_true B1 B2 (.slice A1 l.length c1) (.slice A2 l.length c2) l _ (H1.out.below HB.out hB1) (H2.out.below HB.out hB2)).mono ?_; rintro e w' ⟨rfl, rfl⟩)
  go_ret
  exact ⟨rfl, HB.out⟩
end Go.Proofs.Ytgldfobfchnkeaa
