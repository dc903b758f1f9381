/- frame: Unpack. -/
import Derived.Test.YtgldfobfchnkeaaFrPack
namespace Go.Proofs.Ytgldfobfchnkeaa
open Go.RowKit

/-- What stands at the head of bytes: a frame and the rest, or why not. -/
inductive Un where
  | no (c : Nat)
  | fr (k : UInt8) (body rest : List UInt8)
def num2 (a b : UInt8) : Nat := a.toNat * 256 + b.toNat
def un : List UInt8 → Un
  | k :: a :: b :: r => if chk k (num2 a b) ≠ 0 then .no (chk k (num2 a b)) else if r.length < num2 a b then .no 2 else .fr k (r.take (num2 a b)) (r.drop (num2 a b))
  | _ => .no 2
theorem un_short {l : List UInt8} (h : l.length < 3) : un l = .no 2 := by
  match l, h with
  | [], _ => rfl
  | [_], _ => rfl
  | [_, _], _ => rfl
  | _ :: _ :: _ :: _, h => simp at h; omega
theorem un_bad {k a b : UInt8} {r : List UInt8} (h : chk k (num2 a b) ≠ 0) : un (k :: a :: b :: r) = .no (chk k (num2 a b)) := by simp only [un]; rw [if_pos h]
theorem un_part {k a b : UInt8} {r : List UInt8} (h : chk k (num2 a b) = 0) (h2 : r.length < num2 a b) : un (k :: a :: b :: r) = .no 2 := by simp only [un]; rw [if_neg (by omega), if_pos h2]
theorem un_fr {k a b : UInt8} {r : List UInt8} (h : chk k (num2 a b) = 0) (h2 : num2 a b ≤ r.length) : un (k :: a :: b :: r) = .fr k (r.take (num2 a b)) (r.drop (num2 a b)) := by simp only [un]; rw [if_neg (by omega), if_neg (by omega)]

theorem un_or (a b : UInt8) : bits .or .i64 (bn a * 256) (bn b) = (num2 a b : Int) := by
  have ha := a.toNat_lt
  have hb := b.toNat_lt
  unfold num2 bn
  have e : (a.toNat : Int) * 256 = ((a.toNat * 256 : Nat) : Int) := by omega
  rw [e]
  show IntKind.i64.wrap ((BitVec.ofInt 64 ((a.toNat * 256 : Nat) : Int) ||| BitVec.ofInt 64 (b.toNat : Int)).toNat : Int) = _
  rw [BitVec.toNat_or, BitVec.ofInt_natCast, BitVec.ofInt_natCast, BitVec.toNat_ofNat, BitVec.toNat_ofNat, Nat.mod_eq_of_lt (by omega), Nat.mod_eq_of_lt (by omega), Nat.mul_comm, show (256 : Nat) = 2 ^ 8 from rfl, ← Nat.two_pow_add_eq_or_of_lt (by omega), IntKind.wrap_i64]
  omega
theorem num2_lt (a b : UInt8) : num2 a b < 65536 := by
  have ha := a.toNat_lt
  have hb := b.toNat_lt
  unfold num2; omega
attribute [irreducible] num2
theorem OwnB.setLow {w : World} {base : Nat} {v : Value} {l : List UInt8} (h : OwnB w base v l) (p : Addr) (hp : p.block < base) (x : Value) : OwnB (w.setCell p x) base v l := by
  refine h.kept (grown_set w p x) ?_
  by_cases hn : v.ownBlock = none
  · exact .inl hn
  · right
    intro e
    have := h.lt p.block e
    omega
/-- The cells of the first three bytes. -/
theorem Sl.head3 {w : World} {B : Nat} {A : Option Addr} {n c : Nat} {x y z : UInt8} {r : List UInt8} (h : Sl w B (.slice A n c) (x :: y :: z :: r)) :
    ∃ b o, A = some ⟨b, o, none⟩ ∧ b < B ∧ w.cell? ⟨b, o, none⟩ = some (vb x) ∧ w.cell? ⟨b, o + 1, none⟩ = some (vb y) ∧ w.cell? ⟨b, o + 2, none⟩ = some (vb z) := by
  obtain ⟨A', c', e, h0, h1, h2, h3⟩ := h
  injection e with e1 e2 e3
  obtain ⟨b, o, e4, hb, hbs⟩ := h3 (by simp)
  exact ⟨b, o, e1.trans e4, hb, hbs 0 (by simp), hbs 1 (by simp), hbs 2 (by simp)⟩
set_option maxRecDepth 100000 in
set_option maxHeartbeats 1000000 in
theorem unpack_short (B : Nat) (v : Value) (l : List UInt8) (w : World) (hv : Sl w B v l) (hl : l.length < 3) :
    Calls Try.prog 14 #[v] w fun e w' => e = .returned (.tuple #[.agg #[.int .u8 0, .slice none 0 0], .int .i64 0, .int .i64 2]) ∧ Below w.heap.size w w' := by
  obtain ⟨A, c, rfl, _, k1, k2, _⟩ := hv
  go_enter Try.func14, Try.ntmps14
  go_wp2_with fail
  refine bodyPost_ret (v := .tuple #[.agg #[.int .u8 0, .slice none 0 0], .int .i64 0, .int .i64 2]) (by simp [results, Try.results14, go_sem]) rfl ⟨rfl, ?_⟩
  exact (Below.refl _ _).alloc (Nat.le_refl _) _
set_option maxRecDepth 100000 in
set_option maxHeartbeats 1000000 in
theorem unpack_bad (B : Nat) (v : Value) (k a b : UInt8) (r : List UInt8) (w : World) (hv : Sl w B v (k :: a :: b :: r)) (hB : B ≤ w.heap.size) (hl : r.length ≤ 1000000) (h : (chk k (num2 a b) : Int) ≠ 0) :
    Calls Try.prog 14 #[v] w fun e w' => e = .returned (.tuple #[.agg #[.int .u8 0, .slice none 0 0], .int .i64 0, .int .i64 (chk k (num2 a b) : Int)]) ∧ Below w.heap.size w w' := by
  have HV := Lib.hid hv
  obtain ⟨A, c, rfl, _, k1, k2, _⟩ := hv
  obtain ⟨g, o, rfl, hg, c0, c1, c2⟩ := HV.out.head3
  have hg' : g < w.heap.size := by omega
  have hlen : (k :: a :: b :: r).length = r.length + 3 := by simp
  rw [hlen] at k1 HV ⊢
  clear hlen
  obtain ⟨e, he⟩ : ∃ e : Int, e = (chk k (num2 a b) : Int) := ⟨_, rfl⟩
  have HC := Lib.hid (check_any k (num2 a b) (by have := num2_lt a b; omega))
  rw [← he] at HC h ⊢
  clear he
  have hor := un_or a b
  have hra := bn_range a
  have hrb := bn_range b
  have hn := num2_lt a b
  go_enter Try.func14, Try.ntmps14
  go_wp2_with fail
  go_quiet (fail)
  go_wp2_with (go_at_call 26; refine (HC.out _).mono ?_; rintro e w' ⟨rfl, rfl⟩)
  refine bodyPost_ret (v := .tuple #[.agg #[.int .u8 0, .slice none 0 0], .int .i64 0, .int .i64 e]) (by simp [results, Try.results14, go_sem]) rfl ⟨rfl, ?_⟩
  exact ((below_drewN ((Below.refl _ _).alloc (Nat.le_refl _) _) _).setCell (Nat.le_refl _) _).setCell (Nat.le_refl _) _
set_option maxRecDepth 100000 in
set_option maxHeartbeats 1000000 in
theorem unpack_part (B : Nat) (v : Value) (k a b : UInt8) (r : List UInt8) (w : World) (hv : Sl w B v (k :: a :: b :: r)) (hB : B ≤ w.heap.size) (hl : r.length ≤ 1000000) (h : chk k (num2 a b) = 0) (hr : r.length < num2 a b) :
    Calls Try.prog 14 #[v] w fun e w' => e = .returned (.tuple #[.agg #[.int .u8 0, .slice none 0 0], .int .i64 0, .int .i64 2]) ∧ Below w.heap.size w w' := by
  have HV := Lib.hid hv
  obtain ⟨A, c, rfl, _, k1, k2, _⟩ := hv
  obtain ⟨g, o, rfl, hg, c0, c1, c2⟩ := HV.out.head3
  have hg' : g < w.heap.size := by omega
  have hlen : (k :: a :: b :: r).length = r.length + 3 := by simp
  rw [hlen] at k1 HV ⊢
  clear hlen
  have HC := Lib.hid (check_any k (num2 a b) (by have := num2_lt a b; omega))
  rw [h] at HC
  clear h
  have hor := un_or a b
  have hra := bn_range a
  have hrb := bn_range b
  have hn := num2_lt a b
  go_enter Try.func14, Try.ntmps14
  go_wp2_with fail
  go_quiet (fail)
  have hlt : (r.length : Int) + 3 < 3 + (num2 a b : Int) := by omega
  go_wp2_with (go_at_call 26; refine (HC.out _).mono ?_; rintro e w' ⟨rfl, rfl⟩)
  refine bodyPost_ret (v := .tuple #[.agg #[.int .u8 0, .slice none 0 0], .int .i64 0, .int .i64 2]) (by simp [results, Try.results14, go_sem]) rfl ⟨rfl, ?_⟩
  exact ((below_drewN ((Below.refl _ _).alloc (Nat.le_refl _) _) _).setCell (Nat.le_refl _) _).setCell (Nat.le_refl _) _
set_option maxRecDepth 100000 in
set_option maxHeartbeats 1000000 in
theorem unpack_ok (B : Nat) (v : Value) (k a b : UInt8) (r : List UInt8) (w : World) (hv : Sl w B v (k :: a :: b :: r)) (hB : B ≤ w.heap.size) (hl : r.length ≤ 1000000) (h : chk k (num2 a b) = 0) (hr : num2 a b ≤ r.length) :
    Calls Try.prog 14 #[v] w fun e w' => ∃ v', e = .returned (.tuple #[.agg #[vb k, v'], .int .i64 (3 + (num2 a b : Int)), .int .i64 0]) ∧ OwnB w' w.heap.size v' (r.take (num2 a b)) ∧ Below w.heap.size w w' := by
  have HV := Lib.hid hv
  obtain ⟨A, c, rfl, _, k1, k2, _⟩ := hv
  obtain ⟨g, o, rfl, hg, c0, c1, c2⟩ := HV.out.head3
  have hg' : g < w.heap.size := by omega
  have hlen : (k :: a :: b :: r).length = r.length + 3 := by simp
  rw [hlen] at k1 HV ⊢
  obtain ⟨V, hrun, hsl, hform⟩ := slice_mid (some ⟨g, o, none⟩) (r.length + 3) c 3 (3 + num2 a b) 3 (3 + (num2 a b : Int)) rfl (by omega) (by omega) (by omega) k1
  obtain ⟨a', n', c', rfl⟩ := hform _ rfl
  have HS : Hid (∀ W, Below w.heap.size w W → Sl W w.heap.size (.slice (some a') n' c') (r.take (num2 a b))) := Lib.hid fun W hW => by
    have := hsl W w.heap.size _ ((HV.out.more hB).below hW (Nat.le_refl _)) (by simp)
    simpa using this
  clear hlen hsl hform
  have HC := Lib.hid (check_any k (num2 a b) (by have := num2_lt a b; omega))
  rw [h] at HC
  clear h
  have hor := un_or a b
  have hra := bn_range a
  have hrb := bn_range b
  have hn := num2_lt a b
  have Htl : Hid ((r.take (num2 a b)).length ≤ 1000000) := Lib.hid (by rw [List.length_take]; omega)
  obtain ⟨body, hbody⟩ : ∃ x, x = r.take (num2 a b) := ⟨_, rfl⟩
  rw [← hbody] at HS Htl ⊢
  clear hbody
  go_enter Try.func14, Try.ntmps14
  go_wp2_with fail
  go_quiet (fail)
  have hlt : ¬ (r.length : Int) + 3 < 3 + (num2 a b : Int) := by omega
  have HB0 := Lib.hid (below_drewN ((Below.refl w.heap.size w).alloc (Nat.le_refl _) (.cells #[.int .u8 0, .slice none 0 0] 27)) nq)
  have HK0 := Lib.hid ((Blk.new w [.int .u8 0, .slice none 0 0] 27).drewN nq)
  go_wp2_with (first | (go_at_call 26; refine (HC.out _).mono ?_; rintro e w' ⟨rfl, rfl⟩) | (go_at_call 28; refine (clone_any w.heap.size a' n' c' body _ (HS.out _ HB0.out) (by simp) Htl.out).mono ?_; rintro e w2 ⟨v', rfl, hO, hb⟩; obtain ⟨A2, d2, rfl, _, _, _, _⟩ := hO.sl; have hk := HK0.out.below hb (by simp); have hk0 := hk.at (o := 0) rfl; have hk1 := hk.at (o := 1) rfl; have hf0 := hk.free 0; have hf1 := hk.free 1; have hsz : w.heap.size < w2.heap.size := hk.lt; have hO2 := Lib.hid hO; clear hO; have Hb2 := Lib.hid hb; clear hb; have HK := Lib.hid hk; clear hk))
  refine bodyPost_ret (v := .tuple #[.agg #[vb k, .slice A2 body.length d2], .int .i64 (3 + (num2 a b : Int)), .int .i64 0]) (by simp [results, Try.results14, go_sem, hk0, hk1]) rfl ⟨_, rfl, ?_, ?_⟩
  · exact ((hO2.out.setLow _ (by simp) _).setLow _ (by simp) _).lower (by simp)
  · exact ((HB0.out.trans (Hb2.out.mono (by simp))).setCell (Nat.le_refl _) _).setCell (Nat.le_refl _) _
/-- What Unpack answers. -/
def UnP (u : Un) (base : Nat) (e : Ending) (w' : World) : Prop :=
  match u with
  | .no c => e = .returned (.tuple #[.agg #[.int .u8 0, .slice none 0 0], .int .i64 0, .int .i64 (c : Int)])
  | .fr k body _ => ∃ v', e = .returned (.tuple #[.agg #[vb k, v'], .int .i64 (3 + (body.length : Int)), .int .i64 0]) ∧ OwnB w' base v' body
theorem unpack_any (B : Nat) (v : Value) (l : List UInt8) (w : World) (hv : Sl w B v l) (hB : B ≤ w.heap.size) (hl : l.length ≤ 1000000) :
    Calls Try.prog 14 #[v] w fun e w' => UnP (un l) w.heap.size e w' ∧ Below w.heap.size w w' := by
  by_cases h3 : l.length < 3
  · rw [un_short h3]
    exact unpack_short B v l w hv h3
  · match l, h3 with
    | [], h => simp at h
    | [_], h => simp at h
    | [_, _], h => simp at h
    | k :: a :: b :: r, _ =>
      have hr : r.length ≤ 1000000 := by simp at hl; omega
      by_cases h : chk k (num2 a b) = 0
      · by_cases h2 : r.length < num2 a b
        · rw [un_part h h2]
          exact unpack_part B v k a b r w hv hB hr h h2
        · rw [un_fr h (by omega)]
          refine (unpack_ok B v k a b r w hv hB hr h (by omega)).mono ?_
          rintro e w' ⟨v', he, hO, hb⟩
          refine ⟨⟨v', ?_, hO⟩, hb⟩
          rw [he, List.length_take, Nat.min_eq_left (by omega)]
      · rw [un_bad h]
        exact unpack_bad B v k a b r w hv hB hr (by omega)
/-- A frame is read of its bytes. -/
theorem un_frm (k : UInt8) (l r : List UInt8) (h : chk k l.length = 0) (hl : l.length ≤ 2048) : un (frm k l ++ r) = .fr k l r := by
  have e : num2 (UInt8.ofNat (l.length / 256)) (UInt8.ofNat l.length) = l.length := by
    unfold num2; rw [UInt8.toNat_ofNat', UInt8.toNat_ofNat']; omega
  unfold frm len2
  show un (k :: UInt8.ofNat (l.length / 256) :: UInt8.ofNat l.length :: (l ++ r)) = _
  rw [un_fr (by rw [e]; exact h) (by rw [e, List.length_append]; omega), e]
  simp
theorem un_len {l : List UInt8} {k : UInt8} {body rest : List UInt8} (h : un l = .fr k body rest) : chk k body.length = 0 ∧ body.length ≤ 2048 ∧ l.length = 3 + body.length + rest.length ∧ rest = l.drop (3 + body.length) ∧ 1 ≤ bn k ∧ bn k ≤ 15 := by
  match l, h with
  | k' :: a :: b :: r, h =>
    simp only [un] at h
    split at h
    · cases h
    · split at h
      · cases h
      · injection h with h1 h2 h3
        subst h1 h2 h3
        rename_i hc hr
        have hl : (r.take (num2 a b)).length = num2 a b := by rw [List.length_take]; omega
        rw [hl]
        have hc' : chk k' (num2 a b) = 0 := by omega
        rcases chk_cases k' (num2 a b) with ⟨h, _⟩ | ⟨h, _⟩ | ⟨_, h1, h2, h3⟩
        · omega
        · omega
        · refine ⟨hc', h3, ?_, ?_, h1, h2⟩
          · simp; omega
          · rw [show 3 + num2 a b = num2 a b + 3 from by omega]; simp
end Go.Proofs.Ytgldfobfchnkeaa
