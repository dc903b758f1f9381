/- name: the reference's first sign of a text. -/
import Derived.Test.YtpphccjpdkcnmaaDoorNmList
import Derived.Test.YtpphccjpdkcnmaaDoorStrI
namespace Go.Proofs.YtpphccjpdkcnmaaDoor
open Go.RowKit Go.Shelf
/-- The bytes behind the first one, each six bits. -/
def tlR : Nat → List UInt8 → Int → Option Int
  | 0, _, r => some r
  | _ + 1, [], _ => none
  | m + 1, b :: t, r => if 128 ≤ b.toNat ∧ b.toNat ≤ 191 then tlR m t (r * 64 + ((b.toNat : Int) - 128)) else none
def badR (n : Nat) (r : Int) : Prop := (n = 3 ∧ r < 2048) ∨ (n = 4 ∧ r < 65536) ∨ (55296 ≤ r ∧ r ≤ 57343) ∨ 1114111 < r
instance (n : Nat) (r : Int) : Decidable (badR n r) := by unfold badR; infer_instance
def resR (n : Nat) : Option Int → Int × Nat
  | none => (-1, 1)
  | some r => if badR n r then (-1, 1) else (r, n)
def fstN (n : Nat) (r0 : Int) (l : List UInt8) : Int × Nat := if l.length < n then (-1, 1) else resR n (tlR (n - 1) (l.drop 1) r0)
def fstL (l : List UInt8) : Int × Nat :=
  let c := (l.getD 0 0).toNat
  if c < 128 then ((c : Int), 1) else if 194 ≤ c ∧ c ≤ 223 then fstN 2 ((c : Int) - 192) l else if 224 ≤ c ∧ c ≤ 239 then fstN 3 ((c : Int) - 224) l else if 240 ≤ c ∧ c ≤ 244 then fstN 4 ((c : Int) - 240) l else (-1, 1)
theorem tlR_cons (m : Nat) (b : UInt8) (t : List UInt8) (r : Int) : tlR (m + 1) (b :: t) r = if 128 ≤ b.toNat ∧ b.toNat ≤ 191 then tlR m t (r * 64 + ((b.toNat : Int) - 128)) else none := rfl
theorem fst_at (l : List UInt8) (k : Nat) (h : k < l.length) : l.drop k = l.getD k 0 :: l.drop (k + 1) := by
  rw [List.drop_eq_getElem_cons h, List.getD_eq_getElem?_getD, List.getElem?_eq_getElem h]; rfl
/-- The reference's first sign is the library's. -/
theorem fst_dec (l : List UInt8) (h : l ≠ []) : fstL l = (sg1 (dec1 l), (dec1 l).2) := by
  have hl : 0 < l.length := List.length_pos_iff.2 h
  rw [dec1_L l h, Lib.decodeL_N]
  have k0 := (l.getD 0 0).toNat_lt
  have k1 := (l.getD 1 0).toNat_lt
  have k2 := (l.getD 2 0).toNat_lt
  have k3 := (l.getD 3 0).toNat_lt
  have f1 := fst_at l 1
  have f2 := fst_at l 2
  have f3 := fst_at l 3
  unfold fstL
  generalize l.getD 0 0 = b0 at *
  generalize l.getD 1 0 = b1 at *
  generalize l.getD 2 0 = b2 at *
  generalize l.getD 3 0 = b3 at *
  generalize hn : l.length = n at *
  dsimp only
  unfold fstN
  rw [hn]
  by_cases c0 : b0.toNat < 128
  · rw [if_pos c0]
    unfold Lib.decodeN
    rw [if_pos c0]
    unfold sg1
    rw [if_neg (by dsimp only; omega)]
  · rw [if_neg c0]
    by_cases c2 : 194 ≤ b0.toNat ∧ b0.toNat ≤ 223
    · rw [if_pos c2]
      by_cases n2 : n < 2
      · rw [if_pos n2]; unfold Lib.decodeN; rw [if_neg c0, if_neg (by omega), if_neg (by omega), if_neg (by omega)]; rfl
      · rw [if_neg n2, f1 (by omega)]
        show resR 2 (tlR 1 _ _) = _
        rw [tlR_cons]
        unfold Lib.decodeN
        rw [if_neg c0]
        by_cases t1 : 128 ≤ b1.toNat ∧ b1.toNat ≤ 191
        · rw [if_pos t1, if_pos (by omega), if_pos (by omega)]
          show (if badR 2 _ then _ else _) = _
          rw [if_neg (by unfold badR; omega)]
          unfold sg1
          rw [if_neg (by dsimp only; omega)]
          apply Prod.ext <;> dsimp only <;> omega
        · rw [if_neg t1, if_neg (by omega), if_neg (by omega), if_neg (by omega)]; rfl
    · rw [if_neg c2]
      by_cases c3 : 224 ≤ b0.toNat ∧ b0.toNat ≤ 239
      · rw [if_pos c3]
        by_cases n3 : n < 3
        · rw [if_pos n3]; unfold Lib.decodeN; rw [if_neg c0, if_neg (by omega), if_neg (by omega), if_neg (by omega)]; rfl
        · rw [if_neg n3, f1 (by omega), f2 (by omega)]
          show resR 3 (tlR 2 _ _) = _
          rw [tlR_cons, tlR_cons]
          by_cases t1 : 128 ≤ b1.toNat ∧ b1.toNat ≤ 191
          · rw [if_pos t1]
            by_cases t2 : 128 ≤ b2.toNat ∧ b2.toNat ≤ 191
            · rw [if_pos t2]
              show (if badR 3 _ then _ else _) = _
              by_cases hb : badR 3 ((((b0.toNat : Int) - 224) * 64 + ((b1.toNat : Int) - 128)) * 64 + ((b2.toNat : Int) - 128))
              · rw [if_pos hb]
                unfold badR at hb
                unfold Lib.decodeN
                rw [if_neg c0, if_neg (by omega), if_pos (by omega), if_neg (by omega)]; rfl
              · rw [if_neg hb]
                unfold badR at hb
                unfold Lib.decodeN
                rw [if_neg c0, if_neg (by omega), if_pos (by omega), if_pos (by omega)]
                unfold sg1
                rw [if_neg (by dsimp only; omega)]
                apply Prod.ext <;> dsimp only <;> omega
            · rw [if_neg t2]; unfold Lib.decodeN; rw [if_neg c0, if_neg (by omega), if_neg (by omega), if_neg (by omega)]; rfl
          · rw [if_neg t1]; unfold Lib.decodeN; rw [if_neg c0, if_neg (by omega), if_neg (by omega), if_neg (by omega)]; rfl
      · rw [if_neg c3]
        by_cases c4 : 240 ≤ b0.toNat ∧ b0.toNat ≤ 244
        · rw [if_pos c4]
          by_cases n4 : n < 4
          · rw [if_pos n4]; unfold Lib.decodeN; rw [if_neg c0, if_neg (by omega), if_neg (by omega), if_neg (by omega)]; rfl
          · rw [if_neg n4, f1 (by omega), f2 (by omega), f3 (by omega)]
            show resR 4 (tlR 3 _ _) = _
            rw [tlR_cons, tlR_cons, tlR_cons]
            by_cases t1 : 128 ≤ b1.toNat ∧ b1.toNat ≤ 191
            · rw [if_pos t1]
              by_cases t2 : 128 ≤ b2.toNat ∧ b2.toNat ≤ 191
              · rw [if_pos t2]
                by_cases t3 : 128 ≤ b3.toNat ∧ b3.toNat ≤ 191
                · rw [if_pos t3]
                  show (if badR 4 _ then _ else _) = _
                  by_cases hb : badR 4 (((((b0.toNat : Int) - 240) * 64 + ((b1.toNat : Int) - 128)) * 64 + ((b2.toNat : Int) - 128)) * 64 + ((b3.toNat : Int) - 128))
                  · rw [if_pos hb]
                    unfold badR at hb
                    unfold Lib.decodeN
                    rw [if_neg c0, if_neg (by omega), if_neg (by omega), if_pos (by omega), if_neg (by omega)]; rfl
                  · rw [if_neg hb]
                    unfold badR at hb
                    unfold Lib.decodeN
                    rw [if_neg c0, if_neg (by omega), if_neg (by omega), if_pos (by omega), if_pos (by omega)]
                    unfold sg1
                    rw [if_neg (by dsimp only; omega)]
                    apply Prod.ext <;> dsimp only <;> omega
                · rw [if_neg t3]; unfold Lib.decodeN; rw [if_neg c0, if_neg (by omega), if_neg (by omega), if_neg (by omega)]; rfl
              · rw [if_neg t2]; unfold Lib.decodeN; rw [if_neg c0, if_neg (by omega), if_neg (by omega), if_neg (by omega)]; rfl
            · rw [if_neg t1]; unfold Lib.decodeN; rw [if_neg c0, if_neg (by omega), if_neg (by omega), if_neg (by omega)]; rfl
        · rw [if_neg c4]
          unfold Lib.decodeN
          rw [if_neg c0]
          repeat' split
          all_goals first | rfl | (exfalso; omega)
theorem tail_any (x : UInt8) (w : World) : Calls Tryd.prog 40 #[vb x] w fun e w' => e = .returned (.bool (decide (128 ≤ x.toNat) && decide (x.toNat ≤ 191))) ∧ w = w' := by
  have hv : vb x = .int .u8 (x.toNat : Int) := rfl
  rw [hv]
  by_cases h1 : 128 ≤ x.toNat <;> by_cases h2 : x.toNat ≤ 191
  all_goals
    have q1 : ((128 : Int) ≤ (x.toNat : Int)) = (128 ≤ x.toNat) := propext ⟨fun h => by omega, fun h => by omega⟩
    have q2 : ((x.toNat : Int) ≤ 191) = (x.toNat ≤ 191) := propext ⟨fun h => by omega, fun h => by omega⟩
    go_enter Tryd.func40, Tryd.ntmps40
    go_wp2
    go_ret
    exact ⟨by simp [h1, h2], rfl⟩
end Go.Proofs.YtpphccjpdkcnmaaDoor
