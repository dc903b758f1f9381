/- Letters' bits, one by one, and the bytes that are made of them. Nothing of the program is imported. -/
import Derived.Test.YtoehkhbppmgfkaaGreatDoorNumW
namespace Go.Proofs.YtoehkhbppmgfkaaGreatDoor

/-- Bits, each a byte, as a number. -/
def numB (l : List UInt8) : Nat := numW 1 (l.map UInt8.toNat)
theorem numB_append (a b : List UInt8) : numB (a ++ b) = numB a * 2 ^ b.length + numB b := by
  unfold numB; rw [List.map_append, numW_append, List.length_map, Nat.one_mul]
theorem numB_snoc (a : List UInt8) (x : UInt8) : numB (a ++ [x]) = numB a * 2 + x.toNat := by
  rw [numB_append]; simp [numB, numW]
theorem numB_lt (l : List UInt8) (h : ∀ x ∈ l, x.toNat < 2) : numB l < 2 ^ l.length := by
  have := numW_lt 1 (l.map UInt8.toNat) (fun d hd => by rw [List.mem_map] at hd; obtain ⟨x, hx, rfl⟩ := hd; simpa using h x hx)
  rwa [List.length_map, Nat.one_mul] at this
theorem numB_zero (l : List UInt8) : numB l = 0 ↔ ∀ x ∈ l, x = 0 := by
  induction l with
  | nil => simp [numB, numW]
  | cons x l ih =>
    have e : numB (x :: l) = x.toNat * 2 ^ l.length + numB l := by
      have := numB_append [x] l
      rw [List.singleton_append] at this
      rw [this]; simp [numB, numW]
    rw [e]
    have hp := Nat.two_pow_pos l.length
    constructor
    · intro h
      have h1 : x.toNat * 2 ^ l.length = 0 := by omega
      have h2 : numB l = 0 := by omega
      have h3 : x.toNat = 0 := by rcases Nat.mul_eq_zero.1 h1 with h | h <;> omega
      intro y hy
      rcases List.mem_cons.1 hy with rfl | hy
      · exact UInt8.toNat_inj.1 h3
      · exact ih.1 h2 y hy
    · intro h
      rw [h x (List.mem_cons_self ..), ih.2 (fun y hy => h y (List.mem_cons_of_mem _ hy))]; simp
/-- A letter's six bits. -/
def bits6 (d : Nat) : List UInt8 := (List.range 6).map fun t => UInt8.ofNat (d / 2 ^ (5 - t) % 2)
def bitsW (vs : List Nat) : List UInt8 := vs.flatMap bits6
theorem bits6_len (d : Nat) : (bits6 d).length = 6 := by simp [bits6]
theorem bitsW_len (vs : List Nat) : (bitsW vs).length = 6 * vs.length := by
  induction vs with
  | nil => rfl
  | cons v vs ih => unfold bitsW at ih ⊢; rw [List.flatMap_cons, List.length_append, ih, bits6_len, List.length_cons]; omega
theorem bits6_lt (d : Nat) : ∀ x ∈ bits6 d, x.toNat < 2 := by
  intro x hx; unfold bits6 at hx; rw [List.mem_map] at hx; obtain ⟨t, _, rfl⟩ := hx
  rw [UInt8.toNat_ofNat']; omega
theorem bitsW_lt (vs : List Nat) : ∀ x ∈ bitsW vs, x.toNat < 2 := by
  intro x hx; unfold bitsW at hx; rw [List.mem_flatMap] at hx; obtain ⟨d, _, hx⟩ := hx; exact bits6_lt d x hx
theorem numB_bits6 (d : Nat) (h : d < 64) : numB (bits6 d) = d := by
  have : ∀ d : Fin 64, numB (bits6 d.val) = d.val := by decide +kernel
  exact this ⟨d, h⟩
theorem bitsW_snoc (vs : List Nat) (d : Nat) : bitsW (vs ++ [d]) = bitsW vs ++ bits6 d := by unfold bitsW; simp
theorem numB_bitsW (vs : List Nat) (h : ∀ d ∈ vs, d < 64) : numB (bitsW vs) = numW 6 vs := by
  have H : ∀ n, n ≤ vs.length → numB (bitsW (vs.take n)) = numW 6 (vs.take n) := by
    intro n
    induction n with
    | zero => intro _; simp [bitsW, numB, numW]
    | succ n ih =>
      intro hn
      have hlt : n < vs.length := by omega
      rw [List.take_succ_eq_append_getElem hlt, bitsW_snoc, numB_append, numW_snoc, ih (by omega), bits6_len, numB_bits6 _ (h _ (List.getElem_mem hlt))]
  have := H vs.length (Nat.le_refl _)
  rwa [List.take_length] at this
/-- Eight bits as a byte, as the reference reckons it. -/
def fold8 (l : List UInt8) : UInt8 := l.foldl (fun b x => b * 2 + x) 0
theorem fold8_snoc (l : List UInt8) (x : UInt8) : fold8 (l ++ [x]) = fold8 l * 2 + x := by unfold fold8; rw [List.foldl_append]; rfl
theorem fold8_num (l : List UInt8) : fold8 l = UInt8.ofNat (numB l) := by
  have H : ∀ n, n ≤ l.length → fold8 (l.take n) = UInt8.ofNat (numB (l.take n)) := by
    intro n
    induction n with
    | zero => intro _; rfl
    | succ n ih =>
      intro hn
      have hlt : n < l.length := by omega
      rw [List.take_succ_eq_append_getElem hlt, fold8_snoc, numB_snoc, ih (by omega)]
      apply UInt8.toNat_inj.1
      rw [UInt8.toNat_add, UInt8.toNat_mul, UInt8.toNat_ofNat', UInt8.toNat_ofNat']
      simp
  have := H l.length (Nat.le_refl _)
  rwa [List.take_length] at this
/-- The first j bytes of bits. -/
def octets (bl : List UInt8) (j : Nat) : List UInt8 := (List.range j).map fun i => fold8 ((bl.drop (8 * i)).take 8)
theorem octets_succ (bl : List UInt8) (j : Nat) : octets bl (j + 1) = octets bl j ++ [fold8 ((bl.drop (8 * j)).take 8)] := by
  unfold octets; rw [List.range_succ, List.map_append]; rfl
theorem octets_len (bl : List UInt8) (j : Nat) : (octets bl j).length = j := by simp [octets]
theorem octet_byt (vs : List Nat) (h : ∀ d ∈ vs, d < 64) (j : Nat) (hj : 8 * (j + 1) ≤ 6 * vs.length) : fold8 (((bitsW vs).drop (8 * j)).take 8) = byt 6 vs j := by
  rw [fold8_num]
  unfold byt
  have hl := bitsW_len vs
  have hn := numB_bitsW vs h
  have hb := bitsW_lt vs
  generalize bitsW vs = bl at *
  have e : bl = bl.take (8 * j) ++ ((bl.drop (8 * j)).take 8 ++ bl.drop (8 * (j + 1))) := by
    conv => lhs; rw [← List.take_append_drop (8 * j) bl]
    congr 1
    conv => lhs; rw [← List.take_append_drop 8 (bl.drop (8 * j))]
    rw [List.drop_drop, Nat.mul_succ]
  have l1 : ((bl.drop (8 * j)).take 8).length = 8 := by rw [List.length_take, List.length_drop]; omega
  have l2 : (bl.drop (8 * (j + 1))).length = 6 * vs.length - 8 * (j + 1) := by rw [List.length_drop, hl]
  have h3 := numB_lt (bl.drop (8 * (j + 1))) (fun x hx => hb x (List.mem_of_mem_drop hx))
  rw [l2] at h3
  rw [← hn]
  conv => rhs; rw [e]
  rw [numB_append, numB_append, List.length_append, l1, l2]
  generalize 6 * vs.length - 8 * (j + 1) = r at *
  apply UInt8.toNat_inj.1
  rw [UInt8.toNat_ofNat', UInt8.toNat_ofNat', Nat.pow_add]
  have e2 : numB (bl.take (8 * j)) * (2 ^ 8 * 2 ^ r) + (numB ((bl.drop (8 * j)).take 8) * 2 ^ r + numB (bl.drop (8 * (j + 1)))) = 2 ^ r * (numB (bl.take (8 * j)) * 2 ^ 8 + numB ((bl.drop (8 * j)).take 8)) + numB (bl.drop (8 * (j + 1))) := by
    rw [Nat.mul_add (2 ^ r), Nat.mul_comm (2 ^ r) (numB _ * 2 ^ 8), Nat.mul_comm (2 ^ r) (numB _), Nat.mul_assoc, Nat.add_assoc]
  rw [e2, Nat.mul_add_div (Nat.two_pow_pos _), Nat.div_eq_of_lt h3, Nat.add_zero]
  omega
theorem octets_byts (vs : List Nat) (h : ∀ d ∈ vs, d < 64) (m : Nat) (hm : 8 * m ≤ 6 * vs.length) : octets (bitsW vs) m = byts 6 vs m := by
  unfold octets byts
  apply List.map_congr_left
  intro j hj
  rw [List.mem_range] at hj
  exact octet_byt vs h j (by omega)
theorem unused_bits (vs : List Nat) (h : ∀ d ∈ vs, d < 64) : unused 6 vs = numB ((bitsW vs).drop (8 * (6 * vs.length / 8))) := by
  unfold unused
  rw [← numB_bitsW vs h]
  have hl := bitsW_len vs
  have hb := bitsW_lt vs
  generalize bitsW vs = bl at *
  have l2 : (bl.drop (8 * (6 * vs.length / 8))).length = 6 * vs.length % 8 := by rw [List.length_drop, hl]; omega
  have h3 := numB_lt (bl.drop (8 * (6 * vs.length / 8))) (fun x hx => hb x (List.mem_of_mem_drop hx))
  rw [l2] at h3
  conv => lhs; rw [← List.take_append_drop (8 * (6 * vs.length / 8)) bl]
  rw [numB_append, l2, Nat.mul_comm, Nat.mul_add_mod, Nat.mod_eq_of_lt h3]
end Go.Proofs.YtoehkhbppmgfkaaGreatDoor
