/- name: Plain alone (the first half of NmPlain). -/
import Derived.Test.YtoehkhbppmgfkaaGreatDoorStrT
import Derived.Test.YtoehkhbppmgfkaaGreatDoorShelf
import Derived.Test.YtoehkhbppmgfkaaGreatDoorShelf2
import Derived.Shelf.Strings.SlTrimAscii
namespace Go.Proofs.YtoehkhbppmgfkaaGreatDoor
open Go.RowKit Go.Shelf
theorem str_ne (p : List UInt8) (h : p.length ≠ 0) : p.isEmpty = false := by
  cases p with
  | nil => exact absurd rfl h
  | cons => rfl
section
def plB (b : UInt8) : Bool := (decide (97 ≤ b.toNat) && decide (b.toNat ≤ 122)) || (decide (48 ≤ b.toNat) && decide (b.toNat ≤ 57)) || b.toNat == 45 || b.toNat == 95
def plainL (s : List UInt8) : Bool := s.all plB && decide (1 ≤ s.length) && decide (s.length ≤ 32)
/-- The plain signs. -/
def plF : List UInt8 := [97, 98, 99, 100, 101, 102, 103, 104, 105, 106, 107, 108, 109, 110, 111, 112, 113, 114, 115, 116, 117, 118, 119, 120, 121, 122, 48, 49, 50, 51, 52, 53, 54, 55, 56, 57, 45, 95]
theorem plF_all : ∀ n : Fin 256, plF.contains (UInt8.ofNat n.val) = plB (UInt8.ofNat n.val) := by decide +kernel
theorem plF_has (b : UInt8) : plF.contains b = plB b := by
  have := plF_all ⟨b.toNat, b.toNat_lt⟩
  simpa using this
theorem plF_ascii : ∀ (j : Nat) b, plF[j]? = some b → b.toNat < 128 := by
  intro j b h
  have hm : b ∈ plF := List.mem_of_getElem? h
  have : plB b = true := by rw [← plF_has]; exact List.contains_iff_mem.2 hm
  unfold plB at this
  simp only [Bool.or_eq_true, Bool.and_eq_true, decide_eq_true_eq, beq_iff_eq] at this
  omega
theorem trim_pl (s : List UInt8) : Lib.trimLeftS s plF = [] ↔ s.all plB = true := by
  unfold Lib.trimLeftS
  induction s with
  | nil => simp
  | cons b t ih =>
    rw [List.dropWhile_cons, List.all_cons]
    cases h : plB b with
    | true => rw [plF_has, h, if_pos rfl, Bool.true_and]; exact ih
    | false => rw [plF_has, h, Bool.false_and]; simp
theorem trimPl_any (t : List UInt8) (w : World) :
    Calls Tryz.prog 49 #[str t, .string ⟨plF.toArray⟩] w fun e w' => e = .returned (str (Lib.trimLeftS t plF)) ∧ Below w.heap.size w w' :=
  Any.strings_TrimLeft_laid Tryz.lays161 (by kernel_rfl) ⟨t.toArray⟩ ⟨plF.toArray⟩ w (by decide) plF_ascii
section
set_option maxRecDepth 100000
theorem plain_any (s : List UInt8) (w : World) (hs : s.length ≤ 600) : Calls Tryz.prog 34 #[str s] w fun e w' => e = .returned (.bool (plainL s)) ∧ Below w.heap.size w w' := by
  have HC := Lib.hid (trimPl_any s w)
  have ht := trim_pl s
  obtain ⟨T, hT⟩ : ∃ T, T = Lib.trimLeftS s plF := ⟨_, rfl⟩
  rw [← hT] at ht HC
  clear hT
  have hp : plainL s = (s.all plB && decide (1 ≤ s.length) && decide (s.length ≤ 32)) := rfl
  obtain ⟨P, hP⟩ : ∃ P, P = plainL s := ⟨_, rfl⟩
  rw [← hP] at hp ⊢
  clear hP
  by_cases h0 : s.length = 0
  · have : s = [] := List.eq_nil_of_length_eq_zero h0
    subst this
    obtain rfl : P = false := by rw [hp]; rfl
    clear hp ht
    go_enter Tryz.func34, Tryz.ntmps34
    go_wp2_with fail
    refine HC.out.mono ?_
    rintro e w1 ⟨rfl, hB⟩
    have HB := Lib.hid hB; clear hB HC
    go_wp2_with fail
    go_ret
    exact ⟨rfl, HB.out⟩
  · have hne := str_ne s h0
    by_cases h32 : s.length ≤ 32
    · have h32' : (s.length : Int) ≤ 32 := by omega
      by_cases hTe : T = []
      · have hall := ht.1 hTe
        obtain rfl : P = true := by rw [hp, hall, decide_eq_true (by omega), decide_eq_true h32]; rfl
        subst hTe
        clear hp ht
        go_enter Tryz.func34, Tryz.ntmps34
        go_wp2_with fail
        refine HC.out.mono ?_
        rintro e w1 ⟨rfl, hB⟩
        have HB := Lib.hid hB; clear hB HC
        go_wp2_with fail
        go_ret
        exact ⟨rfl, HB.out⟩
      · have hall : s.all plB = false := by rw [← Bool.not_eq_true]; exact fun e => hTe (ht.2 e)
        obtain rfl : P = false := by rw [hp, hall]; rfl
        have hTe2 : T.isEmpty = false := by cases T; exact absurd rfl hTe; rfl
        clear hp ht
        go_enter Tryz.func34, Tryz.ntmps34
        go_wp2_with fail
        refine HC.out.mono ?_
        rintro e w1 ⟨rfl, hB⟩
        have HB := Lib.hid hB; clear hB HC
        go_wp2_with fail
        go_ret
        exact ⟨rfl, HB.out⟩
    · obtain rfl : P = false := by rw [hp, decide_eq_false h32, Bool.and_false]
      have h32' : ¬ (s.length : Int) ≤ 32 := by omega
      clear hp ht
      go_enter Tryz.func34, Tryz.ntmps34
      go_wp2_with fail
      refine HC.out.mono ?_
      rintro e w1 ⟨rfl, hB⟩
      have HB := Lib.hid hB; clear hB HC
      go_wp2_with fail
      go_ret
      exact ⟨rfl, HB.out⟩
end
end
end Go.Proofs.YtoehkhbppmgfkaaGreatDoor
