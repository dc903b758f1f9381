/- head.sizeOf. -/
import Derived.Test.YtajclihnoedecaaGreatDoorHdLn
import Derived.Lib.SlBytesConst
import Derived.Lib.IndexBytes
namespace Go.Proofs.YtajclihnoedecaaGreatDoor
open Go.RowKit Go.Shelf
theorem bytesOf_bn (l : List UInt8) : Lib.bytesOf (l.map bn) = l := by
  unfold Lib.bytesOf
  rw [List.map_map]
  conv => rhs; rw [← List.map_id l]
  refine List.map_congr_left fun b _ => ?_
  simp [bn]
theorem idx_env (b o c b2 c2 : Nat) (l : List UInt8) (w : World) (hE : Env w) (hl : Bs w b o l) (hc : l.length ≤ c) (hs : l.length ≤ 100000)
    (hy : ∀ j (h : j < crcr.length), w.cell? ⟨b2, j, none⟩ = some (vb crcr[j])) :
    Calls Tryz.prog 57 #[.slice (some ⟨b, o, none⟩) l.length c, .slice (some ⟨b2, 0, none⟩) 4 c2] w fun e w' => e = .returned (.int .i64 (Lib.index l crcr)) ∧ Below w.heap.size w w' := by
  obtain ⟨m, hm⟩ := hE.looks
  have hr : ∀ x ∈ l.map bn, 0 ≤ x ∧ x < 256 := fun x hx => by
    rw [List.mem_map] at hx; obtain ⟨b, _, rfl⟩ := hx
    have := b.toNat_lt
    unfold bn; omega
  have h := Tryz.bytes_Index_at ⟨b, o, none⟩ ⟨b2, 0, none⟩ l.length c 4 c2 (l.map bn) (crcr.map bn) m w (by simp) rfl hr (by decide) ?_ ?_ hc (by omega) (by omega) hm
  · rw [bytesOf_bn, bytesOf_bn] at h
    refine h.mono ?_
    rintro e w' ⟨rfl, q, rfl⟩
    exact ⟨rfl, belowN q⟩
  · intro i hi
    rw [Addr.add_mid, hl i hi]
    simp [vb, List.getD_eq_getElem?_getD, List.getElem?_eq_getElem hi]
  · intro i hi
    rw [Addr.add_mid, Nat.zero_add, hy i hi]
    have hi' : i < crcr.length := hi
    simp only [vb, List.getD_eq_getElem?_getD, List.getElem?_map, List.getElem?_eq_getElem hi', Option.map_some, Option.getD_some]
    rfl
def sizeT (p : List UInt8) : Int × Int := if endL p = -1 then (0, if p.length < 4096 then 2 else 3) else (endL p + 4, 0)
/-- The four bytes of the end. -/
theorem end_row (w : World) : ∀ j (h : j < crcr.length), (w.alloc (.cells #[.int .u8 13, .int .u8 10, .int .u8 13, .int .u8 10] 5 (4, 5))).cell? ⟨w.heap.size, j, none⟩ = some (vb crcr[j]) := by
  intro j h
  rw [World.cell?_alloc_mark]
  match j, h with
  | 0, _ => rfl
  | 1, _ => rfl
  | 2, _ => rfl
  | 3, _ => rfl
set_option maxRecDepth 100000 in
set_option maxHeartbeats 1000000 in
theorem size_any (b o c : Nat) (l : List UInt8) (w : World) (hE : Env w) (hl : Bs w b o l) (hb : b < w.heap.size) (hc : l.length ≤ c) (_hc2 : c ≤ 9223372036854775807) (hs : l.length ≤ 5000) :
    Calls Tryz.prog 41 #[.slice (some ⟨b, o, none⟩) l.length c] w fun e w' => e = .returned (.tuple #[.int .i64 (sizeT l).1, .int .i64 (sizeT l).2]) ∧ Below w.heap.size w w' := by
  have hb0 := (Below.refl w.heap.size w).alloc (Nat.le_refl _) (.cells #[.int .u8 13, .int .u8 10, .int .u8 13, .int .u8 10] 5 (4, 5))
  have kc := fun (w : World) (C : Array Value) (n c : Nat) => Lib.run_convert_bytes_const (P := Tryz.prog) w 22 5 C n c Tryz.underlying22 Tryz.underlying5
  have hd : sizeT l = if endL l = -1 then (0, if l.length < 4096 then 2 else 3) else (endL l + 4, 0) := rfl
  have hge := Lib.index_ge (l.take 4096) crcr
  have hle := Lib.index_le (l.take 4096) crcr
  obtain ⟨m, hm4, hmc, hmn⟩ : ∃ m : Nat, (l.take 4096).length = m ∧ m ≤ c ∧ min (l.length : Int) 4096 = (m : Int) := ⟨(l.take 4096).length, rfl, by simp; omega, by simp; omega⟩
  have hx := idx_env b o c w.heap.size 4 (l.take 4096) _ (hE.below hb0) ((hl.below hb0 (by omega)).take 4096) (by omega) (by simp; omega) (end_row w)
  rw [hm4] at hx hle
  have he : endL l = Lib.index (l.take 4096) crcr := rfl
  rw [← he] at hx hge hle
  have hm0 : m ≤ 4096 := by rw [← hm4]; simp; omega
  have hml : m ≤ l.length := by rw [← hm4]; simp; omega
  obtain ⟨i, hi⟩ : ∃ i, i = endL l := ⟨_, rfl⟩
  rw [← hi] at hx hge hle hd
  have HX := Lib.hid hx; have HB0 := Lib.hid hb0
  clear hx he hE hl hi hb0 hm4
  by_cases hm : i = -1
  · subst hm
    rw [if_pos rfl] at hd
    by_cases h5 : l.length < 4096
    · rw [if_pos h5] at hd
      have h5' : (l.length : Int) < 4096 := by omega
      rw [hd]
      clear hd hge h5 hle
      go_enter Tryz.func41, Tryz.ntmps41
      go_wp2_with fail
      refine HX.out.mono ?_
      rintro e w1 ⟨rfl, hB⟩
      have HB := Lib.hid (HB0.out.trans (hB.mono HB0.out.size)); clear hB HX
      go_wp2_with fail
      go_ret2
      exact ⟨rfl, HB.out⟩
    · rw [if_neg h5] at hd
      have h5' : ¬ (l.length : Int) < 4096 := by omega
      rw [hd]
      clear hd hge h5 hle
      go_enter Tryz.func41, Tryz.ntmps41
      go_wp2_with fail
      refine HX.out.mono ?_
      rintro e w1 ⟨rfl, hB⟩
      have HB := Lib.hid (HB0.out.trans (hB.mono HB0.out.size)); clear hB HX
      go_wp2_with fail
      go_ret2
      exact ⟨rfl, HB.out⟩
  · rw [if_neg hm] at hd
    have h0 : 0 ≤ i := by omega
    have h1 : i ≤ 4096 := by omega
    rw [hd]
    clear hd hge hle hm
    go_enter Tryz.func41, Tryz.ntmps41
    go_wp2_with fail
    refine HX.out.mono ?_
    rintro e w1 ⟨rfl, hB⟩
    have HB := Lib.hid (HB0.out.trans (hB.mono HB0.out.size)); clear hB HX
    go_wp2_with fail
    go_ret2
    exact ⟨rfl, HB.out⟩
end Go.Proofs.YtajclihnoedecaaGreatDoor
