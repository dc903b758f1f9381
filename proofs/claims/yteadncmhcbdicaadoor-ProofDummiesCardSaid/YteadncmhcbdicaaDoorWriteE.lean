/- (*sha.Hash).Write. -/
import Derived.Test.YteadncmhcbdicaaDoorHash
import Derived.Test.YteadncmhcbdicaaDoorReg
import Derived.Test.YteadncmhcbdicaaDoorRegR
namespace Go.Proofs.YteadncmhcbdicaaDoor
open Go.RowKit Go.Shelf
attribute [local go_sem] un_mod64

/-- What a call of Write is handed: the Hash at block hb, the bytes p at another block. -/
structure WIn (w : World) (hb : Nat) (s : St) (t : List UInt8) (n : Nat) (pb po pcap : Nat) (p : List UInt8) : Prop where
  hash : HashIs w hb s t n
  bytes : Bs w pb po p
  lt : pb < w.heap.size
  ne : pb ≠ hb
  cap : p.length ≤ pcap
  cap2 : pcap ≤ 9223372036854775807
  len2 : p.length ≤ 4611686018427387904
/-- The slice at A holds the bytes l, in a block that is not hb. -/
structure Src (w : World) (hb : Nat) (A : Option Addr) (l : List UInt8) (c : Nat) : Prop where
  cap : l.length ≤ c
  cap2 : c ≤ 9223372036854775807
  len2 : l.length ≤ 4611686018427387904
  bytes : 0 < l.length → ∃ b o, A = some ⟨b, o, none⟩ ∧ b < w.heap.size ∧ b ≠ hb ∧ Bs w b o l
set_option maxRecDepth 100000 in
set_option maxHeartbeats 1000000 in
theorem write_early (hb : Nat) (s : St) (t : List UInt8) (n : Nat) (A : Option Addr) (pcap : Nat) (p : List UInt8) (w : World) (h : HashIs w hb s t n) (hs : Src w hb A p pcap) (hlt : n % 64 + p.length < 64) :
    Calls Tryd.prog 25 #[.pointer (some ⟨hb, 0, none⟩), .slice A p.length pcap] w fun e w' => e = .returned (.int .i64 p.length) ∧ HashIs w' hb s (over t (n % 64) p) (n + p.length) ∧ w.grownBy w' (some hb) := by
  have hbl := h.blk.lt
  have h0 := (un_range n).1
  have hadd := un_add n p.length
  obtain ⟨hc1, hc2⟩ : p.length ≤ 4611686018427387904 ∧ (0 : Int) ≤ (p.length : Int) := ⟨hs.len2, by omega⟩
  obtain ⟨r, hrr⟩ : ∃ r, r = n % 64 := ⟨_, rfl⟩
  have hmod : un n % (64 : Int) = (r : Int) := by rw [hrr]; exact un_mod64 n
  rw [← hrr] at hlt ⊢
  obtain ⟨c1, f1⟩ : w.cell? ⟨hb, 72, none⟩ = some (.int .u64 (un n)) ∧ w.frozen? ⟨hb, 72, none⟩ = false := ⟨h.blk.at (hcells_total s t n h.len), h.blk.free _⟩
  obtain ⟨r1, r2⟩ : (0 : Int) ≤ (r : Int) ∧ (r : Int) ≤ 64 := ⟨by omega, by omega⟩
  clear hrr
  have H := Lib.hid h; clear h
  have HS := Lib.hid hs; clear hs
  obtain ⟨HK, HB⟩ : Hid (Blk ((w.setCell ⟨hb, 72, none⟩ (.int .u64 (un (n + p.length)))).alloc (.cells #[.pointer (some ⟨hb, 0, none⟩)] 53)) hb (hcells s t (n + p.length))) ∧
      Hid (0 < p.length → ∃ b o, A = some ⟨b, o, none⟩ ∧ Bs ((w.setCell ⟨hb, 72, none⟩ (.int .u64 (un (n + p.length)))).alloc (.cells #[.pointer (some ⟨hb, 0, none⟩)] 53)) b o p) :=
    ⟨by have := (H.out.blk.set 72 (.int .u64 (un (n + p.length)))).alloc (.cells #[.pointer (some ⟨hb, 0, none⟩)] 53); rw [hcells_setTotal _ _ _ _ H.out.len] at this; exact this,
     Lib.hid fun hp => by
      obtain ⟨b, o, e, _, hne, hbs⟩ := HS.out.bytes hp
      exact ⟨b, o, e, (hbs.grown (grown_set w ⟨hb, 72, none⟩ _) (by show some b ≠ some hb; simp [hne])).grown (World.grownBy_alloc _ _ none) (by simp)⟩⟩
  have HL := Lib.hid (show (p.map vb).length = p.length from List.length_map ..)
  go_enter Tryd.func25, Tryd.ntmps25
  go_wp2_with ((with_reducible refine wpList_copy_to ?g1 (.tmp 31) (.tmp 32) 26 26 ?g2 5 Tryd.underlying26 info_b1 (some ⟨hb, 8 + r, none⟩) A (64 - r) (64 - r) p.length pcap ?g3 ?g4 hb (8 + r) (p.map vb) ?g5 ?g6 ?g7 (oneCell_bytes p) ?_); (case g1 => rfl); (case g2 => rfl); (case g3 => rfl); (case g4 => rfl); (case g5 => rw [HL.out]; exact (Nat.min_eq_left (by omega)).symm); (case g6 => exact fun hp => ⟨rfl, (by rw [HL.out] at hp; obtain ⟨b, o, e, hbs⟩ := HB.out hp; exact ⟨b, o, e, hbs.rangeAt⟩)⟩); (case g7 => exact HK.out.there _ _ (by rw [HL.out, hcells_length _ _ _ H.out.len]; omega)); rw [HL.out])
  go_ret
  refine ⟨rfl, ⟨?_, ?_⟩, ?_⟩
  · have := HK.out.setCells (vs := p.map vb) (8 + r) (by rw [HL.out, hcells_length _ _ _ H.out.len]; omega)
    rw [hcells_setTail _ _ _ _ _ H.out.len (by omega)] at this
    exact this
  · rw [over_length _ _ _ (by rw [H.out.len]; omega), H.out.len]
  · exact ((grown_set w ⟨hb, 72, none⟩ _).trans (World.grownBy_alloc _ _ _)).trans (grown_setCells hb _ _ _)

end Go.Proofs.YteadncmhcbdicaaDoor
