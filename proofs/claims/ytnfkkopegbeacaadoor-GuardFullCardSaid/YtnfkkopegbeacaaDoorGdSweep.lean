/- guard: Sweep; Enter where there is no room. -/
import Derived.Test.YtnfkkopegbeacaaDoorPrPrune
import Derived.Test.YtnfkkopegbeacaaDoorGdGops
set_option maxRecDepth 100000
namespace Go.Proofs.YtnfkkopegbeacaaDoor
open Go.RowKit Go.Shelf
def ovr (ho now : Int) (v : VT) : Bool := decide (tI (tI v.u + tI ho) ≤ now)
def swL (ho now : Int) (l : List (List UInt8 × VT)) : List (List UInt8 × VT) := l.filter fun q => !ovr ho now q.2
section
variable {w w1 w' : World} {base G T m cap : Nat} {b mo ho : Int} {l : List (List UInt8 × VT)}
theorem sweep_gd (h : GD w base G T m cap b mo ho l) (now : Int) (k0 : 0 ≤ ho) (k1 : ho ≤ 1099511627776) (hu : ∀ q ∈ l, 0 ≤ q.2.u ∧ q.2.u < 18446744073709551616) :
    Calls Tryd.prog 22 #[tP G, u64v now] w fun e w' => (∃ n, e = .returned (.int .i64 n)) ∧ GD w' base G T m cap b mo ho (swL ho now l) ∧ Below base w w' := by
  have hmf : ∀ (fn : Fn) (first cap : Array Value) (w : World), (Instr.makeFunc fn first cap).run Tryd.prog w = .ok (.func fn first cap) w := fun _ _ _ _ => rfl
  obtain ⟨⟨xs, ht, rfl, hT, hm, hx⟩, hblk, hlo⟩ := h
  obtain ⟨W, hW⟩ : ∃ W, W = (w.alloc (.cells #[tP G] 26)).alloc (.cells #[u64v now] 25) := ⟨_, rfl⟩
  have hBW : Below w.heap.size w W := by rw [hW]; exact ((Below.refl _ w).alloc (Nat.le_refl _) _).alloc (by simp) _
  have q2 : Boxed W w.heap.size 26 (tP G) := by rw [hW]; exact (Boxed.new w _ _).alloc _
  have q3 : Boxed W (w.heap.size + 1) 25 (u64v now) := by
    rw [hW]
    have := Boxed.new (w.alloc (.cells #[tP G] 26)) 25 (u64v now)
    rwa [World.size_alloc] at this
  have hblkW : BlkT W G gT [u64v b, u64v mo, u64v ho, tP T] := hblk.below hBW hblk.lt
  have htW := ht.keep hBW
  have hlt := tbk_lt ht
  have hGn : G ∉ tbk T m xs := by
    intro hk
    unfold BlkT at hblk
    rcases List.mem_cons.1 hk with rfl | hk
    · have := ht.tbl
      unfold BlkT at this
      rw [hblk] at this
      cases this
    · rcases List.mem_cons.1 hk with rfl | hk
      · obtain ⟨D, ⟨es, clock, hb, _⟩, _⟩ := ht.map
        rw [hblk] at hb; cases hb
      · obtain ⟨y, hy, rfl⟩ := List.mem_map.1 hk
        obtain ⟨cs, hb⟩ := chn_ty xs none none ht.chn y hy
        unfold BlkT at hb
        rw [hblk] at hb
        cases hb
  have hpr := prune_any htW (ovr ho now) ⟨w.heap.size, 0, none⟩ ⟨w.heap.size + 1, 0, none⟩ (fun A hA y hy W' hW' => by
    have hin : (y.key, y.v) ∈ tbs xs := by unfold tbs; exact List.mem_map.2 ⟨y, hy, rfl⟩
    have hsW := hBW.size
    have c2 : Boxed A w.heap.size 26 (tP G) := (hA.block _ q2.lt (fun e => by have := hlt _ e; omega)).trans q2
    have c3 : Boxed A (w.heap.size + 1) 25 (u64v now) := (hA.block _ q3.lt (fun e => by have := hlt _ e; omega)).trans q3
    have cG : BlkT A G gT [u64v b, u64v mo, u64v ho, tP T] := (hA.block _ hblkW.lt hGn).trans hblkW
    exact sweep1_any (T := T) (mo := mo) (b := b) y.key y.v (cG.below hW' cG.lt) (Boxed.cell (W := W') (B := w.heap.size) (t := 26) ((hW'.block _ c2.lt).trans c2)) (Boxed.cell (W := W') (B := w.heap.size + 1) (t := 25) ((hW'.block _ c3.lt).trans c3)) (hu _ hin).1 (hu _ hin).2 k0 k1)
  have HPR := Lib.hid hpr
  have c2 := q2.cell
  have cG : W.cell? ⟨G, 3, none⟩ = some (tP T) := hblkW.at rfl
  have HF : Hid (∀ w', Tb w' T m cap (left (ovr ho now) xs xs.length) → Trn (tbk T m xs) W w' → GD w' base G T m cap b mo ho (swL ho now (tbs xs)) ∧ Below base w w') := Lib.hid (fun w' h1 h2 => by
    have hl : left (ovr ho now) xs xs.length = xs.filter fun y => !ovr ho now y.v := by
      show ((xs.take xs.length).filter _) ++ xs.drop xs.length = _
      rw [List.take_length, List.drop_length, List.append_nil]
    rw [hl] at h1
    have hbw : base ≤ w.heap.size := by have := ht.tbl.lt; omega
    refine ⟨⟨⟨_, h1, ?_, hT, hm, fun y hy => hx y (List.mem_filter.1 hy).1⟩, (h2.block _ hblkW.lt hGn).trans hblkW, hlo⟩, (hBW.mono hbw).trans (h2.toBelow (by have := hBW.size; omega) ?_)⟩
    · unfold tbs swL
      rw [List.filter_map]
      rfl
    · intro k hk
      rcases List.mem_cons.1 hk with rfl | hk
      · exact hT
      · rcases List.mem_cons.1 hk with rfl | hk
        · exact hm
        · obtain ⟨y, hy, rfl⟩ := List.mem_map.1 hk
          exact hx y hy)
  rw [hW] at c2 cG
  clear hpr q2 q3 hblkW htW hlt hGn hBW ht hT hm hx hblk hlo hu
  go_enter Tryd.func22, Tryd.ntmps22
  go_wp2_with fail
  rw [← hW]
  refine HPR.out.mono ?_
  rintro e w2 ⟨rfl, h1, h2⟩
  have HR := Lib.hid (HF.out w2 h1 h2)
  clear h1 h2 hW c2 cG
  go_wp2_with fail
  go_ret
  exact ⟨⟨_, rfl⟩, HR.out⟩
end
end Go.Proofs.YtnfkkopegbeacaaDoor
