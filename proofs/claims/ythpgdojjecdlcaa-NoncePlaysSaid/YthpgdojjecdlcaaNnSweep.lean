/- nonce: Sweep; the oldest of a table. -/
import Derived.Test.YthpgdojjecdlcaaNnFr
set_option maxRecDepth 100000
namespace Go.Proofs.Ythpgdojjecdlcaa
open Go.RowKit Go.Shelf
section
variable {w w1 w' : World} {base S T m cap : Nat} {f : NF} {l : List (List UInt8 × VT)}
abbrev PLn := List (List UInt8 × VT)
def swL (f : NF) (now : Int) (l : PLn) : PLn := l.filter fun q => !goneB f now q.2
def swN (f : NF) (now : Int) (l : PLn) : Int := ((l.filter fun q => goneB f now q.2).length : Int)
def okL (l : PLn) : Prop := ∀ q ∈ l, 0 ≤ q.2.a ∧ q.2.a < 18446744073709551616
/-- The Store is none of the table's rows. -/
theorem store_ne {xs : List Nd} (ht : Tb w T m cap xs) (hblk : BlkT w S tSt (nfC f T)) : S ∉ tbk T m xs := by
  intro hk
  unfold BlkT at hblk
  rcases List.mem_cons.1 hk with rfl | hk
  · have := ht.tbl
    unfold BlkT at this
    rw [hblk] at this
    cases this
  · rcases List.mem_cons.1 hk with rfl | hk
    · obtain ⟨D, ⟨es, clock, hb, _⟩, _⟩ := ht.map
      rw [hblk] at hb; cases hb
    · obtain ⟨y, hy, rfl⟩ := List.mem_map.1 hk
      obtain ⟨cs, hb⟩ := chn_ty xs none none ht.chn y hy
      unfold BlkT at hb
      rw [hblk] at hb
      cases hb
theorem sweep_ns (h : NS w base S T m cap f l) (now : Int) (n0 : 0 ≤ now) (n1 : now < 18446744073709551616) (hok : okL l) :
    Calls Try.prog 15 #[tP S, u64v now] w fun e w' => e = .returned (.int .i64 (swN f now l)) ∧ NS w' base S T m cap f (swL f now l) ∧ FrN base m w w' := by
  have hmf : ∀ (fn : Fn) (first cap : Array Value) (w : World), (Instr.makeFunc fn first cap).run Try.prog w = .ok (.func fn first cap) w := fun _ _ _ _ => rfl
  obtain ⟨⟨xs, ht, rfl, hT, hm, hx⟩, hblk, hlo⟩ := h
  obtain ⟨W, hW⟩ : ∃ W, W = (w.alloc (.cells #[tP S] 25)).alloc (.cells #[u64v now] 22) := ⟨_, rfl⟩
  have hBW : Below w.heap.size w W := by rw [hW]; exact ((Below.refl _ w).alloc (Nat.le_refl _) _).alloc (by simp) _
  have q2 : Boxed W w.heap.size 25 (tP S) := by rw [hW]; exact (Boxed.new w _ _).alloc _
  have q3 : Boxed W (w.heap.size + 1) 22 (u64v now) := by
    rw [hW]
    have := Boxed.new (w.alloc (.cells #[tP S] 25)) 22 (u64v now)
    rwa [World.size_alloc] at this
  have hblkW : BlkT W S tSt (nfC f T) := hblk.below hBW hblk.lt
  have htW := ht.keep hBW
  have hlt := tbk_lt ht
  have hGn : S ∉ tbk T m xs := store_ne ht hblk
  have hpr := prune_any htW (goneB f now) ⟨w.heap.size + 1, 0, none⟩ ⟨w.heap.size, 0, none⟩ (fun A hA y hy W' hW' => by
    have hin : (y.key, y.v) ∈ tbs xs := by unfold tbs; exact List.mem_map.2 ⟨y, hy, rfl⟩
    have hsW := hBW.size
    have c2 : Boxed A w.heap.size 25 (tP S) := (hA.block _ q2.lt (fun e => by have := hlt _ e; omega)).trans q2
    have c3 : Boxed A (w.heap.size + 1) 22 (u64v now) := (hA.block _ q3.lt (fun e => by have := hlt _ e; omega)).trans q3
    have cG : BlkT A S tSt (nfC f T) := (hA.block _ hblkW.lt hGn).trans hblkW
    exact sweep1_any y.key y.v now (cG.below hW' cG.lt) (Boxed.cell (W := W') (B := w.heap.size) (t := 25) ((hW'.block _ c2.lt).trans c2)) (Boxed.cell (W := W') (B := w.heap.size + 1) (t := 22) ((hW'.block _ c3.lt).trans c3)) n0 n1 (hok _ hin).1 (hok _ hin).2)
  have HPR := Lib.hid hpr
  have c2 := q2.cell
  have cG : W.cell? ⟨S, 1, none⟩ = some (tP T) := hblkW.at rfl
  have HF : Hid (∀ w', Tb w' T m cap (left (goneB f now) xs xs.length) → Trn (tbk T m xs) W w' → NS w' base S T m cap f (swL f now (tbs xs)) ∧ FrN base m w w') := Lib.hid (fun w' h1 h2 => by
    have hl : left (goneB f now) xs xs.length = xs.filter fun y => !goneB f now y.v := by
      show ((xs.take xs.length).filter _) ++ xs.drop xs.length = _
      rw [List.take_length, List.drop_length, List.append_nil]
    rw [hl] at h1
    have hbw : base ≤ w.heap.size := by have := ht.tbl.lt; omega
    refine ⟨⟨⟨_, h1, ?_, hT, hm, fun y hy => hx y (List.mem_filter.1 hy).1⟩, (h2.block _ hblkW.lt hGn).trans hblkW, hlo⟩, (FrN.of_below hBW hbw).trans (FrN.of_trn htW h2 ?_)⟩
    · unfold tbs swL
      rw [List.filter_map]
      rfl
    · intro k hk
      rcases List.mem_cons.1 hk with rfl | hk
      · exact hT
      · rcases List.mem_cons.1 hk with rfl | hk
        · exact hm
        · obtain ⟨y, hy, rfl⟩ := List.mem_map.1 hk
          exact hx y hy)
  have hcn : cnt (goneB f now) xs xs.length = swN f now (tbs xs) := by
    show ((((xs.take xs.length).filter fun y => goneB f now y.v).length : Nat) : Int) = ((((tbs xs).filter fun q => goneB f now q.2).length : Nat) : Int)
    rw [List.take_length]
    unfold tbs
    rw [List.filter_map, List.length_map]
    rfl
  rw [← hcn]
  rw [hW] at c2 cG
  clear hpr q2 q3 hblkW htW hlt hGn hBW ht hT hm hx hblk hlo hok hcn
  go_enter Try.func15, Try.ntmps15
  go_wp2_with fail
  rw [← hW]
  refine HPR.out.mono ?_
  rintro e w2 ⟨rfl, h1, h2⟩
  have HR := Lib.hid (HF.out w2 h1 h2)
  clear h1 h2 hW c2 cG
  go_wp2_with fail
  go_ret
  exact ⟨rfl, HR.out⟩
theorem oldest_anyT {x : Nd} {xs : List Nd} (h : Tb w T m cap (x :: xs)) : Calls Try.prog 54 #[tP T] w fun e w' => e = .returned (.tuple #[strT x.key, eV x.v, .bool true]) ∧ Below w.heap.size w w' := by
  have HK : Hid (∀ W, Below w.heap.size w W → W.cell? ⟨T, 2, none⟩ = some (.pointer (some ⟨x.b, 0, none⟩)) ∧ W.cell? ⟨x.b, 0, none⟩ = some (strT x.key) ∧ W.cell? ⟨x.b, 1, none⟩ = some (strT x.v.s) ∧ W.cell? ⟨x.b, 2, none⟩ = some (.int .u64 x.v.a) ∧ W.cell? ⟨x.b, 3, none⟩ = some (.bool x.v.sp) ∧ W.cell? ⟨x.b, 4, none⟩ = some (.int .u32 x.v.ct)) := Lib.hid (fun W hW => by
    have h1 := h.keep hW
    exact ⟨h1.c2, h1.chn.1.at rfl, h1.chn.1.at rfl, h1.chn.1.at rfl, h1.chn.1.at rfl, h1.chn.1.at rfl⟩)
  obtain ⟨b, k, ⟨es, ea, esp, ect⟩⟩ := x
  unfold eV
  simp only at HK ⊢
  obtain ⟨c2, d0, d1, d2, d3, d4⟩ := HK.out (w.alloc (.cells #[.string ⟨#[]⟩, .int .u64 0, .bool false, .int .u32 0] tNe)) ((Below.refl _ w).alloc (Nat.le_refl _) _)
  clear h
  go_enter Try.func54, Try.ntmps54
  go_wp2_with fail
  go_region_held3 (fun w' => w'.cell? ⟨T, 2, none⟩ = some (.pointer (some ⟨b, 0, none⟩)) ∧ w'.cell? ⟨b, 0, none⟩ = some (strT k) ∧ w'.cell? ⟨b, 1, none⟩ = some (strT es) ∧ w'.cell? ⟨b, 2, none⟩ = some (.int .u64 ea) ∧ w'.cell? ⟨b, 3, none⟩ = some (.bool esp) ∧ w'.cell? ⟨b, 4, none⟩ = some (.int .u32 ect)) (first | exact ⟨c2, d0, d1, d2, d3, d4⟩ | exact HK.out _ (((Below.refl _ w).alloc (Nat.le_refl _) _).drew) | go_keep) (fail)
  have HN : BlkT (w.alloc (.cells #[strT es, .int .u64 ea, .bool esp, .int .u32 ect] tNe)) w.heap.size tNe [strT es, .int .u64 ea, .bool esp, .int .u32 ect] := heap_alloc_new w _
  have n0 := HN.at (o := 0) rfl
  have n1 := HN.at (o := 1) rfl
  have n2 := HN.at (o := 2) rfl
  have n3 := HN.at (o := 3) rfl
  go_wp2_with fail
  refine bodyPost_ret (v := .tuple #[strT k, .agg #[strT es, .int .u64 ea, .bool esp, .int .u32 ect], .bool true]) (by simp [results, Try.results54, go_sem]) rfl ⟨rfl, ((Below.refl _ w).alloc (Nat.le_refl _) _).drew⟩
theorem oldest_tb {p : List UInt8 × VT} {l : PLn} (h : TB w base T m cap (p :: l)) : Calls Try.prog 54 #[tP T] w fun e w' => e = .returned (.tuple #[strT p.1, eV p.2, .bool true]) ∧ TB w' base T m cap (p :: l) ∧ Below w.heap.size w w' := by
  have h0 := h
  obtain ⟨xs, h, he, _⟩ := h
  cases xs with
  | nil => cases he
  | cons x t =>
    obtain ⟨rfl, _⟩ : (x.key, x.v) = p ∧ tbs t = l := by
      unfold tbs at he ⊢
      rw [List.map_cons] at he
      exact List.cons.inj he
    refine (oldest_anyT h).mono ?_
    rintro e w1 ⟨rfl, hb⟩
    exact ⟨rfl, h0.keep hb, hb⟩
end
end Go.Proofs.Ythpgdojjecdlcaa
