/- nonce: makeRoom. -/
import Derived.Test.YthpgdojjecdlcaaNnSweep
import Derived.Deep.RegionLaw
set_option maxRecDepth 100000
namespace Go.Proofs.Ythpgdojjecdlcaa
open Go.RowKit Go.Shelf
section
variable {w w1 w' : World} {base S T m cap : Nat} {f : NF} {l : PLn}
/-- What is left where there was no room. -/
def mrL (f : NF) (now : Int) (cap : Nat) (l : PLn) : NF × PLn :=
  if l.length ≠ cap then (f, l) else if 0 < swN f now l then (f, swL f now l) else
    match l with
    | [] => (f, [])
    | p :: t => ({ f with mr := if f.mr < p.2.a then p.2.a else f.mr, md := true }, t)
theorem swL_none {now : Int} (h : ¬ 0 < swN f now l) : swL f now l = l := by
  unfold swN at h
  have h0 : (l.filter fun q => goneB f now q.2).length = 0 := by omega
  have h1 : (l.filter fun q => goneB f now q.2) = [] := List.eq_nil_of_length_eq_zero h0
  unfold swL
  rw [List.filter_eq_self]
  intro q hq
  rw [List.filter_eq_nil_iff] at h1
  have := h1 q hq
  simpa using this
theorem TB.nodup (h : TB w base T m cap l) : (l.map (·.1)).Nodup := by
  obtain ⟨xs, h, rfl, _⟩ := h
  unfold tbs
  rw [List.map_map]
  exact h.keys
theorem TB.klen (h : TB w base T m cap l) : ∀ q ∈ l, q.1.length ≤ 100000 := by
  obtain ⟨xs, h, rfl, _⟩ := h
  intro q hq
  obtain ⟨y, hy, rfl⟩ := List.mem_map.1 hq
  exact h.len y hy
theorem dropL_head {p : List UInt8 × VT} {t : PLn} (hn : ((p :: t).map (·.1)).Nodup) : dropL (p :: t) p.1 = (0, t) := by
  have h1 : hasL (p :: t) p.1 = true := by unfold hasL; rw [List.any_cons]; simp
  unfold dropL
  rw [h1, if_pos rfl, List.filter_cons_of_neg (by simp)]
  have : (t.filter fun q => !(q.1 == p.1)) = t := by
    rw [List.filter_eq_self]
    intro q hq
    have hne : q.1 ≠ p.1 := fun e => (List.nodup_cons.1 hn).1 (List.mem_map.2 ⟨q, hq, e⟩)
    simp [hne]
  rw [this]
theorem NS.after (h : NS w base S T m cap f l) {l' : PLn} (hf : Fr base w w') (ht : TB w' base T m cap l') : NS w' base S T m cap f l' :=
  ⟨ht, hf.kt _ _ _ _ h.blk (by decide) (by decide), h.lo⟩
theorem NS.stored (h : NS w base S T m cap f l) {f' : NF} (hS : ∀ k, k ≠ S → w'.heap[k]? = w.heap[k]?) (hb : BlkT w' S tSt (nfC f' T)) : NS w' base S T m cap f' l := by
  obtain ⟨⟨xs, ht, e, h1, h2, h3⟩, hblk, hlo⟩ := h
  have hn := store_ne ht hblk
  exact ⟨⟨xs, ht.eqs (fun k hk => hS k (fun e => hn (by rw [← e]; exact hk))), e, h1, h2, h3⟩, hb, hlo⟩
theorem NS.two (h : NS w base S T m cap f l) (M : Int) : NS ((w.setCell ⟨S, 4, none⟩ (u64v M)).setCell ⟨S, 5, none⟩ (.bool true)) base S T m cap { f with mr := M, md := true } l ∧ NS ((w.setCell ⟨S, 5, none⟩ (.bool true)).setCell ⟨S, 4, none⟩ (u64v M)) base S T m cap { f with mr := M, md := true } l :=
  ⟨h.stored (fun k hk => (Below.heap_setCell _ _ _ k hk).trans (Below.heap_setCell _ _ _ k hk)) ((h.blk.set 4 (u64v M)).set 5 (.bool true)), h.stored (fun k hk => (Below.heap_setCell _ _ _ k hk).trans (Below.heap_setCell _ _ _ k hk)) ((h.blk.set 5 (.bool true)).set 4 (u64v M))⟩
set_option maxHeartbeats 2000000 in
theorem makeRoom_ns (h : NS w base S T m cap f l) (now : Int) (n0 : 0 ≤ now) (n1 : now < 18446744073709551616) (hok : okL l) (hc : 1 ≤ cap) :
    Calls Try.prog 38 #[tP S, u64v now] w fun e w' => e = .returned (.tuple #[]) ∧ NS w' base S T m cap (mrL f now cap l).1 (mrL f now cap l).2 ∧ FrN base m w w' := by
  have H := Lib.hid h
  have HBL := Lib.hid h.tb.base_le
  have c1 : w.cell? ⟨S, 1, none⟩ = some (tP T) := h.blk.at rfl
  unfold mrL
  by_cases hlen : l.length = cap
  · rw [if_neg (by simpa using hlen)]
    have hb : (l.length == cap) = true := beq_iff_eq.2 hlen
    by_cases hsw : 0 < swN f now l
    · rw [if_pos hsw]
      have HS := Lib.hid hsw
      clear h
      go_enter Try.func38, Try.ntmps38
      go_wp2_with fail
      refine (full_tb H.out.tb).mono ?_
      rintro e w1 ⟨rfl, ht, hb1⟩
      rw [hb]
      have H1 := Lib.hid (H.out.keep hb1)
      have HB1 := Lib.hid (FrN.of_below (m := m) hb1 HBL.out)
      clear ht hb1 c1
      go_wp2_with fail
      refine (sweep_ns H1.out now n0 n1 hok).mono ?_
      rintro e w2 ⟨rfl, h2, hb2⟩
      have H2 := Lib.hid h2
      have HB2 := Lib.hid (HB1.out.trans hb2)
      clear h2 hb2
      go_wp2_with fail
      refine bodyPost_ret (results_none rfl _ _ _) rfl ?_
      exact ⟨rfl, H2.out, HB2.out⟩
    · rw [if_neg hsw]
      have hsl := swL_none hsw
      cases l with
      | nil => simp at hlen; omega
      | cons p t =>
        have hdr := dropL_head h.tb.nodup
        have hkl := h.tb.klen p (List.mem_cons_self ..)
        clear h
        go_enter Try.func38, Try.ntmps38
        go_wp2_with fail
        refine (full_tb H.out.tb).mono ?_
        rintro e w1 ⟨rfl, ht, hb1⟩
        rw [hb]
        have H1 := Lib.hid (H.out.keep hb1)
        have HB1 := Lib.hid (FrN.of_below (m := m) hb1 HBL.out)
        clear ht hb1 c1
        go_wp2_with fail
        refine (sweep_ns H1.out now n0 n1 hok).mono ?_
        rintro e w2 ⟨rfl, h2, hb2⟩
        rw [hsl] at h2
        have H2 := Lib.hid h2
        have HB2 := Lib.hid (HB1.out.trans hb2)
        have c2 : w2.cell? ⟨S, 1, none⟩ = some (tP T) := h2.blk.at rfl
        clear h2 hb2
        go_wp2_with fail
        refine (oldest_tb H2.out.tb).mono ?_
        rintro e w3 ⟨rfl, ht3, hb3⟩
        have h3 := H2.out.keep hb3
        obtain ⟨pk, ⟨ps, pa, pp, pc⟩⟩ := p
        unfold eV
        simp only at hdr hkl ⊢
        obtain ⟨W, hW⟩ : ∃ W, W = w3.alloc (.cells #[strT ps, .int .u64 pa, .bool pp, .int .u32 pc] tNe) := ⟨_, rfl⟩
        have hBW : Below w3.heap.size w3 W := by rw [hW]; exact (Below.refl _ w3).alloc (Nat.le_refl _) _
        have hPW : BlkT W w3.heap.size tNe [strT ps, .int .u64 pa, .bool pp, .int .u32 pc] := by rw [hW]; exact heap_alloc_new w3 _
        have hSW := h3.keep hBW
        have c3 : (w3.alloc (.cells #[strT ps, .int .u64 pa, .bool pp, .int .u32 pc] tNe)).cell? ⟨S, 1, none⟩ = some (tP T) := by rw [← hW]; exact hSW.blk.at rfl
        have HW := Lib.hid hSW
        have HP := Lib.hid hPW
        have HBW := Lib.hid ((HB2.out.below hb3 HBL.out).below hBW HBL.out)
        clear ht3 hb3 h3 hBW hPW hSW c2
        go_wp2_with fail
        rw [← hW]
        refine (drop_n HW.out.tb pk hkl).mono ?_
        rintro e w4 ⟨rfl, ht4, hf4, hn4⟩
        rw [hdr] at ht4
        have h4 := HW.out.after hf4 ht4
        have hp4 : BlkT w4 w3.heap.size tNe [strT ps, .int .u64 pa, .bool pp, .int .u32 pc] := hf4.kt _ _ _ _ HP.out (by decide) (by decide)
        have H4 := Lib.hid h4
        have HB4 := Lib.hid (HBW.out.trans hn4)
        have s4 : w4.cell? ⟨S, 4, none⟩ = some (u64v f.mr) := h4.blk.at rfl
        have p1 : w4.cell? ⟨w3.heap.size, 1, none⟩ = some (.int .u64 pa) := hp4.at rfl
        have z4 := h4.blk.free 4
        have z5 := h4.blk.free 5
        have s5 : w4.cell? ⟨S, 5, none⟩ = some (.bool f.md) := h4.blk.at rfl
        clear ht4 hf4 hn4 h4 hp4 c3 hW hdr
        go_wp2_with fail
        go_region_law (fail)
        all_goals
          refine bodyPost_end (results_none rfl _ _ _) rfl ?_
          have h2 := NS.two H4.out (if f.mr < pa then pa else f.mr)
          have hlo := H4.out.lo
          exact ⟨rfl, by first | exact h2.1.keep (Below.refl _ _).drew | exact h2.2.keep (Below.refl _ _).drew, by first | exact ((HB4.out.set H4.out.blk hlo 4 _).set (H4.out.blk.set 4 _) hlo 5 _).drew | exact ((HB4.out.set H4.out.blk hlo 5 _).set (H4.out.blk.set 5 _) hlo 4 _).drew⟩
  · rw [if_pos hlen]
    have hb : (l.length == cap) = false := beq_eq_false_iff_ne.2 hlen
    clear h
    go_enter Try.func38, Try.ntmps38
    go_wp2_with fail
    refine (full_tb H.out.tb).mono ?_
    rintro e w1 ⟨rfl, ht, hb1⟩
    rw [hb]
    have H1 := Lib.hid (H.out.keep hb1)
    have HB1 := Lib.hid (FrN.of_below (m := m) hb1 HBL.out)
    clear ht hb1 c1
    go_wp2_with fail
    refine bodyPost_ret (results_none rfl _ _ _) rfl ?_
    exact ⟨rfl, H1.out, HB1.out⟩
end
end Go.Proofs.Ythpgdojjecdlcaa
