/- trace: Of and About, collected. -/
import Derived.Test.YtockimgedckheaaGreatDoorTvFd
set_option maxRecDepth 100000
namespace Go.Proofs.YtockimgedckheaaGreatDoor
open Go Go.RowKit Go.Shelf
attribute [local go_sem] Oper.semAt_some
theorem collect_about (g b gb : Nat) (n : Int) (V : Value) (L : List EvL) (w : World) (hcT : w.cell? ⟨b, 1, none⟩ = some V) (hv : EvIn w w.heap.size V L) (hl : L.length ≤ 1000)
    (hg0 : w.cell? ⟨g, 0, none⟩ = some (.pointer (some ⟨b, 0, none⟩))) (hg1 : w.cell? ⟨g + 1, 0, none⟩ = some (aboutF gb)) (hn : w.cell? ⟨gb, 0, none⟩ = some (.int .i64 n)) :
    Calls Tryz.prog 17 #[thV g] w fun e w' => ∃ v, e = .returned v ∧ OwnV tEv w' w.heap.size v (L.filter (abtP n)) ∧ Below w.heap.size w w' := by
  refine collect_ev g (L.filter (abtP n)) (fun A => A.cell? ⟨g, 0, none⟩ = some (.pointer (some ⟨b, 0, none⟩)) ∧ A.cell? ⟨g + 1, 0, none⟩ = some (aboutF gb) ∧ A.cell? ⟨gb, 0, none⟩ = some (.int .i64 n)) w (Nat.le_trans (List.length_filter_le _ _) hl) ?_ (fun A hA => ⟨cell_belowV hg0 hA, cell_belowV hg1 hA, cell_belowV hn hA⟩)
  intro S b0 hS w' hw hb0
  have := thSeq_about hS (abtP n) (fun A => A.cell? ⟨gb, 0, none⟩ = some (.int .i64 n)) g b gb V L w' hb0 (fun e A h => abtW gb n e A h) (cell_belowV hcT hw) ((hv.below hw (Nat.le_refl _)).more hw.size) hl 9 (by omega)
  intro l J Jx W h1 h2 h3 h4 h5 h6
  exact this l J Jx W h1 (fun pre A hJ => by obtain ⟨⟨q1, q2, q3⟩, q4⟩ := h2 pre A hJ; exact ⟨q1, q2, q3, q4⟩) h3 h4 h5 h6
theorem collect_of (g b gb : Nat) (x y : List UInt8) (V : Value) (L : List EvL) (w : World) (hcT : w.cell? ⟨b, 1, none⟩ = some V) (hv : EvIn w w.heap.size V L) (hl : L.length ≤ 1000)
    (hg0 : w.cell? ⟨g, 0, none⟩ = some (.pointer (some ⟨b, 0, none⟩))) (hg1 : w.cell? ⟨g + 1, 0, none⟩ = some (ofG gb)) (hn : OfW gb x y w) :
    Calls Tryz.prog 17 #[thV g] w fun e w' => ∃ v, e = .returned v ∧ OwnV tEv w' w.heap.size v (L.filter (ofP x y)) ∧ Below w.heap.size w w' := by
  refine collect_ev g (L.filter (ofP x y)) (fun A => A.cell? ⟨g, 0, none⟩ = some (.pointer (some ⟨b, 0, none⟩)) ∧ A.cell? ⟨g + 1, 0, none⟩ = some (ofG gb) ∧ OfW gb x y A) w (Nat.le_trans (List.length_filter_le _ _) hl) ?_ (fun A hA => ⟨cell_belowV hg0 hA, cell_belowV hg1 hA, hn.below hA⟩)
  intro S b0 hS w' hw hb0
  have := thSeq_of hS (ofP x y) (fun A => OfW gb x y A) g b gb V L w' hb0 (fun e A h => ofW gb x y e A h) (cell_belowV hcT hw) ((hv.below hw (Nat.le_refl _)).more hw.size) hl 9 (by omega)
  intro l J Jx W h1 h2 h3 h4 h5 h6
  exact this l J Jx W h1 (fun pre A hJ => by obtain ⟨⟨q1, q2, q3⟩, q4⟩ := h2 pre A hJ; exact ⟨q1, q2, q3, q4⟩) h3 h4 h5 h6
section
variable {w w' : World} {base b room last : Nat} {V C : Value} {L : List EvL} {ch : List UInt8}
/-- About and Collect. -/
theorem about_tr (h : TR w base b room V C L last ch) (n : Int) :
    Calls Tryz.prog 25 #[.pointer (some ⟨b, 0, none⟩), .int .i64 n] w fun e w1 => ∃ g, e = .returned (thV g) ∧ Below w.heap.size w w1 ∧
      Calls Tryz.prog 17 #[thV g] w1 fun e w' => ∃ v, e = .returned v ∧ OwnV tEv w' w.heap.size v (L.filter (abtP n)) ∧ Below w.heap.size w w' := by
  refine (trAbout (some ⟨b, 0, none⟩) n w).mono ?_
  rintro e W ⟨rfl, hW⟩
  have hb : Below w.heap.size w W := by rw [hW]; unfold thW; exact (((Below.refl _ w).alloc (Nat.le_refl _) _).alloc (by simp) _).alloc (by simp; omega) _
  have hT := h.below hb
  have k0 : W.cell? ⟨w.heap.size, 0, none⟩ = some (.int .i64 n) := by rw [hW]; unfold thW; exact (((Blk.new w [.int .i64 n] 3).alloc _).alloc _).at (o := 0) rfl
  have k1 : W.cell? ⟨w.heap.size + 1, 0, none⟩ = some (.pointer (some ⟨b, 0, none⟩)) := by
    have := ((Blk.new (w.alloc (.cells #[.int .i64 n] 3)) [.pointer (some ⟨b, 0, none⟩)] 39).alloc (.cells #[aboutF w.heap.size] 99)).at (o := 0) rfl
    rw [World.size_alloc] at this
    rw [hW]; exact this
  have k2 : W.cell? ⟨w.heap.size + 1 + 1, 0, none⟩ = some (aboutF w.heap.size) := by
    have := (Blk.new ((w.alloc (.cells #[.int .i64 n] 3)).alloc (.cells #[.pointer (some ⟨b, 0, none⟩)] 39)) [aboutF w.heap.size] 99).at (o := 0) rfl
    rw [World.size_alloc, World.size_alloc] at this
    rw [hW]; exact this
  refine ⟨_, rfl, hb, (collect_about (w.heap.size + 1) b w.heap.size n V L W (hT.blk.at (o := 1) rfl) hT.own.evIn h.len k1 k2 k0).mono ?_⟩
  rintro e w' ⟨v, rfl, ho, hb2⟩
  exact ⟨v, rfl, ho.le hb.size, hb.trans (hb2.mono hb.size)⟩
theorem of_tr (h : TR w base b room V C L last ch) (q : Nat) (x y : List UInt8) (hk : Blk w q [str x, str y]) :
    Calls Tryz.prog 24 #[.pointer (some ⟨b, 0, none⟩), .slice (some ⟨q, 0, none⟩) 2 2] w fun e w1 => ∃ g, e = .returned (thV g) ∧ Below w.heap.size w w1 ∧
      Calls Tryz.prog 17 #[thV g] w1 fun e w' => ∃ v, e = .returned v ∧ OwnV tEv w' w.heap.size v (L.filter (ofP x y)) ∧ Below w.heap.size w w' := by
  refine (trOf_two (some ⟨b, 0, none⟩) q x y w hk).mono ?_
  rintro e W ⟨g, _, rfl, k1, k2, k0, hb⟩
  have hT := h.below hb
  refine ⟨_, rfl, hb, (collect_of g b w.heap.size x y V L W (hT.blk.at (o := 1) rfl) hT.own.evIn h.len k1 k2 k0).mono ?_⟩
  rintro e w' ⟨v, rfl, ho, hb2⟩
  exact ⟨v, rfl, ho.le hb.size, hb.trans (hb2.mono hb.size)⟩
end
end Go.Proofs.YtockimgedckheaaGreatDoor
