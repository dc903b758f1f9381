/- trace: what TraceVerifies does to a row of events: one more, one less, another text; its pieces. -/
import Derived.Test.YtockimgedckheaaGreatDoorTvIn
set_option maxRecDepth 100000
namespace Go.Proofs.YtockimgedckheaaGreatDoor
open Go Go.RowKit Go.Shelf
theorem insert_ev (base g cap vb : Nat) (l : List EvL) (q : EvL) (k : Nat) (w : World) (hO : OwnV tEv w base (.slice (some ⟨g, 0, none⟩) l.length cap) l) (hk : k < l.length) (hl : l.length ≤ 100000) (hv : w.heap[vb]? = some (.cells q.cells.toArray tEv (0, 0))) (hne : vb ≠ g) (hb : base ≤ w.heap.size) :
    Calls Tryz.prog 30 #[.slice (some ⟨g, 0, none⟩) l.length cap, .int .i64 (k : Int), .slice (some ⟨vb, 0, none⟩) 1 1] w fun e w' => ∃ v', e = .returned v' ∧ OwnV tEv w' base v' (l.take k ++ q :: l.drop k) ∧ w.grownBy w' (some g) := by
  by_cases h : l.length + 1 ≤ cap
  · refine (insert_room base g cap vb l q k w hO hk h hl hv hne).mono ?_
    rintro e w' ⟨rfl, ho, hg⟩
    exact ⟨_, rfl, ho, hg⟩
  · refine (insert_grow base g cap vb l q k w hO hk (by omega) hl hv).mono ?_
    rintro e w' ⟨c, rfl, ho, hg⟩
    exact ⟨_, rfl, ho.le hb, grown_of_below hg _⟩
theorem EvIn.takeV {w : World} {B k c : Nat} {A : Option Addr} {l : List EvL} (h : EvIn w B (.slice A l.length c) l) (hk : k ≤ l.length) : EvIn w B (.slice A k c) (l.take k) := by
  obtain ⟨A', c', e, g1, g2, g3⟩ := h
  injection e with e1 e2 e3
  subst e1; subst e3
  have e4 : (l.take k).length = k := by rw [List.length_take]; omega
  refine ⟨_, _, by rw [e4], by omega, g2, fun hp => ?_⟩
  obtain ⟨g, o, rfl, hg, hc⟩ := g3 (by omega)
  refine ⟨g, o, rfl, hg, fun j hj i hi => ?_⟩
  rw [List.getElem_take]
  exact hc j (by omega) i hi
theorem EvIn.dropS {w : World} {B k c g o : Nat} {l : List EvL} (h : EvIn w B (.slice (some ⟨g, o, none⟩) l.length c) l) (hk : k < l.length) : EvIn w B (.slice (some ⟨g, o + k * 5, none⟩) (l.length - k) (c - k)) (l.drop k) := by
  obtain ⟨A', c', e, g1, g2, g3⟩ := h
  injection e with e1 e2 e3
  subst e1; subst e3
  have e4 : (l.drop k).length = l.length - k := by rw [List.length_drop]
  refine ⟨_, _, by rw [e4], by omega, ⟨by omega, fun hz => by cases hz⟩, fun hp => ?_⟩
  obtain ⟨g', o', e, hg, hc⟩ := g3 (by omega)
  injection e with e
  injection e with ea eb _
  subst ea; subst eb
  refine ⟨g, o + k * 5, rfl, hg, fun j hj i hi => ?_⟩
  rw [List.getElem_drop]
  have := hc (k + j) (by omega) i hi
  rw [show o + (k + j) * 5 + i = o + k * 5 + j * 5 + i by omega] at this
  exact this
theorem vcs_setText (x : List UInt8) : ∀ (l : List EvL) (k : Nat) (hk : k < l.length), vcs (l.set k { l[k] with text := x }) = (vcs l).set (k * 5 + 4) (str x)
  | [], k, hk => by simp at hk
  | y :: t, 0, _ => rfl
  | y :: t, k + 1, hk => by
    have ih := vcs_setText x t k (by simpa using hk)
    have e : (k + 1) * 5 + 4 = k * 5 + 4 + 5 := by omega
    rw [e]
    show EvL.cells y ++ vcs (t.set k { t[k]'(by simpa using hk) with text := x }) = _
    rw [ih]
    rfl
theorem OwnV.setText {t : TypeId} {w : World} {base g n cap : Nat} {l : List EvL} (h : OwnV t w base (.slice (some ⟨g, 0, none⟩) n cap) l) (k : Nat) (hk : k < l.length) (x : List UInt8) :
    OwnV t (w.setCell ⟨g, k * 5 + 4, none⟩ (str x)) base (.slice (some ⟨g, 0, none⟩) n cap) (l.set k { l[k] with text := x }) := by
  obtain ⟨cs, hheap, hcs, htk, hbg, hlc, hcm, hn⟩ := h.heap
  have hset : (w.setCell ⟨g, k * 5 + 4, none⟩ (str x)).heap[g]? = some (.cells (cs.set (k * 5 + 4) (str x)).toArray t (0, 0)) := by
    simp only [World.setCell]; rw [Array.getElem?_modify, if_pos rfl, hheap]; simp
  refine OwnV.of_heap hbg hset (by rw [List.length_set]; exact hcs) hcm (by rw [List.length_set]; exact hn.symm) ?_ (by omega)
  rw [List.take_set, hn, htk, vcs_setText x l k hk]
end Go.Proofs.YtockimgedckheaaGreatDoor
