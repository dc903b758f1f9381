/- box and its reference: entries and terms, tags alike (turned ones too). -/
import Derived.Test.YtlnjpmpddomjiaaGreatDoorGmBeXo
import Derived.Test.YtlnjpmpddomjiaaGreatDoorGmTmD
import Derived.Test.YtlnjpmpddomjiaaGreatDoorGmBeSo
set_option maxRecDepth 100000
namespace Go.Proofs.YtlnjpmpddomjiaaGreatDoor
open Go.RowKit
/-- What a term says of an entry. -/
def enW (e : EnL) : TmV := ⟨e.kind, e.key, e.text, e.rounds, (numsL e.lst).map Int.ofNat, e.mask⟩
/-- An entry whose list is one of numbers in order. -/
def EnG (e : EnL) : Prop := ∃ ns : List Nat, e.lst = (ns.map len4).flatten ∧ ns.length ≤ 4096 ∧ (∀ x ∈ ns, x < 4294967296)
theorem EnG.nums {e : EnL} (h : EnG e) : ((numsL e.lst).map len4).flatten = e.lst := by
  obtain ⟨ns, h1, _, h2⟩ := h
  rw [h1, numsL_flat ns h2]
theorem EnG.le {e : EnL} (h : EnG e) : (numsL e.lst).length ≤ 4096 := by
  obtain ⟨ns, h1, h3, h2⟩ := h
  rw [h1, numsL_flat ns h2]
  exact h3
theorem enW_inj {a b : EnL} (ha : EnG a) (hb : EnG b) (h : enW a = enW b) : a = b := by
  unfold enW at h
  simp only [TmV.mk.injEq] at h
  obtain ⟨h1, h2, h3, h4, h5, h6⟩ := h
  have h7 : numsL a.lst = numsL b.lst := by
    have := congrArg (List.map Int.toNat) h5
    simpa [List.map_map, Function.comp_def] using this
  exact EnL.eq h1 h2 h3 h4 (by rw [← ha.nums, ← hb.nums, h7]) h6
theorem enW_mem {es : List EnL} {e : EnL} (hs : ∀ x ∈ es, EnG x) (he : EnG e) : enW e ∈ es.map enW ↔ e ∈ es := by
  constructor
  · intro h
    obtain ⟨x, hx, hxe⟩ := List.mem_map.1 h
    exact enW_inj (hs x hx) he hxe ▸ hx
  · exact fun h => List.mem_map_of_mem h
theorem enW_idx {es : List EnL} {e : EnL} (hs : ∀ x ∈ es, EnG x) (he : EnG e) (hm : e ∈ es) : (es.map enW).idxOf (enW e) = es.idxOf e := by
  have h1 := List.idxOf_lt_length_of_mem hm
  refine idx_first _ (by rw [List.length_map]; exact h1) (by rw [List.getElem_map, List.getElem_idxOf h1]) (fun j hj hlt hje => ?_)
  rw [List.length_map] at hj
  rw [List.getElem_map] at hje
  have h2 := enW_inj (hs _ (List.getElem_mem hj)) he hje
  have h3 := List.not_of_lt_findIdx (p := fun y => y == e) (xs := es) (i := j) hlt
  simp [h2] at h3
theorem tag_same {es : List EnL} {e : EnL} (hs : ∀ x ∈ es, EnG x) (he : EnG e) : tagT (es.map enW) (enW e) = tagE es e := by
  unfold tagT tagE
  by_cases hm : e ∈ es
  · rw [if_pos ((enW_mem hs he).2 hm), if_pos hm, enW_idx hs he hm]
    unfold numE
    rw [if_pos hm]
  · rw [if_neg (fun h => hm ((enW_mem hs he).1 h)), if_neg hm, List.length_map]
    rfl
theorem es_same {es : List EnL} {e : EnL} (hs : ∀ x ∈ es, EnG x) (he : EnG e) : esT (es.map enW) (enW e) = (esE es e).map enW := by
  unfold esT esE
  by_cases hm : e ∈ es
  · rw [if_pos ((enW_mem hs he).2 hm), if_pos hm]
  · rw [if_neg (fun h => hm ((enW_mem hs he).1 h)), if_neg hm, List.length_map]
    split
    · rfl
    · rw [List.map_append]; rfl
theorem full_same {es : List EnL} {e : EnL} (full : Bool) (hs : ∀ x ∈ es, EnG x) (he : EnG e) : fullT full (es.map enW) (enW e) = fullE full es e := by
  unfold fullT fullE
  by_cases hm : e ∈ es
  · rw [if_pos ((enW_mem hs he).2 hm), if_pos hm]
  · rw [if_neg (fun h => hm ((enW_mem hs he).1 h)), if_neg hm, List.length_map]
/-- The entries of a Box as they come to be: none twice, kinds 1 to 4, of the turned ones the numbers in order, none greater than how many there are. -/
structure GE (es : List EnL) : Prop where
  g : ∀ e ∈ es, EnG e
  nd : es.Nodup
  le : es.length ≤ 4096
  lt : ∀ e ∈ es, (numsL e.lst).Pairwise (· < ·) ∧ ∀ n ∈ numsL e.lst, 1 ≤ n ∧ n ≤ es.length
  mask : ∀ e ∈ es, e.kind = 4 → e.mask.length = 32
theorem GE.nil : GE [] := ⟨by simp, by simp, by simp, by simp, by simp⟩
theorem esE_cases (es : List EnL) (e : EnL) : esE es e = es ∨ (e ∉ es ∧ es.length < 4096 ∧ esE es e = es ++ [e]) := by
  unfold esE
  by_cases h : e ∈ es
  · exact .inl (if_pos h)
  · rw [if_neg h]
    by_cases h2 : 4096 ≤ es.length
    · exact .inl (if_pos h2)
    · rw [if_neg h2]
      exact .inr ⟨h, by omega, rfl⟩
theorem GE.put {es : List EnL} {e : EnL} (h : GE es) (he : EnG e) (h1 : (numsL e.lst).Pairwise (· < ·)) (h2 : ∀ n ∈ numsL e.lst, 1 ≤ n ∧ n ≤ es.length) (h3 : e.kind = 4 → e.mask.length = 32) : GE (esE es e) := by
  rcases esE_cases es e with hc | ⟨hn, hl, hc⟩
  · rw [hc]; exact h
  · rw [hc]
    refine ⟨?_, ?_, by rw [List.length_append]; simp; omega, ?_, ?_⟩
    · intro x hx
      rcases List.mem_append.1 hx with hx | hx
      · exact h.g x hx
      · rw [List.mem_singleton.1 hx]; exact he
    · rw [List.nodup_append]
      refine ⟨h.nd, by simp, fun a ha b hb => ?_⟩
      rw [List.mem_singleton.1 hb]
      exact fun q => hn (q ▸ ha)
    · intro x hx
      rw [List.length_append, List.length_singleton]
      rcases List.mem_append.1 hx with hx | hx
      · exact ⟨(h.lt x hx).1, fun n hn => by have := (h.lt x hx).2 n hn; omega⟩
      · rw [List.mem_singleton.1 hx]; exact ⟨h1, fun n hn => by have := h2 n hn; omega⟩
    · intro x hx
      rcases List.mem_append.1 hx with hx | hx
      · exact h.mask x hx
      · rw [List.mem_singleton.1 hx]; exact h3
theorem GE.bare {es : List EnL} {e : EnL} (h : GE es) (h1 : e.lst = []) (h2 : e.kind ≠ 4) : GE (esE es e) :=
  h.put ⟨[], by rw [h1]; rfl, by simp, by simp⟩ (by rw [h1]; simp [numsL]) (by rw [h1]; simp [numsL]) (fun h => absurd h h2)
theorem EnG.bare {e : EnL} (h1 : e.lst = []) : EnG e := ⟨[], by rw [h1]; rfl, by simp, by simp⟩
theorem tagE_len (es : List EnL) (e : EnL) : (tagE es e).length = 32 := by
  unfold tagE
  split
  · simp [fro_length, len4]
  · split
    · decide
    · simp [fro_length, len4]
end Go.Proofs.YtlnjpmpddomjiaaGreatDoor
