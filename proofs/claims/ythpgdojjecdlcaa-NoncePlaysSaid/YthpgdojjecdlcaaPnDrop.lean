/- table: Drop, to the letter; Prune. -/
import Derived.Test.YthpgdojjecdlcaaPnAll
set_option maxRecDepth 100000
namespace Go.Proofs.Ythpgdojjecdlcaa
open Go.RowKit Go.Shelf
attribute [local go_sem] Oper.semAt_some
section
variable {w w' : World} {T m cap : Nat} {xs : List Nd}
theorem fnd_mid {l r : List Nd} {x : Nd} (h : ((l ++ x :: r).map (·.key)).Nodup) : fnd (l ++ x :: r) x.key = some x := by
  unfold fnd
  rw [List.map_append, List.map_cons] at h
  obtain ⟨_, _, h3⟩ := List.nodup_append.1 h
  have hn : l.find? (fun y => y.key == x.key) = none := by
    rw [List.find?_eq_none]
    intro y hy e
    rw [beq_iff_eq] at e
    exact h3 y.key (List.mem_map.2 ⟨y, hy, rfl⟩) x.key (List.mem_cons_self ..) e
  rw [List.find?_append, hn, List.find?_cons, beq_self_eq_true]
  rfl
theorem Tb.eqs (h : Tb w T m cap xs) (hk : ∀ k ∈ T :: m :: xs.map (·.b), w'.heap[k]? = w.heap[k]?) : Tb w' T m cap xs := by
  obtain ⟨D, hD, hI⟩ := h.map
  exact ⟨(hk T (List.mem_cons_self ..)).trans h.tbl, ⟨D, ownsMap_at hD (hk m (by simp)), hI⟩, chn_keep _ _ _ (fun y hy => hk y.b (by simp only [List.mem_cons, List.mem_map]; exact .inr (.inr ⟨y, hy, rfl⟩))) h.chn, h.nod, h.keys, h.len, h.cnt, h.cap⟩
theorem drop_exact (k : List UInt8) {x : Nd} {l r : List Nd} (h : Tb w T m cap (l ++ x :: r)) (hk : k.length ≤ 100000) (hf : fnd (l ++ x :: r) k = some x) :
    Calls Try.prog 51 #[tP T, strT k] w fun e w' => e = .returned (.int .i64 0) ∧ Tb w' T m cap (l ++ r) ∧ Trn (T :: m :: (l ++ x :: r).map (·.b)) w w' := by
  have HC := Lib.hid (find_any h k hk)
  rw [hf] at HC
  have HU := Lib.hid (unlink_any h.rg)
  have H := Lib.hid h
  have hkx := (fnd_some hf).2
  go_enter Try.func51, Try.ntmps51
  go_wp2_with fail
  refine HC.out.mono ?_
  rintro e w1 ⟨rfl, rfl⟩
  simp only [Option.map_some, pt_some]
  clear h
  go_wp2_with fail
  refine HU.out.mono ?_
  rintro e w1 ⟨rfl, hR, hbx, hT⟩
  have c1 : w1.cell? ⟨T, 1, none⟩ = some (.map (some m)) := hR.tbl.at rfl
  obtain ⟨D, hD, hI⟩ := H.out.map
  have hD1 : w1.ownsMap Try.prog 9 pR m 100000 D := ownsMap_at hD (hT.block m hD.lt H.out.nm)
  have HD := Lib.hid hD1
  have HR := Lib.hid hR
  have HT := Lib.hid hT
  have hti := hD.tidy (Maps.string_keyed Try.underlying9)
  have HI := Lib.hid (hI.del hti H.out.keys)
  clear hD hD1 hR hT hbx hI hti HU HC
  go_wp2_with (at_delete; refine wpList_delete_own _ rfl (.tmp 17) (.tmp 18) 97 9 rfl 98 (Maps.string_keyed Try.underlying9) Try.underlying97 pR m 100000 D rfl HD.out (strT k) (.string k) rfl (keyS k hk) ?_; intro w2 hD2 hturn; have HD2 := Lib.hid hD2; have HG2 := Lib.hid hturn.grown; clear hD2 hturn)
  go_ret
  refine ⟨rfl, ?_, ?_⟩
  · have hg := HG2.out
    have hn := H.out.nod
    have hR := HR.out
    have hmT : T ≠ m := fun e => H.out.nm (by rw [← e]; exact List.mem_cons_self ..)
    have hmx : ∀ y ∈ l ++ r, some y.b ≠ some m := fun y hy e => H.out.nm (List.mem_cons_of_mem _ (List.mem_map.2 ⟨y, by rcases List.mem_append.1 hy with h | h <;> simp [h], Option.some.inj e⟩))
    have hmk : ∀ {a : List Nd}, (∀ y ∈ l ++ r, y ∈ a) → True := fun _ => trivial
    refine ⟨hR.tbl.grown hg (fun e => hmT (Option.some.inj e)), ⟨_, HD2.out, by rw [← hkx]; exact HI.out⟩, chn_keep _ _ _ (fun y hy => hg.block y.b (chn_lt _ _ _ hR.chn y hy) (hmx y hy)) hR.chn, ?_, ?_, fun y hy => H.out.len y (by rcases List.mem_append.1 hy with h | h <;> simp [h]), ?_, H.out.cap⟩
    · have h1 := hR.nod
      rw [List.nodup_cons] at h1 hn ⊢
      refine ⟨fun e => ?_, List.nodup_cons.2 ⟨fun e => ?_, h1.2⟩⟩
      · rcases List.mem_cons.1 e with e | e
        · exact hmT e
        · exact h1.1 e
      · obtain ⟨y, hy, e2⟩ := List.mem_map.1 e
        exact hmx y hy (by rw [e2])
    · have h2 := H.out.keys
      rw [List.map_append, List.map_cons] at h2
      rw [List.map_append]
      obtain ⟨a1, a2, a3⟩ := List.nodup_append.1 h2
      exact List.nodup_append.2 ⟨a1, (List.nodup_cons.1 a2).2, fun a ha b hb => a3 a ha b (List.mem_cons_of_mem _ hb)⟩
    · have := H.out.cnt
      rw [List.length_append, List.length_cons] at this
      rw [List.length_append]; omega
  · exact (HT.out.mono (fun k hk => by rcases List.mem_cons.1 hk with rfl | h; exact List.mem_cons_self ..; exact List.mem_cons_of_mem _ (List.mem_cons_of_mem _ h))).grown HG2.out (fun k e => by cases e; exact List.mem_cons_of_mem _ (List.mem_cons_self ..))
end
end Go.Proofs.Ythpgdojjecdlcaa
