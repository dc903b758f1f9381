/- table: Put, Renew, Set, Get, New. -/
import Derived.Test.YthpgdojjecdlcaaTnOps
set_option maxRecDepth 100000
namespace Go.Proofs.Ythpgdojjecdlcaa
open Go.RowKit
section
variable {w w' : World} {T m cap : Nat} {xs : List Nd}
theorem drop_any (h : Tb w T m cap xs) (k : List UInt8) (hk : k.length ≤ 100000) :
    Calls Try.prog 51 #[tP T, strT k] w fun e w' => e = .returned (.int .i64 (dropL (tbs xs) k).1) ∧ To w w' T m cap xs (dropL (tbs xs) k).2 := by
  unfold dropL
  rw [hasL_fnd]
  cases hf : fnd xs k with
  | none =>
    refine (drop_none h k hk hf).mono ?_
    rintro e w1 ⟨rfl, rfl⟩
    exact ⟨rfl, h.to_self (Below.refl _ _)⟩
  | some x =>
    obtain ⟨l, r, rfl⟩ := fnd_split hf
    refine (drop_some k h hk hf).mono ?_
    rintro e w1 ⟨rfl, ht⟩
    refine ⟨rfl, ?_⟩
    have hkx := (fnd_some hf).2
    show To w w1 T m cap (l ++ x :: r) ((tbs (l ++ x :: r)).filter fun p => !(p.1 == k))
    rw [← hkx, tbs_others h.keys]
    exact ht
theorem put_has (h : Tb w T m cap xs) (k : List UInt8) (v : VT) (hk : k.length ≤ 100000) {x : Nd} (hf : fnd xs k = some x) :
    Calls Try.prog 40 #[tP T, strT k, vv v] w fun e w' => e = .returned (.int .i64 7) ∧ Below w.heap.size w w' := by
  have h0 := h.keep ((Below.refl _ w).alloc (Nat.le_refl _) (.cells #[strT v.s, .int .u64 v.a, .bool v.sp, .int .u32 v.ct] 68))
  have hl := h0.look k hk
  rw [hf] at hl
  have hl2 : (Instr.lookup 97 (.map (some m)) (strT k) false).run Try.prog (w.alloc (.cells #[strT v.s, .int .u64 v.a, .bool v.sp, .int .u32 v.ct] 68)) = .ok (.pointer (some ⟨x.b, 0, none⟩)) (w.alloc (.cells #[strT v.s, .int .u64 v.a, .bool v.sp, .int .u32 v.ct] 68)) := hl
  have c1 := h0.c1
  have c1' := h.c1
  unfold vv
  clear h hl h0
  go_enter Try.func40, Try.ntmps40
  go_wp2_with fail
  go_ret
  exact ⟨rfl, (Below.refl _ w).alloc (Nat.le_refl _) _⟩
theorem put_full (h : Tb w T m cap xs) (k : List UInt8) (v : VT) (hk : k.length ≤ 100000) (hf : fnd xs k = none) (hc : xs.length = cap) :
    Calls Try.prog 40 #[tP T, strT k, vv v] w fun e w' => e = .returned (.int .i64 8) ∧ Below w.heap.size w w' := by
  have h0 := h.keep ((Below.refl _ w).alloc (Nat.le_refl _) (.cells #[strT v.s, .int .u64 v.a, .bool v.sp, .int .u32 v.ct] 68))
  have hl := h0.look k hk
  rw [hf] at hl
  have hl2 : (Instr.lookup 97 (.map (some m)) (strT k) false).run Try.prog (w.alloc (.cells #[strT v.s, .int .u64 v.a, .bool v.sp, .int .u32 v.ct] 68)) = .ok (.pointer none) (w.alloc (.cells #[strT v.s, .int .u64 v.a, .bool v.sp, .int .u32 v.ct] 68)) := hl
  have c1 := h0.c1
  have c1' := h.c1
  have HC := Lib.hid (full_any h0)
  have hb : (xs.length == cap) = true := by rw [beq_iff_eq]; exact hc
  rw [hb] at HC
  unfold vv
  clear h hl hb h0
  go_enter Try.func40, Try.ntmps40
  go_wp2_with fail
  refine HC.out.mono ?_
  rintro e w1 ⟨rfl, hB⟩
  have HB := Lib.hid (((Below.refl w.heap.size w).alloc (Nat.le_refl _) (.cells #[strT v.s, .int .u64 v.a, .bool v.sp, .int .u32 v.ct] 68)).trans (hB.mono (by simp))); clear hB
  go_wp2_with fail
  go_ret
  exact ⟨rfl, HB.out⟩
theorem put_new (h : Tb w T m cap xs) (k : List UInt8) (v : VT) (hk : k.length ≤ 100000) (hf : fnd xs k = none) (hc : xs.length ≠ cap) :
    Calls Try.prog 40 #[tP T, strT k, vv v] w fun e w' => e = .returned (.int .i64 0) ∧ To w w' T m cap xs (tbs xs ++ [(k, v)]) := by
  have h0 := h.keep ((Below.refl _ w).alloc (Nat.le_refl _) (.cells #[strT v.s, .int .u64 v.a, .bool v.sp, .int .u32 v.ct] 68))
  have hl := h0.look k hk
  rw [hf] at hl
  have hl2 : (Instr.lookup 97 (.map (some m)) (strT k) false).run Try.prog (w.alloc (.cells #[strT v.s, .int .u64 v.a, .bool v.sp, .int .u32 v.ct] 68)) = .ok (.pointer none) (w.alloc (.cells #[strT v.s, .int .u64 v.a, .bool v.sp, .int .u32 v.ct] 68)) := hl
  have c1 := h0.c1
  have c1' := h.c1
  have HC := Lib.hid (full_any h0)
  have hb : (xs.length == cap) = false := by rw [beq_eq_false_iff_ne]; exact hc
  rw [hb] at HC
  have H := Lib.hid h0
  have hP : BlkT (w.alloc (.cells #[strT v.s, .int .u64 v.a, .bool v.sp, .int .u32 v.ct] 68)) w.heap.size 68 [strT v.s, .int .u64 v.a, .bool v.sp, .int .u32 v.ct] := heap_alloc_new w _
  clear h hl hb h0
  unfold vv
  go_enter Try.func40, Try.ntmps40
  go_wp2_with fail
  refine HC.out.mono ?_
  rintro e w1 ⟨rfl, hB⟩
  have H1 := Lib.hid (H.out.keep hB)
  have hP1 := hP.below hB hP.lt
  have p0 : w1.cell? ⟨w.heap.size, 0, none⟩ = some (strT v.s) := hP1.at rfl
  have p1 : w1.cell? ⟨w.heap.size, 1, none⟩ = some (.int .u64 v.a) := hP1.at rfl
  have p2 : w1.cell? ⟨w.heap.size, 2, none⟩ = some (.bool v.sp) := hP1.at rfl
  have p3 : w1.cell? ⟨w.heap.size, 3, none⟩ = some (.int .u32 v.ct) := hP1.at rfl
  have hwl : w.heap.size < w1.heap.size := hP1.lt
  have HB1 := Lib.hid (((Below.refl w.heap.size w).alloc (Nat.le_refl _) (.cells #[strT v.s, .int .u64 v.a, .bool v.sp, .int .u32 v.ct] 68)).trans (hB.mono (by simp)))
  have hW : w.heap.size ≤ w1.heap.size := by omega
  clear hB hl2 c1 c1' HC hP hP1
  have hmem : ∀ y ∈ xs, y.b < w1.heap.size := fun y hy => chn_lt xs none none H1.out.chn y hy
  have HM := Lib.hid hmem; clear hmem
  obtain ⟨E, hE⟩ : ∃ E, E = w1.heap.size := ⟨_, rfl⟩
  have hTm : T < E ∧ m < E := by
    obtain ⟨D, hD, _⟩ := H1.out.map
    exact ⟨by rw [hE]; exact H1.out.tbl.lt, by rw [hE]; exact hD.lt⟩
  obtain ⟨w2, hw2⟩ : ∃ w2, w2 = w1.alloc (.cells #[strT k, strT v.s, .int .u64 v.a, .bool v.sp, .int .u32 v.ct, .pointer none, .pointer none] tE) := ⟨_, rfl⟩
  have hH2 : Tb w2 T m cap xs := by rw [hw2]; exact H1.out.keep ((Below.refl _ _).alloc (Nat.le_refl _) _)
  have hE2 : BlkT w2 E tE [strT k, strT v.s, .int .u64 v.a, .bool v.sp, .int .u32 v.ct, .pointer none, .pointer none] := by rw [hw2, hE]; exact heap_alloc_new w1 _
  have hB2 : Below w1.heap.size w1 w2 := by rw [hw2]; exact (Below.refl _ _).alloc (Nat.le_refl _) _
  obtain ⟨D, hD, hI⟩ := hH2.map
  have c1 := hH2.c1
  have HD := Lib.hid hD
  have HE2 := Lib.hid hE2
  have HI := Lib.hid (hI.put (hD.tidy (Maps.string_keyed Try.underlying9)) ⟨E, k, v⟩ hf)
  have HB2 := Lib.hid hB2
  have HH2 := Lib.hid hH2
  clear hD hE2 hI hB2 hH2
  have HSZ : Hid (w2.heap.size = E + 1) := Lib.hid (by rw [hw2, hE]; simp)
  have c1' := H1.out.c1
  subst hw2
  subst hE
  have htP : pR (.pointer (some ⟨w1.heap.size, 0, none⟩)) = some (.lit (.int .i64 ((w1.heap.size : Nat) : Int)), []) := rfl
  go_wp2_with (at_mapUpdate; refine wpList_mapUpdate_in _ rfl (.tmp 26) (.tmp 27) (.tmp 28) 97 rfl 9 98 (Maps.string_keyed Try.underlying9) Try.underlying97 pR m 100000 D rfl HD.out (by unfold maxLen; omega) (strT k) (.pointer (some ⟨w1.heap.size, 0, none⟩)) (.string k) rfl rfl (keyS k hk) _ [] htP ?_; intro w3 hD3 hturn; have HD3 := Lib.hid hD3; have HG3 := Lib.hid hturn.grown; clear hD3 hturn)
  have hg := HG3.out
  have hnm := HH2.out.nm
  have hmT : some T ≠ some m := fun e => hnm (by rw [← Option.some.inj e]; exact List.mem_cons_self ..)
  have hmx : ∀ y ∈ xs, some y.b ≠ some m := fun y hy e => hnm (List.mem_cons_of_mem _ (List.mem_map.2 ⟨y, hy, Option.some.inj e⟩))
  have hR2 := HH2.out.rg
  have hR3 : Rg w3 T (.int .i64 (cap : Int)) (.map (some m)) xs := ⟨hR2.tbl.grown hg hmT, chn_keep _ _ _ (fun y hy => hg.block y.b (chn_lt _ _ _ hR2.chn y hy) (hmx y hy)) hR2.chn, hR2.nod⟩
  have hE3 : BlkT w3 w1.heap.size tE (ndC ⟨w1.heap.size, k, v⟩ none none) := HE2.out.grown hg (fun e => by have := Option.some.inj e; omega)
  have hEn : w1.heap.size ∉ T :: xs.map (·.b) := by
    intro e
    rcases List.mem_cons.1 e with e | e
    · omega
    · obtain ⟨y, hy, e2⟩ := List.mem_map.1 e
      have := HM.out y hy
      omega
  have hEm : m ≠ w1.heap.size := by omega
  refine (link_any hR3 ⟨w1.heap.size, k, v⟩ none none hE3 hEn).mono ?_
  rintro e w4 ⟨rfl, hR4, hT4⟩
  have hm4 : w4.heap[m]? = w3.heap[m]? := hT4.block m (HD3.out.lt) (by
    intro e
    rcases List.mem_cons.1 e with e | e
    · exact hmT (by rw [e])
    · rcases List.mem_cons.1 e with e | e
      · exact hEm e
      · exact hnm (List.mem_cons_of_mem _ e))
  have hTn : Tb w4 T m cap (xs ++ [⟨w1.heap.size, k, v⟩]) := by
    refine ⟨hR4.tbl, ⟨_, ownsMap_fit (ownsMap_at HD3.out hm4) (by rw [HI.out.size, List.length_append]; have := H1.out.cnt; have := H1.out.cap; simp; omega), HI.out⟩, hR4.chn, ?_, ?_, ?_, ?_, H1.out.cap⟩
    · have h1 := hR4.nod
      rw [List.nodup_cons] at h1 ⊢
      refine ⟨fun e => ?_, List.nodup_cons.2 ⟨fun e => ?_, h1.2⟩⟩
      · rcases List.mem_cons.1 e with e | e
        · exact hmT (by rw [e])
        · exact h1.1 e
      · rw [List.map_append] at e
        rcases List.mem_append.1 e with e | e
        · exact hnm (List.mem_cons_of_mem _ e)
        · exact hEm (List.mem_singleton.1 e)
    · rw [List.map_append]
      refine List.nodup_append.2 ⟨H1.out.keys, by simp, fun a ha b hb => ?_⟩
      rw [List.map_cons, List.map_nil, List.mem_singleton] at hb
      obtain ⟨y, hy, rfl⟩ := List.mem_map.1 ha
      rw [hb]
      exact fnd_none.1 hf y hy
    · intro y hy
      rcases List.mem_append.1 hy with hy | hy
      · exact H1.out.len y hy
      · rw [List.mem_singleton] at hy; rw [hy]; exact hk
    · rw [List.length_append]; have := H1.out.cnt; show xs.length + 1 ≤ cap; omega
  have HT := Lib.hid hTn
  have htr : Trn (T :: m :: xs.map (·.b)) w w4 := by
    have t1 : Trn (T :: m :: w1.heap.size :: xs.map (·.b)) w w3 := ((Trn.of_below HB1.out).below HB2.out).grown hg (fun k e => by cases e; simp)
    have t2 := t1.trans (hT4.mono (fun k hk => by rcases List.mem_cons.1 hk with rfl | hk; simp; rcases List.mem_cons.1 hk with rfl | hk; simp; simp [hk]))
    refine t2.less (fun k hk => ?_)
    rcases List.mem_cons.1 hk with rfl | hk
    · simp
    · rcases List.mem_cons.1 hk with rfl | hk
      · simp
      · rcases List.mem_cons.1 hk with rfl | hk
        · exact .inr hW
        · simp [hk]
  have HTR := Lib.hid htr
  clear hR4 hT4 hm4 hTn htr hR3 hE3 hR2 hg
  go_wp2_with fail
  go_ret
  refine ⟨rfl, _, HT.out, ?_, HTR.out, fun y hy => ?_⟩
  · unfold tbs; rw [List.map_append]; rfl
  · rcases List.mem_append.1 hy with hy | hy
    · exact .inl (List.mem_map.2 ⟨y, hy, rfl⟩)
    · rw [List.mem_singleton] at hy; rw [hy]; exact .inr hW
theorem put_any (h : Tb w T m cap xs) (k : List UInt8) (v : VT) (hk : k.length ≤ 100000) :
    Calls Try.prog 40 #[tP T, strT k, vv v] w fun e w' => e = .returned (.int .i64 (putL cap (tbs xs) k v).1) ∧ To w w' T m cap xs (putL cap (tbs xs) k v).2 := by
  have hlen : (tbs xs).length = xs.length := by unfold tbs; rw [List.length_map]
  unfold putL
  rw [hasL_fnd, hlen]
  cases hf : fnd xs k with
  | some x =>
    refine (put_has h k v hk hf).mono ?_
    rintro e w1 ⟨rfl, hB⟩
    exact ⟨rfl, h.to_self hB⟩
  | none =>
    by_cases hc : xs.length = cap
    · refine (put_full h k v hk hf hc).mono ?_
      rintro e w1 ⟨rfl, hB⟩
      rw [if_neg (by simp), if_pos hc]
      exact ⟨rfl, h.to_self hB⟩
    · refine (put_new h k v hk hf hc).mono ?_
      rintro e w1 ⟨rfl, ht⟩
      rw [if_neg (by simp), if_neg hc]
      exact ⟨rfl, ht⟩
/-- Of distinct keys two that are one are one entry. -/
theorem nodup_key {xs : List Nd} (h : xs.Pairwise (fun a b => a.key ≠ b.key)) {a b : Nd} (ha : a ∈ xs) (hb : b ∈ xs) (hk : a.key = b.key) : a = b := by
  induction xs with
  | nil => simp at ha
  | cons x t ih =>
    obtain ⟨h1, h2⟩ := List.pairwise_cons.1 h
    rcases List.mem_cons.1 ha with e1 | ha'
    · rcases List.mem_cons.1 hb with e2 | hb'
      · rw [e1, e2]
      · exact absurd (by rw [← e1]; exact hk) (h1 b hb')
    · rcases List.mem_cons.1 hb with e2 | hb'
      · exact absurd (by rw [← e2]; exact hk.symm) (h1 a ha')
      · exact ih h2 ha' hb'
end
end Go.Proofs.Ythpgdojjecdlcaa
