/- nonce: drawOf, find, Check. -/
import Derived.Test.YthpgdojjecdlcaaNnRoom
import Derived.Test.YthpgdojjecdlcaaStrT
set_option maxRecDepth 100000
namespace Go.Proofs.Ythpgdojjecdlcaa
open Go.RowKit Go.Shelf
/-- The draw of a nonce. -/
def drL (s : List UInt8) : List UInt8 := s.take (s.length - 17)
theorem drawOf_any (s : List UInt8) (w : World) (hs : s.length ≤ 9223372036854775807) : Calls Try.prog 31 #[strT s] w fun e w' => e = .returned (strT (drL s)) ∧ w = w' := by
  unfold drL
  by_cases h : 17 < s.length
  · have hlt : (0 : Int) < (s.length : Int) - 17 := by omega
    go_enter Try.func31, Try.ntmps31
    go_wp2_with fail
    go_ret
    exact ⟨congrArg (fun b => Ending.returned (.string b)) (extract_take s (s.length - 17)), rfl⟩
  · have hlt : ¬ (0 : Int) < (s.length : Int) - 17 := by omega
    rw [show s.length - 17 = 0 by omega]
    go_enter Try.func31, Try.ntmps31
    go_wp2_with fail
    go_ret
    exact ⟨by simp; rfl, rfl⟩
/-- What a nonce's entry is, or why it may not be used. -/
def fiN (f : NF) (l : PLn) (s : List UInt8) (now : Int) : Option VT × Int :=
  match getL l (drL s) with
  | none => (none, 6)
  | some e => if e.s ≠ s then (none, 6) else if now < e.a ∨ goneB f now e = true then (none, 9) else (some e, 0)
def zE : Value := .agg #[.string ⟨#[]⟩, .int .u64 0, .bool false, .int .u32 0]
section
variable {w w1 w' : World} {base S T m cap : Nat} {f : NF} {l : PLn}
theorem getL_consN (p : List UInt8 × VT) (t : PLn) (k : List UInt8) : getL (p :: t) k = if (p.1 == k) = true then some p.2 else getL t k := by
  unfold getL
  rw [List.find?_cons]
  cases p.1 == k <;> rfl
theorem getL_mem : ∀ (l : PLn) {k : List UInt8} {v : VT}, getL l k = some v → (k, v) ∈ l
  | [], _, _, h => by simp [getL] at h
  | p :: t, k, v, h => by
    rw [getL_consN] at h
    by_cases hp : (p.1 == k) = true
    · rw [if_pos hp] at h
      obtain ⟨a, b⟩ := p
      rw [beq_iff_eq] at hp
      cases h
      subst hp
      exact List.mem_cons_self ..
    · rw [if_neg hp] at h
      exact List.mem_cons_of_mem _ (getL_mem t h)
theorem BlkT.set4 {w : World} {b : Nat} {t : TypeId} {a0 a1 a2 a3 : Value} (h : BlkT w b t [a0, a1, a2, a3]) (v0 v1 v2 v3 : Value) : BlkT ((((w.setCell ⟨b, 0, none⟩ v0).setCell ⟨b, 1, none⟩ v1).setCell ⟨b, 2, none⟩ v2).setCell ⟨b, 3, none⟩ v3) b t [v0, v1, v2, v3] :=
  (((h.set 0 v0).set 1 v1).set 2 v2).set 3 v3
theorem BlkT.oth4 {w : World} {b b' : Nat} {t : TypeId} {cs : List Value} (h : BlkT w b t cs) (hne : b' ≠ b) (v0 v1 v2 v3 : Value) : BlkT ((((w.setCell ⟨b', 0, none⟩ v0).setCell ⟨b', 1, none⟩ v1).setCell ⟨b', 2, none⟩ v2).setCell ⟨b', 3, none⟩ v3) b t cs :=
  (((h.setOther (a := ⟨b', 0, none⟩) hne v0).setOther (a := ⟨b', 1, none⟩) hne v1).setOther (a := ⟨b', 2, none⟩) hne v2).setOther (a := ⟨b', 3, none⟩) hne v3
theorem below_set4 {a w : World} {B b : Nat} (h : Below B a w) (hb : B ≤ b) (v0 v1 v2 v3 : Value) : Below B a ((((w.setCell ⟨b, 0, none⟩ v0).setCell ⟨b, 1, none⟩ v1).setCell ⟨b, 2, none⟩ v2).setCell ⟨b, 3, none⟩ v3) :=
  (((h.setCell (p := ⟨b, 0, none⟩) hb v0).setCell (p := ⟨b, 1, none⟩) hb v1).setCell (p := ⟨b, 2, none⟩) hb v2).setCell (p := ⟨b, 3, none⟩) hb v3
/-- What find finds: its entry (noughts where there is none), whether there is one. -/
def gotE (r : Option VT) : VT := r.getD ⟨[], 0, false, 0⟩
set_option maxHeartbeats 4000000 in
theorem find_ns (h : NS w base S T m cap f l) (s : List UInt8) (now : Int) (hs : s.length ≤ 100000) (n0 : 0 ≤ now) (n1 : now < 18446744073709551616) (hok : okL l) :
    Calls Try.prog 29 #[tP S, strT s, u64v now] w fun e w' => e = .returned (.tuple #[eV ((fiN f l s now).1.getD ⟨[], 0, false, 0⟩), .int .i64 (fiN f l s now).2]) ∧ Below w.heap.size w w' := by
  have hdl : (drL s).length ≤ 100000 := by unfold drL; rw [List.length_take]; omega
  obtain ⟨r, hr⟩ : ∃ r, r = getL l (drL s) := ⟨_, rfl⟩
  obtain ⟨es, ea, esp, ect, fd, hv, hfd⟩ : ∃ es ea esp ect fd, (match r with | some v => Value.tuple #[vv v, .bool true] | none => .tuple #[.agg #[.string ⟨#[]⟩, .int .u64 0, .bool false, .int .u32 0], .bool false]) = .tuple #[.agg #[strT es, .int .u64 ea, .bool esp, .int .u32 ect], .bool fd] ∧ ((fd = false ∧ r = none ∧ es = [] ∧ ea = 0 ∧ esp = false ∧ ect = 0) ∨ (fd = true ∧ r = some ⟨es, ea, esp, ect⟩)) := by
    cases r with
    | none => exact ⟨[], 0, false, 0, false, rfl, .inl ⟨rfl, rfl, rfl, rfl, rfl, rfl⟩⟩
    | some v => exact ⟨v.s, v.a, v.sp, v.ct, true, rfl, .inr ⟨rfl, rfl⟩⟩
  have HGET : Hid (∀ W, Below w.heap.size w W → Calls Try.prog 37 #[tP T, strT (drL s)] W fun e W' => e = .returned (.tuple #[.agg #[strT es, .int .u64 ea, .bool esp, .int .u32 ect], .bool fd]) ∧ Below W.heap.size W W') := Lib.hid (fun W hW => (get_tb (h.tb.keep hW) (drL s) hdl).mono (by
    rintro e W' ⟨rfl, _, hb⟩
    rw [← hr]
    exact ⟨congrArg Ending.returned hv, hb⟩))
  have HR := Lib.hid hr
  have HFD := Lib.hid hfd
  obtain ⟨k, hk⟩ : ∃ k, k = drL s := ⟨_, rfl⟩
  have hdo := fun W => drawOf_any s W (by omega)
  rw [← hk] at HGET hdl hdo
  have HD := Lib.hid hdo
  have HC : Hid (∀ W, Below w.heap.size w W → W.cell? ⟨S, 1, none⟩ = some (tP T)) := Lib.hid (fun W hW => (h.blk.below hW h.blk.lt).at rfl)
  have H := Lib.hid h
  have c1 := HC.out (w.alloc (.cells #[.string ⟨#[]⟩, .int .u64 0, .bool false, .int .u32 0] tNe)) ((Below.refl _ w).alloc (Nat.le_refl _) _)
  clear h hk hdo hv hfd hr
  go_enter Try.func29, Try.ntmps29
  go_wp2_with fail
  go_region_held3 (fun w' => w'.cell? ⟨S, 1, none⟩ = some (tP T)) (first | exact HC.out _ (((((HB3.out.setCell (p := ⟨w.heap.size + 1, 0, none⟩) (by show w.heap.size ≤ w.heap.size + 1; omega) _)).setCell (p := ⟨w.heap.size + 1, 1, none⟩) (by show w.heap.size ≤ w.heap.size + 1; omega) _).setCell (p := ⟨w.heap.size + 1, 2, none⟩) (by show w.heap.size ≤ w.heap.size + 1; omega) _).setCell (p := ⟨w.heap.size + 1, 3, none⟩) (by show w.heap.size ≤ w.heap.size + 1; omega) _) | exact HC.out _ (HB3.out.alloc HB3.out.size _) | exact e3 | exact c1 | exact HC.out _ (((Below.refl _ w).alloc (Nat.le_refl _) _).alloc (by simp) _).drew | go_keep)
    (first
      | (go_at_call 31; refine (HD.out _).mono ?_; rintro e w3 ⟨rfl, rfl⟩)
      | (go_at_call 37; refine (HGET.out _ (by exact (((Below.refl _ w).alloc (Nat.le_refl _) _).alloc (by simp) _).drew)).mono ?_; rintro e w3 ⟨rfl, hb3⟩; have HB3 : Hid (Below w.heap.size w w3) := Lib.hid ((((Below.refl _ w).alloc (Nat.le_refl _) (.cells #[.string ⟨#[]⟩, .int .u64 0, .bool false, .int .u32 0] tNe)).alloc (by simp) (.cells #[.string ⟨#[]⟩, .int .u64 0, .bool false, .int .u32 0] tNe)).drew.trans (hb3.mono (by simp; omega))); have e3 := HC.out w3 HB3.out; have hq : BlkT w3 (w.heap.size + 1) tNe [.string ⟨#[]⟩, .int .u64 0, .bool false, .int .u32 0] := BlkT.below (w := ((w.alloc (.cells #[.string ⟨#[]⟩, .int .u64 0, .bool false, .int .u32 0] tNe)).alloc (.cells #[.string ⟨#[]⟩, .int .u64 0, .bool false, .int .u32 0] tNe)).drew) (by have := heap_alloc_new (w.alloc (.cells #[.string ⟨#[]⟩, .int .u64 0, .bool false, .int .u32 0] tNe)) (.cells #[.string ⟨#[]⟩, .int .u64 0, .bool false, .int .u32 0] tNe); rw [World.size_alloc] at this; exact this) hb3 (by simp); have q0 := hq.at (o := 0) rfl; have q1 := hq.at (o := 1) rfl; have q2 := hq.at (o := 2) rfl; have q3 := hq.at (o := 3) rfl; have f0 := hq.free 0; have f1 := hq.free 1; have f2 := hq.free 2; have f3 := hq.free 3; have hz : BlkT w3 w.heap.size tNe [.string ⟨#[]⟩, .int .u64 0, .bool false, .int .u32 0] := BlkT.below (w := ((w.alloc (.cells #[.string ⟨#[]⟩, .int .u64 0, .bool false, .int .u32 0] tNe)).alloc (.cells #[.string ⟨#[]⟩, .int .u64 0, .bool false, .int .u32 0] tNe)).drew) (BlkT.alloc (heap_alloc_new w (.cells #[.string ⟨#[]⟩, .int .u64 0, .bool false, .int .u32 0] tNe)) (.cells #[.string ⟨#[]⟩, .int .u64 0, .bool false, .int .u32 0] tNe)) hb3 (by simp; omega); have HQ := Lib.hid hq; have HZ := Lib.hid hz; clear hb3 hq hz)
      | (go_at_call 37; refine (HGET.out _ (by exact ((Below.refl _ w).alloc (Nat.le_refl _) _).drew)).mono ?_; rintro e w3 ⟨rfl, hb3⟩; have HB3 : Hid (Below w.heap.size w w3) := Lib.hid (((Below.refl _ w).alloc (Nat.le_refl _) (.cells #[.string ⟨#[]⟩, .int .u64 0, .bool false, .int .u32 0] tNe)).drew.trans (hb3.mono (by simp))); have e3 := HC.out w3 HB3.out; have hz : BlkT w3 w.heap.size tNe [.string ⟨#[]⟩, .int .u64 0, .bool false, .int .u32 0] := BlkT.below (w := (w.alloc (.cells #[.string ⟨#[]⟩, .int .u64 0, .bool false, .int .u32 0] tNe)).drew) (heap_alloc_new w (.cells #[.string ⟨#[]⟩, .int .u64 0, .bool false, .int .u32 0] tNe)) hb3 (by simp); have HZ := Lib.hid hz; clear hb3 hz))
  all_goals
    first
      | (obtain ⟨Wf, hWf⟩ : ∃ Wf, Wf = w3.alloc (.cells #[strT es, .int .u64 ea, .bool esp, .int .u32 ect] tNe) := ⟨_, rfl⟩
         obtain ⟨P8, hP8⟩ : ∃ P8, P8 = w3.heap.size := ⟨_, rfl⟩
         have hb8 : BlkT Wf P8 tNe [strT es, .int .u64 ea, .bool esp, .int .u32 ect] := by rw [hWf, hP8]; exact heap_alloc_new w3 _
         have hzf : BlkT Wf w.heap.size tNe [.string ⟨#[]⟩, .int .u64 0, .bool false, .int .u32 0] := by rw [hWf]; exact HZ.out.alloc _
         have hbf : Below w.heap.size w Wf := by rw [hWf]; exact HB3.out.alloc HB3.out.size _
         rw [← hWf, ← hP8])
      | (obtain ⟨Wf, hWf⟩ : ∃ Wf, Wf = (((w3.setCell ⟨w.heap.size + 1, 0, none⟩ (strT es)).setCell ⟨w.heap.size + 1, 1, none⟩ (.int .u64 ea)).setCell ⟨w.heap.size + 1, 2, none⟩ (.bool esp)).setCell ⟨w.heap.size + 1, 3, none⟩ (.int .u32 ect) := ⟨_, rfl⟩
         obtain ⟨P8, hP8⟩ : ∃ P8, P8 = w.heap.size + 1 := ⟨_, rfl⟩
         have hb8 : BlkT Wf P8 tNe [strT es, .int .u64 ea, .bool esp, .int .u32 ect] := by rw [hWf, hP8]; exact HQ.out.set4 _ _ _ _
         have hzf : BlkT Wf w.heap.size tNe [.string ⟨#[]⟩, .int .u64 0, .bool false, .int .u32 0] := by rw [hWf]; exact HZ.out.oth4 (by omega) _ _ _ _
         have hbf : Below w.heap.size w Wf := by rw [hWf]; exact below_set4 HB3.out (by omega) _ _ _ _
         rw [← hWf, ← hP8])
    have HB8 := Lib.hid hb8
    have HZF := Lib.hid hzf
    have HBF := Lib.hid hbf
    have hS : BlkT Wf S tSt (nfC f T) := H.out.blk.below hbf H.out.blk.lt
    clear hb8 hzf hbf hWf hP8 e3 c1
    rcases HFD.out with ⟨rfl, hr0, rfl, rfl, rfl, rfl⟩ | ⟨rfl, hr1⟩
    · have hfi : fiN f l s now = (none, 6) := by unfold fiN; rw [← HR.out, hr0]
      have z0 := HZF.out.at (o := 0) rfl
      have z1 := HZF.out.at (o := 1) rfl
      have z2 := HZF.out.at (o := 2) rfl
      have z3 := HZF.out.at (o := 3) rfl
      have y0 := HZF.out.free 0
      have y1 := HZF.out.free 1
      have y2 := HZF.out.free 2
      have y3 := HZF.out.free 3
      have hzf := HZF.out.set4 (.string ⟨#[]⟩) (.int .u64 0) (.bool false) (.int .u32 0)
      have r0 := hzf.at (o := 0) rfl
      have r1 := hzf.at (o := 1) rfl
      have r2 := hzf.at (o := 2) rfl
      have r3' := hzf.at (o := 3) rfl
      have hbf := below_set4 HBF.out (Nat.le_refl w.heap.size) (.string ⟨#[]⟩) (.int .u64 0) (.bool false) (.int .u32 0)
      clear hzf
      go_wp2_with fail
      refine bodyPost_ret (v := .tuple #[.agg #[.string ⟨#[]⟩, .int .u64 0, .bool false, .int .u32 0], .int .i64 6]) (by simp [results, Try.results29, go_sem, *]) rfl ⟨by first | rfl | (rw [hfi]; rfl), hbf⟩
    · have hfi0 : fiN f l s now = if es ≠ s then (none, 6) else if now < ea ∨ goneB f now ⟨es, ea, esp, ect⟩ = true then (none, 9) else (some ⟨es, ea, esp, ect⟩, 0) := by unfold fiN; rw [← HR.out, hr1]
      have hmem := hok _ (getL_mem l (k := drL s) (by rw [← HR.out, hr1]))
      simp only at hmem
      have b0 := HB8.out.at (o := 0) rfl
      have b1 := HB8.out.at (o := 1) rfl
      have b2 := HB8.out.at (o := 2) rfl
      have b3 := HB8.out.at (o := 3) rfl
      have z0 := HZF.out.at (o := 0) rfl
      have z1 := HZF.out.at (o := 1) rfl
      have z2 := HZF.out.at (o := 2) rfl
      have z3 := HZF.out.at (o := 3) rfl
      have y0 := HZF.out.free 0
      have y1 := HZF.out.free 1
      have y2 := HZF.out.free 2
      have y3 := HZF.out.free 3
      by_cases he : es = s
      · rw [if_neg (by simpa using he)] at hfi0
        subst he
        by_cases hn : now < ea
        · have hfi : fiN f l es now = (none, 9) := by rw [hfi0, if_pos (.inl hn)]
          have hzf := HZF.out.set4 (.string ⟨#[]⟩) (.int .u64 0) (.bool false) (.int .u32 0)
          have r0 := hzf.at (o := 0) rfl
          have r1 := hzf.at (o := 1) rfl
          have r2 := hzf.at (o := 2) rfl
          have r3' := hzf.at (o := 3) rfl
          have hbf := below_set4 HBF.out (Nat.le_refl w.heap.size) (.string ⟨#[]⟩) (.int .u64 0) (.bool false) (.int .u32 0)
          clear hzf
          go_wp2_with fail
          refine bodyPost_ret (v := .tuple #[.agg #[.string ⟨#[]⟩, .int .u64 0, .bool false, .int .u32 0], .int .i64 9]) (by simp [results, Try.results29, go_sem, *]) rfl ⟨by first | rfl | (rw [hfi]; rfl), hbf⟩
        · have HO := Lib.hid (isOld_any hS ⟨es, ea, esp, ect⟩ now n0 n1 hmem.1 hmem.2)
          obtain ⟨bo, hbo⟩ : ∃ bo, bo = oldB f.wd now ⟨es, ea, esp, ect⟩ := ⟨_, rfl⟩
          obtain ⟨bm, hbm⟩ : ∃ bm, bm = mkdB f.mr f.md ⟨es, ea, esp, ect⟩ := ⟨_, rfl⟩
          have hgb : goneB f now ⟨es, ea, esp, ect⟩ = (bo || bm) := by rw [hbo, hbm]; rfl
          rw [← hbo] at HO
          rw [hgb] at hfi0
          clear hbo hgb
          go_wp2_with fail
          refine HO.out.mono ?_
          rintro e' w5 ⟨rfl, hb5⟩
          have hS5 := hS.below hb5 hS.lt
          have hz5 := HZF.out.below hb5 HZF.out.lt
          have h85 := HB8.out.below hb5 HB8.out.lt
          have hB5 := HBF.out.trans (hb5.mono HBF.out.size)
          clear HZF HBF HB8 z0 z1 z2 z3 y0 y1 y2 y3 b0 b1 b2 b3 HO hb5
          have HZF := Lib.hid hz5
          have HBF := Lib.hid hB5
          have HB8 := Lib.hid h85
          clear hz5 h85 hB5
          have b0 := HB8.out.at (o := 0) rfl
          have b1 := HB8.out.at (o := 1) rfl
          have b2 := HB8.out.at (o := 2) rfl
          have b3 := HB8.out.at (o := 3) rfl
          have z0 := HZF.out.at (o := 0) rfl
          have z1 := HZF.out.at (o := 1) rfl
          have z2 := HZF.out.at (o := 2) rfl
          have z3 := HZF.out.at (o := 3) rfl
          have y0 := HZF.out.free 0
          have y1 := HZF.out.free 1
          have y2 := HZF.out.free 2
          have y3 := HZF.out.free 3
          cases bo
          · have HM := Lib.hid (isMarked_any hS5 ⟨es, ea, esp, ect⟩)
            rw [← hbm] at HM
            clear hbm
            go_wp2_with fail
            refine HM.out.mono ?_
            rintro e' w6 ⟨rfl, hb6⟩
            have hz6 := HZF.out.below hb6 HZF.out.lt
            have h86 := HB8.out.below hb6 HB8.out.lt
            have hB6 := HBF.out.trans (hb6.mono HBF.out.size)
            clear HZF HBF HB8 z0 z1 z2 z3 y0 y1 y2 y3 b0 b1 b2 b3 HM hb6
            have HZF := Lib.hid hz6
            have HBF := Lib.hid hB6
            have HB8 := Lib.hid h86
            clear hz6 h86 hB6
            have b0 := HB8.out.at (o := 0) rfl
            have b1 := HB8.out.at (o := 1) rfl
            have b2 := HB8.out.at (o := 2) rfl
            have b3 := HB8.out.at (o := 3) rfl
            have z0 := HZF.out.at (o := 0) rfl
            have z1 := HZF.out.at (o := 1) rfl
            have z2 := HZF.out.at (o := 2) rfl
            have z3 := HZF.out.at (o := 3) rfl
            have y0 := HZF.out.free 0
            have y1 := HZF.out.free 1
            have y2 := HZF.out.free 2
            have y3 := HZF.out.free 3
            cases bm
            · have hfi : fiN f l es now = (some ⟨es, ea, esp, ect⟩, 0) := by rw [hfi0, if_neg (by simp [hn])]
              have hzf := HZF.out.set4 (strT es) (.int .u64 ea) (.bool esp) (.int .u32 ect)
              have r0 := hzf.at (o := 0) rfl
              have r1 := hzf.at (o := 1) rfl
              have r2 := hzf.at (o := 2) rfl
              have r3' := hzf.at (o := 3) rfl
              have hbf := below_set4 HBF.out (Nat.le_refl w.heap.size) (strT es) (.int .u64 ea) (.bool esp) (.int .u32 ect)
              clear hzf
              go_wp2_with fail
              refine bodyPost_ret (v := .tuple #[.agg #[strT es, .int .u64 ea, .bool esp, .int .u32 ect], .int .i64 0]) (by simp [results, Try.results29, go_sem, *]) rfl ⟨by first | rfl | (rw [hfi]; rfl), hbf⟩
            · have hfi : fiN f l es now = (none, 9) := by rw [hfi0, if_pos (by simp)]
              have hzf := HZF.out.set4 (.string ⟨#[]⟩) (.int .u64 0) (.bool false) (.int .u32 0)
              have r0 := hzf.at (o := 0) rfl
              have r1 := hzf.at (o := 1) rfl
              have r2 := hzf.at (o := 2) rfl
              have r3' := hzf.at (o := 3) rfl
              have hbf := below_set4 HBF.out (Nat.le_refl w.heap.size) (.string ⟨#[]⟩) (.int .u64 0) (.bool false) (.int .u32 0)
              clear hzf
              go_wp2_with fail
              refine bodyPost_ret (v := .tuple #[.agg #[.string ⟨#[]⟩, .int .u64 0, .bool false, .int .u32 0], .int .i64 9]) (by simp [results, Try.results29, go_sem, *]) rfl ⟨by first | rfl | (rw [hfi]; rfl), hbf⟩
          · have hfi : fiN f l es now = (none, 9) := by rw [hfi0, if_pos (by simp)]
            have hzf := HZF.out.set4 (.string ⟨#[]⟩) (.int .u64 0) (.bool false) (.int .u32 0)
            have r0 := hzf.at (o := 0) rfl
            have r1 := hzf.at (o := 1) rfl
            have r2 := hzf.at (o := 2) rfl
            have r3' := hzf.at (o := 3) rfl
            have hbf := below_set4 HBF.out (Nat.le_refl w.heap.size) (.string ⟨#[]⟩) (.int .u64 0) (.bool false) (.int .u32 0)
            clear hzf
            go_wp2_with fail
            refine bodyPost_ret (v := .tuple #[.agg #[.string ⟨#[]⟩, .int .u64 0, .bool false, .int .u32 0], .int .i64 9]) (by simp [results, Try.results29, go_sem, *]) rfl ⟨by first | rfl | (rw [hfi]; rfl), hbf⟩
      · have hbe : (es == s) = false := beq_eq_false_iff_ne.2 he
        have hfi : fiN f l s now = (none, 6) := by rw [hfi0, if_pos he]
        have hzf := HZF.out.set4 (.string ⟨#[]⟩) (.int .u64 0) (.bool false) (.int .u32 0)
        have r0 := hzf.at (o := 0) rfl
        have r1 := hzf.at (o := 1) rfl
        have r2 := hzf.at (o := 2) rfl
        have r3' := hzf.at (o := 3) rfl
        have hbf := below_set4 HBF.out (Nat.le_refl w.heap.size) (.string ⟨#[]⟩) (.int .u64 0) (.bool false) (.int .u32 0)
        clear hzf
        go_wp2_with fail
        refine bodyPost_ret (v := .tuple #[.agg #[.string ⟨#[]⟩, .int .u64 0, .bool false, .int .u32 0], .int .i64 6]) (by simp [results, Try.results29, go_sem, *]) rfl ⟨by first | rfl | (rw [hfi]; rfl), hbf⟩
end
end Go.Proofs.Ythpgdojjecdlcaa
