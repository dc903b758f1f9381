/- table: Prune. -/
import Derived.Test.YthpgdojjecdlcaaPnDrop
import Derived.Test.YthpgdojjecdlcaaRangeGa
set_option maxRecDepth 100000
namespace Go.Proofs.Ythpgdojjecdlcaa
open Go.RowKit Go.Shelf
attribute [local go_sem] Oper.semAt_some
abbrev gvS (p2 p3 : Addr) : Value := .func (.func gS1) #[] #[.pointer (some p3), .pointer (some p2)]
abbrev tbk (T m : Nat) (xs : List Nd) : List Nat := T :: m :: xs.map (·.b)
abbrev left (p : VT → Bool) (xs : List Nd) (k : Nat) : List Nd := ((xs.take k).filter fun y => !p y.v) ++ xs.drop k
abbrev cnt (p : VT → Bool) (xs : List Nd) (k : Nat) : Int := (((xs.take k).filter fun y => p y.v).length : Int)
theorem tbk_lt {w : World} {T m cap : Nat} {xs : List Nd} (h : Tb w T m cap xs) : ∀ k ∈ tbk T m xs, k < w.heap.size := by
  intro k hk
  rcases List.mem_cons.1 hk with rfl | hk
  · exact h.tbl.lt
  · rcases List.mem_cons.1 hk with rfl | hk
    · obtain ⟨D, hD, _⟩ := h.map
      exact hD.lt
    · obtain ⟨y, hy, rfl⟩ := List.mem_map.1 hk
      exact h.xlt y hy
theorem left_sub {p : VT → Bool} {xs : List Nd} {k : Nat} {T m : Nat} : ∀ b ∈ tbk T m (left p xs k), b ∈ tbk T m xs := by
  intro b hb
  rcases List.mem_cons.1 hb with rfl | hb
  · exact List.mem_cons_self ..
  · rcases List.mem_cons.1 hb with rfl | hb
    · exact List.mem_cons_of_mem _ (List.mem_cons_self ..)
    · obtain ⟨y, hy, rfl⟩ := List.mem_map.1 hb
      refine List.mem_cons_of_mem _ (List.mem_cons_of_mem _ (List.mem_map.2 ⟨y, ?_, rfl⟩))
      rcases List.mem_append.1 hy with hy | hy
      · exact List.mem_of_mem_take (List.mem_filter.1 hy).1
      · exact List.mem_of_mem_drop hy
/-- Between two rounds of Prune, w being the world that it began in. -/
structure PS (w : World) (T m cap : Nat) (xs : List Nd) (p : VT → Bool) (gv : Value) (pre : List (List UInt8 × VT)) (A : World) : Prop where
  le : pre.length ≤ xs.length
  tb : Tb A T m cap (left p xs pre.length)
  b0 : Boxed A w.heap.size 69 (tP T)
  b1 : Boxed A (w.heap.size + 1) 88 gv
  b2 : Boxed A (w.heap.size + 2) 3 (.int .i64 (cnt p xs pre.length))
  tr : Trn (tbk T m xs) w A
theorem PS.below {w A B : World} {T m cap : Nat} {xs : List Nd} {p : VT → Bool} {gv : Value} {pre : List (List UInt8 × VT)} (h : PS w T m cap xs p gv pre A) (hb : Below A.heap.size A B) : PS w T m cap xs p gv pre B :=
  ⟨h.le, h.tb.keep hb, (hb.block _ h.b0.lt).trans h.b0, (hb.block _ h.b1.lt).trans h.b1, (hb.block _ h.b2.lt).trans h.b2, h.tr.below hb⟩
theorem PS.put {w A : World} {T m cap : Nat} {xs : List Nd} {p : VT → Bool} {gv : Value} {pre : List (List UInt8 × VT)} (h : PS w T m cap xs p gv pre A) (hS : ∀ k ∈ tbk T m xs, k < w.heap.size) {l : Nat} {o o' : Obj} (hl : w.heap.size ≤ l) (ho : A.heap[l]? = some o) (hc : o.isCells = false) : PS w T m cap xs p gv pre (A.putObj l o') := by
  have hk := kc_putObj (b := 0) (o' := o') ho hc
  refine ⟨h.le, h.tb.eqs (fun k hk => World.putObj_heap_other (by have := hS k (left_sub k hk); omega)), hk _ _ _ _ (Nat.zero_le _) h.b0, hk _ _ _ _ (Nat.zero_le _) h.b1, hk _ _ _ _ (Nat.zero_le _) h.b2, ?_⟩
  have hg := grownBy_putObj' A l o'
  exact ⟨hg.os.trans h.tr.os, hg.tape.trans h.tr.tape, hg.output.trans h.tr.output, Nat.le_trans h.tr.size hg.size, fun k hk hn => (World.putObj_heap_other (by omega)).trans (h.tr.block k hk hn)⟩
theorem left_at {p : VT → Bool} {xs : List Nd} {k : Nat} (h : k < xs.length) : left p xs k = ((xs.take k).filter fun y => !p y.v) ++ xs[k] :: xs.drop (k + 1) := by
  show _ ++ xs.drop k = _
  rw [List.drop_eq_getElem_cons h]
theorem left_succ {p : VT → Bool} {xs : List Nd} {k : Nat} (h : k < xs.length) : left p xs (k + 1) = if p xs[k].v then ((xs.take k).filter fun y => !p y.v) ++ xs.drop (k + 1) else left p xs k := by
  rw [left_at h]
  show ((xs.take (k + 1)).filter fun y => !p y.v) ++ xs.drop (k + 1) = _
  rw [List.take_succ_eq_append_getElem h, List.filter_append]
  by_cases hp : p xs[k].v = true
  · simp [hp]
  · simp [hp]
theorem cnt_succ {p : VT → Bool} {xs : List Nd} {k : Nat} (h : k < xs.length) : cnt p xs (k + 1) = if p xs[k].v then cnt p xs k + 1 else cnt p xs k := by
  show ((((xs.take (k + 1)).filter fun y => p y.v).length : Nat) : Int) = _
  rw [List.take_succ_eq_append_getElem h, List.filter_append]
  by_cases hp : p xs[k].v = true
  · simp [hp]
  · simp [hp]
set_option maxHeartbeats 4000000 in
theorem prune_any {w : World} {T m cap : Nat} {xs : List Nd} (h : Tb w T m cap xs) (p : VT → Bool) (p2 p3 : Addr)
    (hgone : ∀ A, Trn (tbk T m xs) w A → ∀ y ∈ xs, ∀ W, Below A.heap.size A W → Calls Try.prog gS1 #[strT y.key, vv y.v, .pointer (some p3), .pointer (some p2)] W fun e w' => e = .returned (.bool (p y.v)) ∧ Below W.heap.size W w') :
    Calls Try.prog 32 #[tP T, gvS p2 p3] w fun e w' => e = .returned (.int .i64 (cnt p xs xs.length)) ∧ Tb w' T m cap (left p xs xs.length) ∧ Trn (tbk T m xs) w w' := by
  have HS := Lib.hid (tbk_lt h)
  have H := Lib.hid h; clear h
  have HGO := Lib.hid hgone; clear hgone
  refine (callsIn_wide (n := 12)).1 ?_
  refine callsIn_of_wp_marks Try.func32 rfl trivial ?_ rfl
  simp only [Try.ntmps32, List.size_toArray, List.length_cons, List.length_nil, Nat.reduceAdd, Nat.reduceSub, Array.replicate_succ, Array.replicate_zero, List.push_toArray, List.append_toArray, List.nil_append, List.cons_append]
  gi_wp2
  refine ⟨trivial, (callsIn_wide.2 (all_any T _)).mono ?_⟩
  rintro e w3 ⟨rfl, hw3⟩
  obtain ⟨n, hn⟩ : ∃ n, n = w.heap.size := ⟨_, rfl⟩
  have hP : PS w T m cap xs p (gvS p2 p3) [] w3 ∧ Boxed w3 (w.heap.size + 3) 69 (tP T) ∧ w3.heap.size = w.heap.size + 4 := by
    have q0 := Boxed.new w 69 (tP T)
    have q1 := Boxed.new (w.alloc (.cells #[tP T] 69)) 88 (gvS p2 p3)
    have q2 := Boxed.new ((w.alloc (.cells #[tP T] 69)).alloc (.cells #[gvS p2 p3] 88)) 3 (.int .i64 0)
    have q3 := Boxed.new (((w.alloc (.cells #[tP T] 69)).alloc (.cells #[gvS p2 p3] 88)).alloc (.cells #[.int .i64 0] 3)) 69 (tP T)
    simp only [World.size_alloc] at q1 q2 q3
    have hB : Below w.heap.size w w3 := by rw [hw3]; exact ((((Below.refl _ w).alloc (Nat.le_refl _) _).alloc (by simp) _).alloc (by simp; omega) _).alloc (by simp; omega) _
    refine ⟨⟨by simp, H.out.keep hB, ?_, ?_, ?_, Trn.of_below hB⟩, ?_, ?_⟩
    · rw [hw3]; exact ((q0.alloc _).alloc _).alloc _
    · rw [hw3]; exact (q1.alloc _).alloc _
    · rw [hw3]; exact q2.alloc _
    · rw [hw3]; exact q3
    · rw [hw3]; simp
  simp only [World.size_alloc, Nat.add_assoc, Nat.reduceAdd]
  clear hw3
  obtain ⟨hP, hb3, hz3⟩ := hP
  have hT3 : Tb w3 T m cap xs := by simpa [left] using hP.tb
  have hseq := all1_g (12 - 1) (by omega) (w.heap.size + 3) T m cap xs w3 hT3 hb3
  have HP := Lib.hid hP; clear hP
  have HSQ := Lib.hid hseq; clear hseq
  have hn4 : xs.length ≤ 4096 := by have := H.out.cnt; have := H.out.cap; omega
  clear hT3 hb3 hn
  gi_wp2
  have hkey : ∀ k (hk : k < xs.length) (pre : List (List UInt8 × VT)) (x : List UInt8 × VT), pre.length = k → pre ++ [x] <+: tbs xs → x = (xs[k].key, xs[k].v) := by
    intro k hk pre x hl hpre
    obtain ⟨t, ht⟩ := hpre
    have h1 : (tbs xs)[k]? = some x := by
      rw [← ht, List.append_assoc, List.getElem?_append_right (by omega)]; simp [hl]
    unfold tbs at h1
    rw [List.getElem?_map, List.getElem?_eq_getElem hk] at h1
    simpa using h1.symm
  have HKEY := Lib.hid hkey; clear hkey
  refine wpIn_rangeFunc_ga rfl (by omega) (gf := aF) (lb := #[.pointer (some ⟨w.heap.size + 3, 0, none⟩)]) rfl trivial (fun _ _ => rfl) (encs := fun x : List UInt8 × VT => #[strT x.1, vv x.2]) StR (KC w3.heap.size) (fun _ pre x _ => pre ++ [x] <+: tbs xs) (fun ys => ys = tbs xs) (fun _ => True)
    (fun pre A => PS w T m cap xs p (gvS p2 p3) pre A) (fun _ _ _ => False)
    HSQ.out (fun _ _ _ => trivial) (fun _ => rfl)
    (fun _ _ _ _ h _ hk => h.block _ hk) (fun _ _ _ h => h.size) (fun _ _ _ h k => h.trans k) (fun _ _ _ _ _ h hc => kc_putObj h hc)
    (fun pre A B h hst => h.below hst) (fun _ _ _ _ h _ => h)
    (fun pre A l o o' h hl ho hc => h.put HS.out (by omega) ho hc) (fun _ _ _ _ _ _ h _ _ _ => h)
    (fun _ _ _ _ _ _ _ h _ _ _ => h)
    (fun W' hb hs => HP.out.below hb)
    (fun pre A B h _ hb => h.below hb) (fun _ _ _ _ _ h _ => h) (fun A B hb k c t f _ ho => (hb.block k (Array.getElem?_eq_some_iff.1 ho).1).trans ho)
    (fun x A a' V => V = A.alloc (.cells #[strT x.2.s, .int .u64 x.2.a, .bool x.2.sp, .int .u32 x.2.ct] 68) ∧ a' = { tmps := #[tP T, gvS p2 p3, .pointer (some ⟨w.heap.size, 0, none⟩), .pointer (some ⟨w.heap.size + 1, 0, none⟩), .int .i64 0, .pointer (some ⟨w.heap.size + 2, 0, none⟩), strT x.1, .pointer (some ⟨A.heap.size, 0, none⟩), tP T, .func (.func aF) #[] #[.pointer (some ⟨w.heap.size + 3, 0, none⟩)], strT x.1, vv x.2, undef, undef, undef, undef, undef, undef, undef, undef, undef, undef, undef, undef, undef], defers := [] })
    (fun x A a' V h => by rw [h.1]; exact (Below.refl _ A).alloc (Nat.le_refl _) _)
    ?assign ?body ?done ?stop
  case assign =>
    rintro k x A K hK
    have HK := Lib.hid hK; clear hK
    unfold vv
    gi_wp2
    exact HK.out _ _ ⟨rfl, rfl⟩
  case stop => exact fun _ _ _ _ _ _ h => h.elim
  case done =>
    rintro D ys A hD hz rfl hJ hK
    have hlen : (tbs xs).length = xs.length := by unfold tbs; rw [List.length_map]
    have c2 := hJ.b2.cell
    have hput := hJ.put (o' := .deferred none) HS.out (by omega) hK rfl
    rw [hlen] at c2
    gi_wp2
    show LeavesInM _ _ _ _ _ _ _ _ _
    refine ⟨by simp, .inl ⟨_, _, rfl, run_takeDeferred hK, ?_⟩⟩
    have htb := hput.tb
    rw [hlen] at htb
    exact ⟨_, results_tmp rfl _ _ _, rfl, htb, hput.tr⟩
  case body =>
    rintro l bb pre x a' A hbb hbz hJ hpre ⟨A0, V, ⟨hV, rfl⟩, hkc, hA0⟩
    have hpl : pre.length < xs.length := by
      have := hpre.length_le
      unfold tbs at this
      rw [List.length_map, List.length_append, List.length_singleton] at this
      omega
    obtain rfl := HKEY.out pre.length hpl pre x rfl hpre
    obtain ⟨k, hk⟩ : ∃ k, k = pre.length := ⟨_, rfl⟩
    obtain ⟨y, hy⟩ : ∃ y, y = xs[pre.length] := ⟨_, rfl⟩
    have hls := left_succ (p := p) hpl
    have hla := left_at (p := p) hpl
    have hcs := cnt_succ (p := p) hpl
    have hym : xs[pre.length] ∈ xs := List.getElem_mem _
    rw [← hy] at hls hla hcs hym hV ⊢
    obtain ⟨P7, hP7⟩ : ∃ P7, P7 = A0.heap.size := ⟨_, rfl⟩
    have hbk : BlkT A P7 68 [strT y.v.s, .int .u64 y.v.a, .bool y.v.sp, .int .u32 y.v.ct] := hkc _ _ _ _ (Nat.zero_le _) (by rw [hV, hP7]; exact heap_alloc_new A0 _)
    rw [← hP7]
    have e0 : A.cell? ⟨P7, 0, none⟩ = some (strT y.v.s) := hbk.at rfl
    have e1 : A.cell? ⟨P7, 1, none⟩ = some (.int .u64 y.v.a) := hbk.at rfl
    have e2 : A.cell? ⟨P7, 2, none⟩ = some (.bool y.v.sp) := hbk.at rfl
    have e3 : A.cell? ⟨P7, 3, none⟩ = some (.int .u32 y.v.ct) := hbk.at rfl
    have d1 := hJ.b1.cell
    have hsay := Lib.hid (says_any (w := A) (p2 := p2) (p3 := p3) y.key y.v (fun W hW => HGO.out A hJ.tr y hym W hW))
    unfold vv at hsay
    have HJ := Lib.hid hJ
    have hpl1 : (pre ++ [(y.key, y.v)]).length = pre.length + 1 := by rw [List.length_append]; rfl
    have hz := hJ.tr.size
    have hcn : 0 ≤ cnt p xs pre.length ∧ cnt p xs pre.length ≤ 4096 := by
      have h1 := List.length_filter_le (fun y : Nd => p y.v) (xs.take pre.length)
      have h2 : (xs.take pre.length).length ≤ 4096 := by rw [List.length_take]; omega
      refine ⟨Int.natCast_nonneg _, ?_⟩
      show (((((xs.take pre.length).filter fun y => p y.v).length : Nat)) : Int) ≤ 4096
      omega
    obtain ⟨c, hc⟩ : ∃ c, c = cnt p xs pre.length := ⟨_, rfl⟩
    rw [← hc] at hcn hcs
    have HC := Lib.hid hc; clear hc
    have HLS := Lib.hid hls; have HLA := Lib.hid hla; have HCS := Lib.hid hcs; have HPL := Lib.hid hpl1
    clear hkc hV hJ hbk hP7 hA0 hy hls hla hcs hpl1 hk
    gi_wp2
    refine ⟨trivial, (CallsIn.inRound l ((callsIn_wide (n := 9)).2 hsay.out)).mono ?_⟩
    rintro e W1 ⟨rfl, hb1⟩
    clear e0 e1 e2 e3 d1 hsay
    have h1 := HJ.out.below hb1
    have H1 := Lib.hid h1
    have HB1 := Lib.hid hb1
    cases hp : p y.v with
    | false =>
      clear h1 hb1
      gi_wp2
      refine ⟨trivial, ?_⟩
      gi_wp2
      refine ⟨⟨HB1.out.size, fun k o _ ho _ => (HB1.out.block k (Array.getElem?_eq_some_iff.1 ho).1).trans ho⟩, fun k c t f _ ho => (HB1.out.block k (Array.getElem?_eq_some_iff.1 ho).1).trans ho, ⟨by rw [HPL.out]; omega, ?_, H1.out.b0, H1.out.b1, ?_, H1.out.tr⟩⟩
      · rw [HPL.out, HLS.out, hp, if_neg (by simp)]; exact H1.out.tb
      · rw [HPL.out, HCS.out, hp, if_neg (by simp), HC.out]; exact H1.out.b2
    | true =>
      have htb1 := h1.tb
      rw [HLA.out] at htb1
      have hS2 : ∀ k ∈ tbk T m (((xs.take pre.length).filter fun y => !p y.v) ++ y :: xs.drop (pre.length + 1)), k < w.heap.size := by rw [← HLA.out]; exact fun k hk => HS.out k (left_sub k hk)
      have hsub : ∀ k ∈ tbk T m (((xs.take pre.length).filter fun y => !p y.v) ++ y :: xs.drop (pre.length + 1)), k ∈ tbk T m xs := by rw [← HLA.out]; exact fun k hk => left_sub k hk
      have d0 := h1.b0.cell
      have hdr := Lib.hid (drop_exact y.key htb1 (htb1.len y (by simp)) (fnd_mid htb1.keys))
      have HS2 := Lib.hid hS2
      have HSUB := Lib.hid hsub
      clear h1 hb1 htb1 hS2 hsub
      gi_wp2
      refine ⟨trivial, (CallsIn.inRound l ((callsIn_wide (n := 9)).2 hdr.out)).mono ?_⟩
      rintro e W2 ⟨rfl, ht2, htr2⟩
      have hW2 := htr2.size
      have hz1 := HB1.out.size
      have q2 : Boxed W2 (w.heap.size + 2) 3 (.int .i64 c) := (htr2.block _ H1.out.b2.lt (fun e => by have := HS2.out _ e; omega)).trans (by have := H1.out.b2; rw [← HC.out] at this; exact this)
      have q0 : Boxed W2 w.heap.size 69 (tP T) := (htr2.block _ H1.out.b0.lt (fun e => by have := HS2.out _ e; omega)).trans H1.out.b0
      have q1 : Boxed W2 (w.heap.size + 1) 88 (gvS p2 p3) := (htr2.block _ H1.out.b1.lt (fun e => by have := HS2.out _ e; omega)).trans H1.out.b1
      have g2 := q2.cell
      have f2 := q2.frozen
      have HT2 := Lib.hid ht2; have HTR2 := Lib.hid htr2; have HQ2 := Lib.hid q2; have HQ1 := Lib.hid q1; have HQ0 := Lib.hid q0
      clear d0 hdr ht2 htr2 q0 q1 q2
      gi_wp2
      have hset : ∀ k, k ≠ w.heap.size + 2 → (W2.setCell ⟨w.heap.size + 2, 0, none⟩ (.int .i64 (c + 1))).heap[k]? = W2.heap[k]? := fun k hk => Below.heap_setCell W2 _ _ k hk
      have hcells : ∀ (k : Nat) (o : Obj), w3.heap.size ≤ k → A.heap[k]? = some o → (W2.setCell ⟨w.heap.size + 2, 0, none⟩ (.int .i64 (c + 1))).heap[k]? = some o := fun k o hk ho => by
        have hlt := (Array.getElem?_eq_some_iff.1 ho).1
        refine (hset k (by omega)).trans ((HTR2.out.block k (by omega) (fun e => by have := HS2.out _ e; omega)).trans ((HB1.out.block k hlt).trans ho))
      refine ⟨⟨by simp; omega, fun k o hk ho _ => hcells k o hk ho⟩, fun k c' t f hk ho => hcells k _ hk ho, ⟨by rw [HPL.out]; omega, ?_, (hset _ (by omega)).trans HQ0.out, (hset _ (by omega)).trans HQ1.out, ?_, ?_⟩⟩
      · rw [HPL.out, HLS.out, hp, if_pos rfl]
        refine HT2.out.eqs (fun k hk => hset k ?_)
        have hk2 : k ∈ tbk T m (((xs.take pre.length).filter fun y => !p y.v) ++ y :: xs.drop (pre.length + 1)) := by
          rcases List.mem_cons.1 hk with rfl | hk
          · exact List.mem_cons_self ..
          · rcases List.mem_cons.1 hk with rfl | hk
            · exact List.mem_cons_of_mem _ (List.mem_cons_self ..)
            · obtain ⟨z, hz, rfl⟩ := List.mem_map.1 hk
              refine List.mem_cons_of_mem _ (List.mem_cons_of_mem _ (List.mem_map.2 ⟨z, ?_, rfl⟩))
              rcases List.mem_append.1 hz with hz | hz
              · exact List.mem_append_left _ hz
              · exact List.mem_append_right _ (List.mem_cons_of_mem _ hz)
        have := HS2.out _ hk2
        omega
      · rw [HPL.out, HCS.out, hp, if_pos rfl]
        exact HQ2.out.set _
      · have ht := (HJ.out.tr.below HB1.out).trans (HTR2.out.mono HSUB.out)
        exact ⟨ht.os, ht.tape, ht.output, by simpa using ht.size, fun k hk hn => (hset k (by omega)).trans (ht.block k hk hn)⟩
end Go.Proofs.Ythpgdojjecdlcaa
