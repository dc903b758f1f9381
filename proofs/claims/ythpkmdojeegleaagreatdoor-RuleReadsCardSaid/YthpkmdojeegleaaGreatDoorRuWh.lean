/- rule: Which and May. -/
import Derived.Test.YthpkmdojeegleaaGreatDoorRuIt
set_option maxRecDepth 100000
namespace Go.Proofs.YthpkmdojeegleaaGreatDoor
open Go.RowKit Go.Shelf
attribute [local go_sem] Oper.semAt_some
theorem cell_putObj {A : World} {b o l : Nat} {v : Value} {o' : Obj} (h : A.cell? ⟨b, o, none⟩ = some v) (hn : b ≠ l) : (A.putObj l o').cell? ⟨b, o, none⟩ = some v := by
  have hh : (A.putObj l o').heap[b]? = A.heap[b]? := World.putObj_heap_other hn
  rw [World.cell?_of_block hh]; exact h
theorem twoSet_heap {A : World} {q D : Nat} {u t : Value} {o : Obj} (h1 : D ≠ q) (h2 : D ≠ q + 1) (h : A.heap[D]? = some o) : ((A.setCell ⟨q, 0, none⟩ u).setCell ⟨q + 1, 0, none⟩ t).heap[D]? = some o := by
  have g1 := grown_set A ⟨q, 0, none⟩ u
  have g2 := grown_set (A.setCell ⟨q, 0, none⟩ u) ⟨q + 1, 0, none⟩ t
  have hD := (Array.getElem?_eq_some_iff.1 h).1
  exact (g2.block D (by have := g1.size; omega) (by simp; omega)).trans ((g1.block D hD (by simp; omega)).trans h)
theorem twoSet_box {A : World} {q : Nat} {a b : TypeId} {x y u t : Value} (h1 : Boxed A q a x) (h2 : Boxed A (q + 1) b y) : Boxed ((A.setCell ⟨q, 0, none⟩ u).setCell ⟨q + 1, 0, none⟩ t) q a u ∧ Boxed ((A.setCell ⟨q, 0, none⟩ u).setCell ⟨q + 1, 0, none⟩ t) (q + 1) b t := by
  have d1 := h1.set u
  have d2 := h2.kept (grown_set A ⟨q, 0, none⟩ u) (by simp)
  have d3 := d1.kept (grown_set (A.setCell ⟨q, 0, none⟩ u) ⟨q + 1, 0, none⟩ t) (by simp)
  exact ⟨d3, d2.set t⟩
theorem twoSet_keeps {A : World} {q B : Nat} {u t : Value} (hq : q + 1 < B) (_hB : B ≤ A.heap.size) : KeepsFrom B A ((A.setCell ⟨q, 0, none⟩ u).setCell ⟨q + 1, 0, none⟩ t) := by
  have g1 := grown_set A ⟨q, 0, none⟩ u
  have g2 := grown_set (A.setCell ⟨q, 0, none⟩ u) ⟨q + 1, 0, none⟩ t
  have s1 := g1.size
  have s2 := g2.size
  refine ⟨by omega, fun g ob hgl ho hc => ?_⟩
  have hg := (Array.getElem?_eq_some_iff.1 ho).1
  exact (g2.block g (by omega) (by simp; omega)).trans ((g1.block g hg (by simp; omega)).trans ho)
/-- Which, under way: its boxes from block n on. -/
structure WhB (w : World) (po : Option Addr) (role ten host : List UInt8) (port : Int) (q r : Value) (A : World) : Prop where
  b0 : Boxed A w.heap.size 9 (str role)
  b1 : Boxed A (w.heap.size + 1) 9 (str ten)
  b2 : Boxed A (w.heap.size + 2) 9 (str host)
  b3 : Boxed A (w.heap.size + 3) 3 (.int .i64 port)
  b4 : Boxed A (w.heap.size + 4) 3 q
  b5 : Boxed A (w.heap.size + 5) 4 r
  b6 : Boxed A (w.heap.size + 6) tPol (.pointer po)
  low : Below w.heap.size w A
  sz : w.heap.size + 7 ≤ A.heap.size
section
variable {w A B : World} {po : Option Addr} {role ten host : List UInt8} {port : Int} {q r : Value}
theorem WhB.below (h : WhB w po role ten host port q r A) (hb : Below A.heap.size A B) : WhB w po role ten host port q r B := by
  have hz := h.sz
  exact ⟨(hb.block _ h.b0.lt).trans h.b0, (hb.block _ h.b1.lt).trans h.b1, (hb.block _ h.b2.lt).trans h.b2, (hb.block _ h.b3.lt).trans h.b3, (hb.block _ h.b4.lt).trans h.b4, (hb.block _ h.b5.lt).trans h.b5, (hb.block _ h.b6.lt).trans h.b6,
    h.low.trans (hb.mono (by omega)), Nat.le_trans hz hb.size⟩
theorem WhB.put {l : Nat} {o o' : Obj} (h : WhB w po role ten host port q r A) (hl : w.heap.size ≤ l) (ho : A.heap[l]? = some o) (hc : o.isCells = false) : WhB w po role ten host port q r (A.putObj l o') := by
  have hk := kc_putObj (b := 0) (o' := o') ho hc
  exact ⟨hk _ _ _ _ (Nat.zero_le _) h.b0, hk _ _ _ _ (Nat.zero_le _) h.b1, hk _ _ _ _ (Nat.zero_le _) h.b2, hk _ _ _ _ (Nat.zero_le _) h.b3, hk _ _ _ _ (Nat.zero_le _) h.b4, hk _ _ _ _ (Nat.zero_le _) h.b5, hk _ _ _ _ (Nat.zero_le _) h.b6,
    h.low.trans (below_own (B := w.heap.size) (Nat.le_refl _) (by have := h.sz; omega) (grownBy_putObj' A l o') (fun r e => by cases e; exact ⟨hl, o, ho, hc⟩)), by simpa [World.putObj] using h.sz⟩
theorem WhB.two (h : WhB w po role ten host port q r A) (u t : Value) : WhB w po role ten host port u t ((A.setCell ⟨w.heap.size + 4, 0, none⟩ u).setCell ⟨w.heap.size + 5, 0, none⟩ t) := by
  obtain ⟨e4, e5⟩ := twoSet_box (u := u) (t := t) h.b4 h.b5
  have g1 := grown_set A ⟨w.heap.size + 4, 0, none⟩ u
  have g2 := grown_set (A.setCell ⟨w.heap.size + 4, 0, none⟩ u) ⟨w.heap.size + 5, 0, none⟩ t
  exact ⟨(h.b0.kept g1 (by simp)).kept g2 (by simp), (h.b1.kept g1 (by simp)).kept g2 (by simp), (h.b2.kept g1 (by simp)).kept g2 (by simp), (h.b3.kept g1 (by simp)).kept g2 (by simp), e4, e5, (h.b6.kept g1 (by simp)).kept g2 (by simp),
    (h.low.setCell (p := ⟨w.heap.size + 4, 0, none⟩) (by show w.heap.size ≤ w.heap.size + 4; omega) u).setCell (p := ⟨w.heap.size + 5, 0, none⟩) (by show w.heap.size ≤ w.heap.size + 5; omega) t, by have := h.sz; have := g1.size; have := g2.size; omega⟩
end
def NoneH (role ten host : List UInt8) (port : Int) (pre : List (RuL × Nat)) : Prop := ∀ x ∈ pre, holdsB x.1 role ten host port = false
/-- What Which tells. -/
def whR (role ten host : List UInt8) (port : Int) (xs : List RuL) : Int × Bool := match whichL role ten host port xs with | none => (0, false) | some i => ((i : Nat), true)
theorem zip_fst (xs : List RuL) (k : Nat) : (xs.zipIdx.take k).map (·.1) = xs.take k := by rw [List.map_take, List.zipIdx_map_fst]
theorem whR_none {role ten host : List UInt8} {port : Int} {xs : List RuL} (h : NoneH role ten host port xs.zipIdx) : whR role ten host port xs = (0, false) := by
  unfold whR
  rw [whichL_none (fun r hr => ?_)]
  rw [← List.zipIdx_map_fst 0 xs] at hr
  obtain ⟨x, hx, rfl⟩ := List.mem_map.1 hr
  exact h x hx
theorem whR_at {role ten host : List UInt8} {port : Int} {xs : List RuL} {pre : List (RuL × Nat)} {x : RuL × Nat} (h : NoneH role ten host port pre) (h1 : holdsB x.1 role ten host port = true) (h2 : pre ++ [x] <+: xs.zipIdx) : whR role ten host port xs = (((x.2 : Nat) : Int), true) := by
  have hl := h2.length_le
  rw [List.length_append, List.length_singleton, List.length_zipIdx] at hl
  have ht := List.prefix_iff_eq_take.1 h2
  rw [List.length_append, List.length_singleton, zip_take xs _ (by omega)] at ht
  obtain ⟨e1, e2⟩ := List.append_inj' ht rfl
  have e3 : x = (xs[pre.length], pre.length) := by simpa using e2
  unfold whR
  rw [whichL_at pre.length (by omega) (fun r hr => ?_) (by rw [e3] at h1; exact h1)]
  · rw [e3]
  · rw [← zip_fst, ← e1] at hr
    obtain ⟨y, hy, rfl⟩ := List.mem_map.1 hr
    exact h y hy
set_option maxHeartbeats 4000000 in
theorem which_any (B : Nat) (pv : Value) (xs : List RuL) (role ten host : List UInt8) (port : Int) (w : World) (hE : Env w) (hp : PolO w B pv xs) (hB : B ≤ w.heap.size) (hs : ∀ r ∈ xs, SmallR r) (hl : xs.length ≤ 5000) (hh : host.length ≤ 1000) :
    Calls Tryz.prog 23 #[pv, str role, str ten, str host, .int .i64 port] w fun e w' => e = .returned (.tuple #[.int .i64 (whR role ten host port xs).1, .bool (whR role ten host port xs).2]) ∧ Below w.heap.size w w' := by
  obtain ⟨po, v, rfl, hpv⟩ := hp.openV
  have HPV := Lib.hid hpv
  have HE := Lib.hid hE
  clear hp hpv hE
  obtain ⟨R, hR⟩ : ∃ R, R = whR role ten host port xs := ⟨_, rfl⟩
  have HR := Lib.hid hR
  rw [← hR]
  clear hR
  refine (callsIn_wide (n := 10)).1 ?_
  refine callsIn_of_wp_marks Tryz.func23 rfl trivial ?_ rfl
  simp only [Tryz.ntmps23, List.size_toArray, List.length_cons, List.length_nil, Nat.reduceAdd, Nat.reduceSub, Array.replicate_succ, Array.replicate_zero, List.push_toArray, List.append_toArray, List.nil_append, List.cons_append]
  gi_wp2
  refine ⟨trivial, (callsIn_wide.2 (rules_any po _)).mono ?_⟩
  rintro e W3 ⟨rfl, hW3⟩
  simp only [World.size_alloc, Nat.add_assoc, Nat.reduceAdd] at hW3 ⊢
  have q0 := (((((((Boxed.new w 9 (str role)).alloc (.cells #[str ten] 9)).alloc (.cells #[str host] 9)).alloc (.cells #[.int .i64 port] 3)).alloc (.cells #[.int .i64 0] 3)).alloc (.cells #[.bool false] 4)).alloc (.cells #[.pointer po] tPol))
  have q1 := ((((((Boxed.new (w.alloc (.cells #[str role] 9)) 9 (str ten)).alloc (.cells #[str host] 9)).alloc (.cells #[.int .i64 port] 3)).alloc (.cells #[.int .i64 0] 3)).alloc (.cells #[.bool false] 4)).alloc (.cells #[.pointer po] tPol))
  simp only [World.size_alloc] at q1
  have q2 := (((((Boxed.new ((w.alloc (.cells #[str role] 9)).alloc (.cells #[str ten] 9)) 9 (str host)).alloc (.cells #[.int .i64 port] 3)).alloc (.cells #[.int .i64 0] 3)).alloc (.cells #[.bool false] 4)).alloc (.cells #[.pointer po] tPol))
  simp only [World.size_alloc, Nat.add_assoc, Nat.reduceAdd] at q2
  have q3 := ((((Boxed.new (((w.alloc (.cells #[str role] 9)).alloc (.cells #[str ten] 9)).alloc (.cells #[str host] 9)) 3 (.int .i64 port)).alloc (.cells #[.int .i64 0] 3)).alloc (.cells #[.bool false] 4)).alloc (.cells #[.pointer po] tPol))
  simp only [World.size_alloc, Nat.add_assoc, Nat.reduceAdd] at q3
  have q4 := (((Boxed.new ((((w.alloc (.cells #[str role] 9)).alloc (.cells #[str ten] 9)).alloc (.cells #[str host] 9)).alloc (.cells #[.int .i64 port] 3)) 3 (.int .i64 0)).alloc (.cells #[.bool false] 4)).alloc (.cells #[.pointer po] tPol))
  simp only [World.size_alloc, Nat.add_assoc, Nat.reduceAdd] at q4
  have q5 := ((Boxed.new (((((w.alloc (.cells #[str role] 9)).alloc (.cells #[str ten] 9)).alloc (.cells #[str host] 9)).alloc (.cells #[.int .i64 port] 3)).alloc (.cells #[.int .i64 0] 3)) 4 (.bool false)).alloc (.cells #[.pointer po] tPol))
  simp only [World.size_alloc, Nat.add_assoc, Nat.reduceAdd] at q5
  have q6 := (Boxed.new ((((((w.alloc (.cells #[str role] 9)).alloc (.cells #[str ten] 9)).alloc (.cells #[str host] 9)).alloc (.cells #[.int .i64 port] 3)).alloc (.cells #[.int .i64 0] 3)).alloc (.cells #[.bool false] 4)) tPol (.pointer po))
  simp only [World.size_alloc, Nat.add_assoc, Nat.reduceAdd] at q6
  have q7 := ((((((((Below.refl w.heap.size w).alloc (by simp; try omega) (.cells #[str role] 9)).alloc (by simp; try omega) (.cells #[str ten] 9)).alloc (by simp; try omega) (.cells #[str host] 9)).alloc (by simp; try omega) (.cells #[.int .i64 port] 3)).alloc (by simp; try omega) (.cells #[.int .i64 0] 3)).alloc (by simp; try omega) (.cells #[.bool false] 4)).alloc (by simp; try omega) (.cells #[.pointer po] tPol))
  have hP : WhB w po role ten host port (.int .i64 0) (.bool false) W3 := by
    rw [hW3]
    exact ⟨q0, q1, q2, q3, q4, q5, q6, q7, by simp⟩
  clear hW3 q0 q1 q2 q3 q4 q5 q6 q7
  have HSQ := Lib.hid (rules1_g (10 - 1) (by omega) (w.heap.size + 6) B po v xs hl W3)
  unfold RuY at HSQ
  have HP := Lib.hid hP
  have hz3 := hP.sz
  clear hP
  gi_wp2
  refine wpIn_rangeFunc_ga rfl (by omega) (gf := gRu) (lb := #[.pointer (some ⟨w.heap.size + 6, 0, none⟩)]) rfl trivial (fun _ _ => rfl) (encs := fun x : RuL × Nat => #[.int .i64 (x.2 : Int), ragg x.1]) StL (fun _ _ => True) (fun _ pre x _ => pre ++ [x] <+: xs.zipIdx) (fun ys => ys = xs.zipIdx)
    (RuIn (w.heap.size + 6) B po v xs)
    (fun pre A => NoneH role ten host port pre ∧ WhB w po role ten host port (.int .i64 0) (.bool false) A)
    (fun cd pre A => cd = .ret ∧ ∃ pre0 x, pre = pre0 ++ [x] ∧ NoneH role ten host port pre0 ∧ holdsB x.1 role ten host port = true ∧ pre <+: xs.zipIdx ∧ WhB w po role ten host port (.int .i64 (x.2 : Int)) (.bool true) A)
    HSQ.out (fun pre A h => ⟨h.2.b6, HPV.out.below h.2.low hB⟩) (fun _ => rfl)
    (fun _ _ _ _ h _ hk => h.block _ hk) (fun _ _ _ h => h.size) (fun _ _ _ _ _ => trivial) (fun _ _ _ _ _ _ _ => trivial)
    (fun pre A B h hst => ⟨h.1, h.2.below hst⟩)
    (fun c pre A B h hst => by obtain ⟨h1, p0, x, h2, h3, h4, h5, h6⟩ := h; exact ⟨h1, p0, x, h2, h3, h4, h5, h6.below hst⟩)
    (fun pre A l o o' h hl ho hc => ⟨h.1, h.2.put (by omega) ho hc⟩)
    (fun c pre A l o o' h hl ho hc => by obtain ⟨h1, p0, x, h2, h3, h4, h5, h6⟩ := h; exact ⟨h1, p0, x, h2, h3, h4, h5, h6.put (by omega) ho hc⟩)
    (fun _ _ _ _ _ _ _ h _ _ _ => h)
    (fun W' hb hs => ⟨fun _ h => (by cases h), HP.out.below hb⟩)
    (fun pre A B h _ hb => ⟨h.1, h.2.below hb⟩)
    (fun _ _ _ _ _ h _ => h) (fun _ _ _ => trivial)
    (fun x A a' V => V = A.alloc (.cells #[.bool x.1.allow, str x.1.role, str x.1.ten, str x.1.host, .int .i64 x.1.frm, .int .i64 x.1.til] 41) ∧ a' = { tmps := #[Value.pointer po, str role, str ten, str host, Value.int IntKind.i64 port, undef, .pointer (some ⟨w.heap.size, 0, none⟩), .pointer (some ⟨w.heap.size + 1, 0, none⟩), .pointer (some ⟨w.heap.size + 2, 0, none⟩), .pointer (some ⟨w.heap.size + 3, 0, none⟩), .pointer (some ⟨w.heap.size + 4, 0, none⟩), .pointer (some ⟨w.heap.size + 5, 0, none⟩), .int .i64 (x.2 : Int), .pointer (some ⟨A.heap.size, 0, none⟩), Value.pointer po, gvRu (w.heap.size + 6), .int .i64 (x.2 : Int), ragg x.1, undef, undef, undef, undef, undef, undef, undef], defers := [] })
    (fun x A a' V h => by rw [h.1]; exact (Below.refl _ A).alloc (Nat.le_refl _) _)
    ?assign ?body ?done ?stop
  case assign =>
    rintro k x A K hK
    have HK := Lib.hid hK; clear hK
    gi_wp2
    exact HK.out _ _ ⟨rfl, rfl⟩
  case done =>
    rintro D ys A hD hz rfl ⟨hy, hJ⟩ hK
    have hr : R = (0, false) := HR.out.trans (whR_none hy)
    subst hr
    have c0 := hJ.b4.cell
    have c1 := hJ.b5.cell
    have f0 := hJ.b4.frozen
    have f1 := hJ.b5.frozen
    have hj2 := hJ.two (.int .i64 0) (.bool false)
    have hK2 := twoSet_heap (q := w.heap.size + 4) (u := .int .i64 0) (t := .bool false) (show D ≠ w.heap.size + 4 by omega) (show D ≠ w.heap.size + 4 + 1 by omega) hK
    have HJ3 := Lib.hid (hj2.put (o' := .deferred none) (by omega) hK2 rfl)
    have HK2 := Lib.hid hK2
    clear hK2 hJ hK hj2 hy
    gi_wp2
    show LeavesInM _ _ _ _ _ _ _ _ _
    refine ⟨by simp, .inl ⟨_, _, rfl, run_takeDeferred HK2.out, ?_⟩⟩
    have p0 := HJ3.out.b4.cell
    have p1 := HJ3.out.b5.cell
    exact ⟨.tuple #[.int .i64 0, .bool false], by simp [results, Tryz.results23, go_sem, p0, p1], rfl, HJ3.out.low⟩
  case stop =>
    rintro D c pre A hD hz ⟨rfl, p0, x, rfl, h3, h4, hpre, hJ⟩ hK
    have hr : R = (((x.2 : Nat) : Int), true) := HR.out.trans (whR_at h3 h4 hpre)
    subst hr
    have HJ3 := Lib.hid (hJ.put (o' := .deferred none) (l := D) (by omega) hK rfl)
    gi_wp2
    show LeavesInM _ _ _ _ _ _ _ _ _
    refine ⟨by simp, .inl ⟨_, _, rfl, run_takeDeferred hK, ?_⟩⟩
    have p0 := HJ3.out.b4.cell
    have p1 := HJ3.out.b5.cell
    exact ⟨.tuple #[.int .i64 (x.2 : Int), .bool true], by simp [results, Tryz.results23, go_sem, p0, p1], rfl, HJ3.out.low⟩
  case body =>
    rintro k bb pre x a' A hbb hbz ⟨hN, hJ⟩ hpre ⟨A0, V, ⟨hV, rfl⟩, hkc, hA0⟩
    obtain ⟨P7, hP7⟩ : ∃ P7, P7 = A0.heap.size := ⟨_, rfl⟩
    have hbk : A.heap[P7]? = some (.cells #[.bool x.1.allow, str x.1.role, str x.1.ten, str x.1.host, .int .i64 x.1.frm, .int .i64 x.1.til] 41 (0, 0)) := hkc _ _ _ _ (Nat.zero_le _) (by rw [hV, hP7]; exact heap_alloc_new A0 _)
    have hbk2 : Blk A P7 [.bool x.1.allow, str x.1.role, str x.1.ten, str x.1.host, .int .i64 x.1.frm, .int .i64 x.1.til] := ⟨_, hbk⟩
    rw [← hP7]
    have e0 := hbk2.at (o := 0) rfl
    have e1 := hbk2.at (o := 1) rfl
    have e2 := hbk2.at (o := 2) rfl
    have e3 := hbk2.at (o := 3) rfl
    have e4 := hbk2.at (o := 4) rfl
    have e5 := hbk2.at (o := 5) rfl
    have d0 := hJ.b0.cell
    have d1 := hJ.b1.cell
    have d2 := hJ.b2.cell
    have d3 := hJ.b3.cell
    have hxm : x.1 ∈ xs := by
      have hm : x ∈ xs.zipIdx := by
        obtain ⟨t, ht⟩ := hpre
        rw [← ht]; simp
      rw [← List.zipIdx_map_fst 0 xs]
      exact List.mem_map.2 ⟨x, hm, rfl⟩
    have HC := Lib.hid (holds_any x.1 role ten host port A (HE.out.below hJ.low) (hs _ hxm) hh)
    obtain ⟨r, i⟩ := x
    obtain ⟨P, hPd⟩ : ∃ P, P = holdsB r role ten host port := ⟨_, rfl⟩
    simp only at HC
    rw [← hPd] at HC
    have HPD := Lib.hid hPd
    have HJ := Lib.hid hJ
    have HN := Lib.hid hN
    have HPRE := Lib.hid hpre
    have hzA := hJ.sz
    clear hkc hV hbk hbk2 hP7 hA0 hxm hPd hJ hN hpre
    simp only at e0 e1 e2 e3 e4 e5 ⊢
    gi_wp2
    refine ⟨trivial, (CallsIn.inRound k ((callsIn_wide (n := 7)).2 HC.out)).mono ?_⟩
    rintro e W4 ⟨rfl, hB4⟩
    have hj4 := HJ.out.below hB4
    have hz4 := hB4.size
    have HKF := Lib.hid (show KeepsFrom W3.heap.size A W4 from ⟨hz4, fun g ob hg ho hc => (hB4.block g (Array.getElem?_eq_some_iff.1 ho).1).trans ho⟩)
    have HJ4 := Lib.hid hj4
    clear d0 d1 d2 d3 hB4 HC
    cases P with
    | false =>
      clear hj4
      gi_wp2
      refine ⟨HKF.out, trivial, fun y hy => ?_, HJ4.out⟩
      rcases List.mem_append.1 hy with hy | hy
      · exact HN.out y hy
      · rw [List.mem_singleton.1 hy]; exact HPD.out.symm
    | true =>
      have c0 := hj4.b4.cell
      have c1 := hj4.b5.cell
      have f0 := hj4.b4.frozen
      have f1 := hj4.b5.frozen
      have HT := Lib.hid (hj4.two (.int .i64 (i : Int)) (.bool true))
      have HTK := Lib.hid (show KeepsFrom W3.heap.size W4 ((W4.setCell ⟨w.heap.size + 4, 0, none⟩ (.int .i64 (i : Int))).setCell ⟨w.heap.size + 5, 0, none⟩ (.bool true)) from twoSet_keeps (A := W4) (q := w.heap.size + 4) (u := .int .i64 (i : Int)) (t := .bool true) (B := W3.heap.size) (by omega) (by omega))
      clear hj4
      gi_wp2
      exact ⟨⟨by have := HKF.out.size; have := HTK.out.size; omega, fun g ob hg ho hc => HTK.out.same g ob hg (HKF.out.same g ob hg ho hc) hc⟩, rfl, pre, (r, i), rfl, HN.out, HPD.out.symm, HPRE.out, HT.out⟩
theorem may_whR (role ten host : List UInt8) (port : Int) (xs : List RuL) : (whR role ten host port xs = (0, false) ∧ mayL role ten host port xs = false) ∨ (∃ (i : Nat) (hi : i < xs.length), whR role ten host port xs = (((i : Nat) : Int), true) ∧ mayL role ten host port xs = xs[i].allow) := by
  rcases whichL_cases role ten host port xs with ⟨a, _, c⟩ | ⟨i, hi, a, _, _, d⟩
  · exact .inl ⟨by unfold whR; rw [a], c⟩
  · exact .inr ⟨i, hi, by unfold whR; rw [a], d⟩
set_option maxHeartbeats 1000000 in
theorem may_any (B : Nat) (pv : Value) (xs : List RuL) (role ten host : List UInt8) (port : Int) (w : World) (hE : Env w) (hp : PolO w B pv xs) (hB : B ≤ w.heap.size) (hs : ∀ r ∈ xs, SmallR r) (hl : xs.length ≤ 5000) (hh : host.length ≤ 1000) :
    Calls Tryz.prog 24 #[pv, str role, str ten, str host, .int .i64 port] w fun e w' => e = .returned (.bool (mayL role ten host port xs)) ∧ Below w.heap.size w w' := by
  have HC := Lib.hid (which_any B pv xs role ten host port w hE hp hB hs hl hh)
  obtain ⟨R, hR⟩ : ∃ R, R = mayL role ten host port xs := ⟨_, rfl⟩
  have hm := may_whR role ten host port xs
  rw [← hR] at hm ⊢
  obtain ⟨Q, hQ⟩ : ∃ Q, Q = whR role ten host port xs := ⟨_, rfl⟩
  rw [← hQ] at HC hm
  have hp2 := hp
  obtain ⟨po, v, rfl, hpv⟩ := hp.openV
  have HPV := Lib.hid hpv
  clear hp hp2 hR hQ hE hs hpv
  rcases hm with ⟨rfl, rfl⟩ | ⟨i, hi, rfl, rfl⟩
  · go_enter Tryz.func24, Tryz.ntmps24
    go_wp2_with fail
    refine HC.out.mono ?_
    rintro e w1 ⟨rfl, hB1⟩
    have HB1 := Lib.hid hB1; clear hB1 HC
    go_wp2_with fail
    go_ret
    exact ⟨rfl, HB1.out⟩
  · rcases HPV.out with ⟨_, h⟩ | ⟨p, rfl, hpB, hpc, hrl⟩
    · subst h; simp at hi
    have HPC := Lib.hid hpc
    have HRL := Lib.hid hrl
    obtain ⟨A, c, rfl, hc1, hc2, hq⟩ := hrl
    clear hq hpc HPV
    go_enter Tryz.func24, Tryz.ntmps24
    go_wp2_with fail
    refine HC.out.mono ?_
    rintro e w1 ⟨rfl, hB1⟩
    have c0 := (hB1.cell (p := ⟨p, 0, none⟩) (by show p < w.heap.size; omega)).trans HPC.out
    obtain ⟨g, o, rfl, hg, e0, _⟩ := (HRL.out.below hB1 hB).six i hi
    have hil : (i : Int) < (xs.length : Int) := by omega
    have HB1 := Lib.hid hB1
    clear hB1 HC HRL HPC
    go_wp2_with fail
    go_ret
    exact ⟨rfl, HB1.out⟩
end Go.Proofs.YthpkmdojeegleaaGreatDoor
