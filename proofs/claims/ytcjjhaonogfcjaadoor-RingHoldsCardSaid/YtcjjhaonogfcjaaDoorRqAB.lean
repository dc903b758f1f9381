/- Mac of a symbolic box. ring: a Ring in memory over a symbolic box. -/
import Derived.Test.YtcjjhaonogfcjaaDoorBqM
import Derived.Test.YtcjjhaonogfcjaaDoorRkB
set_option maxRecDepth 100000
namespace Go.Proofs.YtcjjhaonogfcjaaDoor
open Go.RowKit
attribute [local go_sem] Oper.semAt_some
theorem EnR.after {w w1 w' : World} {base b m : Nat} {rv : Value} {sym full : Bool} {tag : List UInt8} {es : List EnL} {r : Ending} (hb : Below w.heap.size w w1) (h : EnR w1 base b m rv sym tag full es r w') : EnR w base b m rv sym tag full es r w' := by
  obtain ⟨v, rv', h1, h2, h3, h4, h5, h6⟩ := h
  have hz := hb.size
  refine ⟨v, rv', h1, h2.lower hz, h3, (Trs.of_below hb).trans h4, ?_, h6⟩
  rcases h5 with h | h | ⟨k, h, hk⟩
  · exact .inl h
  · exact .inr (.inl h)
  · exact .inr (.inr ⟨k, h, by omega⟩)
def macE (key l : List UInt8) : EnL := ⟨2, key, l, 0, [], []⟩
theorem macE_ok {key l : List UInt8} (h1 : key.length ≤ 100000) (h2 : l.length ≤ 100000) : OkE (macE key l) :=
  ⟨by simp [macE], by simp [macE], by simp [macE], by simp [macE], by show key.length ≤ 1000000; omega, by show l.length ≤ 1000000; omega, by simp [macE], by simp [macE]⟩
set_option maxHeartbeats 4000000 in
theorem mac_sym {w : World} {base b m B Bk : Nat} {rv kv v : Value} {full : Bool} {es : List EnL} {key : List UInt8} {ls : List (List UInt8)} (h : BX w base b m rv true full es) (hk : OwnB w Bk kv key) (hkd : ∀ k, kv.ownBlock = some k → k ∉ bS b m rv) (hkl : key.length ≤ 100000) (hv : Sls w B v ls) (hn : ls.length ≤ 100000) (hl : Lib.lens ls ≤ 100000) (hB : base ≤ w.heap.size) (hvB : B ≤ w.heap.size) :
    Calls Tryd.prog 15 #[tP b, kv, v] w (EnR w base b m rv true (tagE es (macE key ls.flatten)) (fullE full es (macE key ls.flatten)) (esE es (macE key ls.flatten))) := by
  have hlen : ls.flatten.length ≤ 100000 := by rw [List.length_flatten]; exact hl
  have HJ := Lib.hid (fun (W : World) (hW : Below w.heap.size w W) => join_any (hv.below hW hvB) hn (show Lib.lens ls ≤ 1000000 by omega))
  obtain ⟨L, hL⟩ : ∃ L, L = ls.flatten := ⟨_, rfl⟩
  rw [← hL] at HJ hlen ⊢
  clear hL
  have k0 := h.blk.at (o := 0) rfl
  have HX := Lib.hid h
  have HK := Lib.hid hk
  have HKD := Lib.hid hkd
  have he := macE_ok hkl hlen
  clear h
  obtain ⟨A, c, rfl, _⟩ := hv
  obtain ⟨KA, kc, rfl, -⟩ := hk.sl
  clear hk hkd
  go_enter Tryd.func15, Tryd.ntmps15
  go_wp2_with fail
  refine wp_region_noPanic ?_
  refine wp_region_held (S := fun W' => (convert 22 9 (.slice KA key.length kc)).run Tryd.prog W' = .ok (str key) W') (by kernel_rfl) ?_
  change wpAnyH _ _ _ _ _ _ _ _ (World.drew _)
  obtain ⟨X0, hX0⟩ : ∃ X, X = World.drew w := ⟨_, rfl⟩
  have HB0 := Lib.hid (show Below w.heap.size w X0 from by rw [hX0]; exact (Below.refl _ _).drew)
  rw [← hX0]
  clear hX0
  have HX0 := Lib.hid (conv_sl (HK.out.below HB0.out).sl)
  refine takeH 0 17 (tP b) rfl rfl (by kernel_rfl) (by kernel_rfl) (by kernel_rfl) (fun _ _ _ h => h) rfl (fun w' h => by go_simp) HX0.out ?_
  go_frame
  refine takeH 1 18 (.slice KA key.length kc) rfl rfl (by kernel_rfl) (by kernel_rfl) (by kernel_rfl) (fun _ _ _ h => h) rfl (fun w' h => by go_simp) HX0.out ?_
  go_frame
  refine takeH 2 19 (str key) rfl rfl (by kernel_rfl) (by kernel_rfl) (by kernel_rfl) (fun _ _ _ h => h) rfl (fun w' h => by go_simp) HX0.out ?_
  go_frame
  refine takeH 3 20 (.slice A ls.length c) rfl rfl (by kernel_rfl) (by kernel_rfl) (by kernel_rfl) (fun _ _ _ h => h) rfl (fun w' h => by go_simp) HX0.out ?_
  go_frame
  refine wpAnyH_all (rs := [4]) (by kernel_rfl) (by simp) ?_
  simp only [List.mem_singleton, forall_eq]
  refine wpOp_callD 21 rfl rfl rfl 22 #[.slice A ls.length c] (by go_simp) ?_
  refine (HJ.out X0 HB0.out).mono ?_
  rintro e X1 ⟨rfl, hb1⟩
  have HB1 := Lib.hid (HB0.out.trans (hb1.mono HB0.out.size))
  clear hb1 HX0
  have HX0 := Lib.hid (conv_sl (HK.out.below HB1.out).sl)
  refine ⟨_, rfl, HX0.out, ?_⟩
  go_frame
  refine takeH 5 22 (eagg (macE key L)) rfl rfl (by kernel_rfl) (by kernel_rfl) (by kernel_rfl) (fun _ _ _ h => h) rfl (fun w' h => by unfold macE; go_simp) HX0.out ?_
  go_frame
  refine wpAnyH_all (rs := [6]) (by kernel_rfl) (by simp) ?_
  simp only [List.mem_singleton, forall_eq]
  refine wpOp_callD 23 rfl rfl rfl 21 #[tP b, eagg (macE key L)] (by go_simp) ?_
  refine (enter_any (macE key L) (HX.out.below HB1.out) he (by have := HB1.out.size; omega)).mono ?_
  intro e X2 hR
  have HR := Lib.hid (hR.after HB1.out)
  have HT := Lib.hid (show Trs (bS b m rv) w X2 from by obtain ⟨_, _, _, _, _, h4, _⟩ := HR.out; exact h4)
  obtain ⟨v', rv', rfl, _⟩ := hR
  clear HX0
  have HX0 := Lib.hid (conv_sl (HK.out.trsV HT.out HKD.out).sl)
  refine ⟨_, rfl, HX0.out, ?_⟩
  go_frame
  refine takeH 7 6 (v') rfl rfl (by kernel_rfl) (by kernel_rfl) (by kernel_rfl) (fun _ _ _ h => h) rfl (fun w' h => by go_simp) HX0.out ?_
  go_frame
  refine wpAnyH_done (by kernel_rfl) ?_ _
  refine NoPanic.normal ?_
  go_wp2_with fail
  go_ret
  exact HR.out
end Go.Proofs.YtcjjhaonogfcjaaDoor
set_option maxRecDepth 100000
namespace Go.Proofs.YtcjjhaonogfcjaaDoor
open Go.RowKit
/-- Where a key's bytes lie. -/
abbrev qv (q : KyL) : Value := .slice q.A q.m q.c
/-- A Ring at block r over a box at block b; the key of epoch 1, as long as it is there, is K1. -/
structure RQ (w : World) (base r b : Nat) (V MV : Value) (room last : Nat) (L : List KyL) (key K1 : List UInt8) : Prop where
  blk : Blk w r (rgCs b MV room last V)
  own : OwnY tKy w base V L
  mst : OwnB w base MV key
  ks : ∀ q ∈ L, q.n = 1 → OwnB w base (qv q) K1
  geb : base ≤ r
  ne : r ≠ b
  apv : V.ownBlock ≠ some b
  apm : MV.ownBlock ≠ some r ∧ MV.ownBlock ≠ some b
  apk : ∀ q ∈ L, q.n = 1 → (qv q).ownBlock ≠ some r ∧ (qv q).ownBlock ≠ some b
  kl : key.length ≤ 64
  kk : K1.length ≤ 100
  len : L.length ≤ 100
  rm : room ≤ 8
  lst : last ≤ 1000000
  pow : PowE w
  gp : 0 < base
/-- A row of bytes, of keys, of entries are three rows. -/
theorem OwnB.heapT {w : World} {B : Nat} {v : Value} {l : List UInt8} (h : OwnB w B v l) {k : Nat} (hk : v.ownBlock = some k) : ∃ cur, w.heap[k]? = some (.cells cur 5 (0, 0)) := by
  obtain ⟨_, ⟨rfl, _⟩ | ⟨g, cap, cur, rfl, _, hg, _⟩⟩ := h
  · cases hk
  · cases hk; exact ⟨cur, hg⟩
theorem OwnY.heapT {t : TypeId} {w : World} {B : Nat} {v : Value} {l : List KyL} (h : OwnY t w B v l) {k : Nat} (hk : v.ownBlock = some k) : ∃ cur, w.heap[k]? = some (.cells cur t (0, 0)) ∧ cur.size % 2 = 0 := by
  obtain ⟨_, ⟨rfl, _⟩ | ⟨g, cap, cur, rfl, _, hg, _, _, hs, _⟩⟩ := h
  · cases hk
  · cases hk; exact ⟨cur, hg, by omega⟩
theorem OwnE.heapT {w : World} {B : Nat} {v : Value} {l : List EnL} (h : OwnE w B v l) {k : Nat} (hk : v.ownBlock = some k) : ∃ cur, w.heap[k]? = some (.cells cur tEn (0, 0)) ∧ cur.size % 6 = 0 := by
  obtain ⟨_, ⟨rfl, _⟩ | ⟨g, cap, cur, rfl, _, hg, _, _, hs, _⟩⟩ := h
  · cases hk
  · cases hk; exact ⟨cur, hg, by omega⟩
theorem MpE.notCells {w : World} {m : Nat} {es : List EnL} (h : MpE w m es) {cur : Array Value} {t : TypeId} {f : Nat × Nat} (hc : w.heap[m]? = some (.cells cur t f)) : False := by
  obtain ⟨xs, c, hm⟩ := h.isMap
  rw [hm] at hc; cases hc
section
variable {w w' : World} {base r b m room last : Nat} {V MV rv : Value} {full : Bool} {L : List KyL} {es : List EnL} {key K1 : List UInt8}
theorem RQ.vr (h : RQ w base r b V MV room last L key K1) : V.ownBlock ≠ some r := fun e => by
  obtain ⟨cur, h1, h2⟩ := h.own.heapT e
  obtain ⟨t, h3⟩ := h.blk
  rw [h3] at h1
  cases h1
  simp [rgCs] at h2
theorem bytes_ky {B C : Nat} {v u : Value} {l : List UInt8} (h1 : OwnB w B v l) (h2 : OwnY tKy w C u L) {k : Nat} (hk : v.ownBlock = some k) : u.ownBlock ≠ some k := fun e => by
  obtain ⟨c1, p1⟩ := h1.heapT hk
  obtain ⟨c2, p2, _⟩ := h2.heapT e
  rw [p1] at p2
  exact absurd (show 5 = tKy from by injection p2 with p2; injection p2) (by decide)
/-- Bytes are no block that a box turns but perhaps the box itself. -/
theorem bytes_bS {B : Nat} {v : Value} {l : List UInt8} (h1 : OwnB w B v l) (hX : BX w base b m rv true full es) (hb : v.ownBlock ≠ some b) : ∀ k, v.ownBlock = some k → k ∉ bS b m rv := fun k hk hm => by
  obtain ⟨c1, p1⟩ := h1.heapT hk
  rcases mem_bS.1 hm with rfl | rfl | e
  · exact hb hk
  · exact hX.mp.notCells p1
  · obtain ⟨c2, p2, _⟩ := hX.row.heapT e
    rw [p1] at p2
    exact absurd (show 5 = tEn from by injection p2 with p2; injection p2) (by decide)
theorem bytes_rgS {B : Nat} {v : Value} {l : List UInt8} (h1 : OwnB w B v l) (h : RQ w base r b V MV room last L key K1) (hr : v.ownBlock ≠ some r) : ∀ k, v.ownBlock = some k → k ∉ rgS r V := fun k hk hm => by
  rcases mem_rgS.1 hm with rfl | e
  · exact hr hk
  · exact bytes_ky h1 h.own hk e
theorem RQ.offB (h : RQ w base r b V MV room last L key K1) (hX : BX w base b m rv true full es) : r ∉ bS b m rv ∧ (∀ k, V.ownBlock = some k → k ∉ bS b m rv) ∧ (∀ k, MV.ownBlock = some k → k ∉ bS b m rv) ∧ (∀ q ∈ L, q.n = 1 → ∀ k, (qv q).ownBlock = some k → k ∉ bS b m rv) := by
  refine ⟨fun hm => ?_, fun k hk hm => ?_, bytes_bS h.mst hX h.apm.2, fun q hq hn => bytes_bS (h.ks q hq hn) hX (h.apk q hq hn).2⟩
  · obtain ⟨t, h3⟩ := h.blk
    rcases mem_bS.1 hm with e | e | e
    · exact h.ne e
    · subst e; exact hX.mp.notCells h3
    · obtain ⟨c2, p2, p3⟩ := hX.row.heapT e
      rw [h3] at p2
      cases p2
      simp [rgCs] at p3
  · obtain ⟨c1, p1, _⟩ := h.own.heapT hk
    rcases mem_bS.1 hm with rfl | rfl | e
    · exact h.apv hk
    · exact hX.mp.notCells p1
    · obtain ⟨c2, p2, _⟩ := hX.row.heapT e
      rw [p1] at p2
      exact absurd (show tKy = tEn from by injection p2 with p2; injection p2) (by decide)
theorem RQ.trs {S : List Nat} (h : RQ w base r b V MV room last L key K1) (ht : Trs S w w') (hS : r ∉ S ∧ (∀ k, V.ownBlock = some k → k ∉ S) ∧ (∀ k, MV.ownBlock = some k → k ∉ S) ∧ (∀ q ∈ L, q.n = 1 → ∀ k, (qv q).ownBlock = some k → k ∉ S)) (hg : ∀ k ∈ S, base ≤ k) : RQ w' base r b V MV room last L key K1 :=
  ⟨ht.blk h.blk hS.1, h.own.trs ht hS.2.1, h.mst.trsV ht hS.2.2.1, fun q hq hn => (h.ks q hq hn).trsV ht (hS.2.2.2 q hq hn), h.geb, h.ne, h.apv, h.apm, h.apk, h.kl, h.kk, h.len, h.rm, h.lst, h.pow.trs ht (fun hk => by have := hg _ hk; have := h.gp; omega), h.gp⟩
theorem RQ.below (h : RQ w base r b V MV room last L key K1) (hb : Below w.heap.size w w') : RQ w' base r b V MV room last L key K1 :=
  h.trs (S := []) (Trs.of_below hb) ⟨by simp, fun _ _ => by simp, fun _ _ => by simp, fun _ _ _ _ _ => by simp⟩ (fun _ hk => by simp at hk)
theorem BX.ge (hX : BX w base b m rv true full es) : ∀ k ∈ bS b m rv, base ≤ k ∧ k < w.heap.size := fun k hk => by
  rcases mem_bS.1 hk with rfl | rfl | e
  · exact ⟨hX.bb, hX.blk.lt⟩
  · exact ⟨hX.bm, hX.mp.lt⟩
  · exact World.ownsRow.lt hX.row k e
/-- The box has turned. -/
theorem RQ.box (h : RQ w base r b V MV room last L key K1) (hX : BX w base b m rv true full es) (ht : Trs (bS b m rv) w w') : RQ w' base r b V MV room last L key K1 :=
  h.trs ht (h.offB hX) (fun k hk => (hX.ge k hk).1)
theorem RQ.inS (h : RQ w base r b V MV room last L key K1) : ∀ k ∈ rgS r V, base ≤ k ∧ k < w.heap.size := by
  intro k hk
  rcases mem_rgS.1 hk with rfl | hk
  · exact ⟨h.geb, h.blk.lt⟩
  · exact h.own.lt k hk
theorem RQ.size (h : RQ w base r b V MV room last L key K1) : base ≤ w.heap.size := Nat.le_trans h.geb (Nat.le_of_lt h.blk.lt)
/-- The ring has turned. -/
theorem BX.ring (hX : BX w base b m rv true full es) (h : RQ w base r b V MV room last L key K1) (ht : Trs (rgS r V) w w') : BX w' base b m rv true full es := by
  have ho := h.offB hX
  have key : ∀ k ∈ bS b m rv, k ∉ rgS r V := fun k hk hm => by
    rcases mem_rgS.1 hm with rfl | e
    · exact ho.1 hk
    · exact ho.2.1 k e hk
  exact hX.trs ht (key b (mem_bS.2 (.inl rfl))) (key m (mem_bS.2 (.inr (.inl rfl)))) (fun k hk => key k (mem_bS.2 (.inr (.inr hk))))
theorem RQ.turn (h : RQ w base r b V MV room last L key K1) {V' : Value} {L' : List KyL} {last' : Nat} (hk : Blk w' r (rgCs b MV room last' V')) (ho : OwnY tKy w' base V' L')
    (hs : ∀ q ∈ L', q.n = 1 → OwnB w' base (qv q) K1) (hp : ∀ q ∈ L', q.n = 1 → (qv q).ownBlock ≠ some r ∧ (qv q).ownBlock ≠ some b)
    (ap : V'.ownBlock ≠ some b) (hl : L'.length ≤ 100) (hn : last' ≤ 1000000) (ht : Trs (rgS r V) w w') : RQ w' base r b V' MV room last' L' key K1 :=
  ⟨hk, ho, h.mst.trsV ht (bytes_rgS h.mst h h.apm.1), hs, h.geb, h.ne, ap, h.apm, hp, h.kl, h.kk, hl, h.rm, hn, h.pow.trs ht (fun hk => by have := (h.inS _ hk).1; have := h.gp; omega), h.gp⟩
theorem RQ.keys (h : RQ w base r b V MV room last L key K1) (ht : Trs (rgS r V) w w') : ∀ q ∈ L, q.n = 1 → OwnB w' base (qv q) K1 :=
  fun q hq hn => (h.ks q hq hn).trsV ht (bytes_rgS (h.ks q hq hn) h (h.apk q hq hn).1)
theorem RQ.num (h : RQ w base r b V MV room last L key K1) (N : Nat) (hN : N ≤ 1000000) : RQ (w.setCell ⟨r, 3, none⟩ (.int .u64 (N : Int))) base r b V MV room N L key K1 ∧ Trs (rgS r V) w (w.setCell ⟨r, 3, none⟩ (.int .u64 (N : Int))) := by
  have ht := (Trs.refl (rgS r V) w).set (p := ⟨r, 3, none⟩) (mem_rgS.2 (.inl rfl)) (.int .u64 (N : Int))
  exact ⟨h.turn (h.blk.set 3 _) (World.ownsRow.kept h.own (grown_set w ⟨r, 3, none⟩ _) (.inr h.vr)) (h.keys ht) h.apk h.apv h.len hN ht, ht⟩
theorem RQ.push {w4 : World} {V5 : Value} (h : RQ w base r b V MV room last L key K1) (e : KyL) (hl : L.length + 1 ≤ 100) (hO : OwnY tKy w4 base V5 (L ++ [e])) (hg : w.grownBy w4 V.ownBlock) (ho : V5.ownBlock = V.ownBlock ∨ V5.ownBlock = some w.heap.size)
    (he : e.n = 1 → OwnB w base (qv e) K1 ∧ (qv e).ownBlock ≠ some r ∧ (qv e).ownBlock ≠ some b) (hbl : b < w.heap.size) :
    RQ (w4.setCell ⟨r, 4, none⟩ V5) base r b V5 MV room last (L ++ [e]) key K1 ∧ Trs (rgS r V) w (w4.setCell ⟨r, 4, none⟩ V5) ∧ (V5.ownBlock = V.ownBlock ∨ ∀ k, V5.ownBlock = some k → w.heap.size ≤ k) := by
  have hrl := h.blk.lt
  have ht1 : Trs (rgS r V) w w4 := (Trs.refl _ w).grown hg (fun k hk => mem_rgS.2 (.inr hk))
  have ht2 := ht1.set (p := ⟨r, 4, none⟩) (mem_rgS.2 (.inl rfl)) V5
  have h5r : V5.ownBlock ≠ some r := by
    rcases ho with e | e
    · rw [e]; exact h.vr
    · rw [e]; intro e2; have := Option.some.inj e2; omega
  have h5b : V5.ownBlock ≠ some b := by
    rcases ho with e | e
    · rw [e]; exact h.apv
    · rw [e]; intro e2; have := Option.some.inj e2; omega
  refine ⟨h.turn ((h.blk.grown hg (fun e => h.vr e.symm)).set 4 V5) (World.ownsRow.kept hO (grown_set w4 ⟨r, 4, none⟩ V5) (.inr h5r)) ?_ ?_ h5b (by rw [List.length_append, List.length_singleton]; exact hl) h.lst ht2, ht2, ?_⟩
  · intro q hq hn
    rcases List.mem_append.1 hq with hq | hq
    · exact h.keys ht2 q hq hn
    · rw [List.mem_singleton] at hq
      subst hq
      exact (he hn).1.trsV ht2 (bytes_rgS (he hn).1 h (he hn).2.1)
  · intro q hq hn
    rcases List.mem_append.1 hq with hq | hq
    · exact h.apk q hq hn
    · rw [List.mem_singleton] at hq
      subst hq
      exact (he hn).2
  · rcases ho with e | e
    · exact .inl e
    · exact .inr (fun k hk => by rw [e] at hk; have := Option.some.inj hk; omega)
theorem RQ.gone {w6 : World} {g n n' cap : Nat} {L6 : List KyL} (h : RQ w base r b (.slice (some ⟨g, 0, none⟩) n cap) MV room last L key K1) (hO : OwnY tKy w6 base (.slice (some ⟨g, 0, none⟩) n' cap) L6) (hg : w.grownBy w6 (some g)) (hl : L6.length ≤ 100) (hsub : ∀ q ∈ L6, q ∈ L) :
    RQ (w6.setCell ⟨r, 4, none⟩ (.slice (some ⟨g, 0, none⟩) n' cap)) base r b (.slice (some ⟨g, 0, none⟩) n' cap) MV room last L6 key K1 ∧ Trs (rgS r (.slice (some ⟨g, 0, none⟩) n cap)) w (w6.setCell ⟨r, 4, none⟩ (.slice (some ⟨g, 0, none⟩) n' cap)) := by
  have hgr : g ≠ r := fun e => h.vr (by rw [e]; rfl)
  have ht1 : Trs (rgS r (.slice (some ⟨g, 0, none⟩) n cap)) w w6 := (Trs.refl _ w).grown hg (fun k hk => mem_rgS.2 (.inr (by rw [← hk]; rfl)))
  have ht2 := ht1.set (p := ⟨r, 4, none⟩) (mem_rgS.2 (.inl rfl)) (.slice (some ⟨g, 0, none⟩) n' cap)
  exact ⟨h.turn ((h.blk.grown hg (fun e => hgr (Option.some.inj e).symm)).set 4 _) (World.ownsRow.kept hO (grown_set w6 ⟨r, 4, none⟩ _) (.inr (fun e => hgr (Option.some.inj e)))) (fun q hq => h.keys ht2 q (hsub q hq)) (fun q hq => h.apk q (hsub q hq)) h.apv hl h.lst ht2, ht2⟩
end
end Go.Proofs.YtcjjhaonogfcjaaDoor
