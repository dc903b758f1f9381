/- The reference's Reader: Next. -/
import Derived.Test.YtgldfobfchnkeaaFrRR
namespace Go.Proofs.Ytgldfobfchnkeaa
open Go.RowKit

theorem Sl.back {w w2 : World} {B : Nat} {v : Value} {l : List UInt8} (h : Sl w2 B v l) (hb : Below B w w2) : Sl w B v l := by
  obtain ⟨A, c, rfl, h0, h1, h2, h3⟩ := h
  refine ⟨A, c, rfl, h0, h1, h2, fun hl => ?_⟩
  obtain ⟨b, o, e, hlt, hbs⟩ := h3 hl
  exact ⟨b, o, e, hlt, fun j hj => (hb.cell (p := ⟨b, o + j, none⟩) hlt).symm.trans (hbs j hj)⟩
theorem Sl.chg {w w2 : World} {B g : Nat} {V v : Value} {l : List UInt8} (h : Sl w B v l) (hc : Chg w w2 g V) (hB : B ≤ w.heap.size) (hg : v.ownBlock ≠ some g) (hV : V.ownBlock = none ∨ V.ownBlock ≠ v.ownBlock) : Sl w2 B v l := by
  obtain ⟨A, c, rfl, h0, h1, h2, h3⟩ := h
  refine ⟨A, c, rfl, h0, h1, h2, fun hl => ?_⟩
  obtain ⟨b, o, rfl, hlt, hbs⟩ := h3 hl
  refine ⟨b, o, rfl, hlt, fun j hj => ?_⟩
  have hk := hc.block b (by omega) (fun e => hg (by rw [e]; rfl)) (fun e => by rcases hV with h' | h'; rw [h'] at e; cases e; exact h' (by rw [e]; rfl))
  exact (World.cell?_of_block (a := ⟨b, o + j, none⟩) hk).trans (hbs j hj)
/-- What stands behind the first k bytes, and where it lies. -/
theorem slice_fromO (a : Addr) (n c k : Nat) (K : Int) (hK : K = (k : Int)) (hk : k ≤ n) (hn : n ≤ c) : ∃ V, (∀ w, (Instr.slice 22 (.slice (some a) n c) (some (.int .i64 K)) none none).run Try.prog w = .ok V w) ∧
    (∀ w B l, Sl w B (.slice (some a) n c) l → l.length = n → Sl w B V (l.drop k)) ∧ V.ownBlock = some a.block := by
  obtain ⟨V, h1, h2⟩ := slice_from (some a) n c k K hK hk hn
  refine ⟨V, h1, h2, ?_⟩
  subst hK
  have e : (Instr.slice 22 (.slice (some a) n c) (some (.int .i64 (k : Int))) none none).run Try.prog default = .ok (sliced (some a) k n c 1) default := by
    rw [run_slice_l default 22 (some a) n c Try.underlying22 .i64 k (by omega) (by omega)]
    simp [go_sem]
  rw [h1] at e
  injection e with e1 _
  rw [e1]
  unfold sliced
  by_cases h : c = k
  · rw [if_pos h]; rfl
  · rw [if_neg h]
    show some (a.add _).block = _
    unfold Addr.add
    split <;> rfl
/-- What the reference's Unpack answers, with where the rest lies. -/
def UnO (v : Value) (k : UInt8) (body rest : List UInt8) (B base : Nat) (e : Ending) (w' : World) : Prop :=
  ∃ v' r', e = .returned (.tuple #[.agg #[vb k, v'], r', .int .i64 0]) ∧ OwnB w' base v' body ∧ Sl w' B r' rest ∧ r'.ownBlock = v.ownBlock
set_option maxRecDepth 100000 in
set_option maxHeartbeats 1000000 in
theorem unpackRef_own (B : Nat) (v : Value) (k a b : UInt8) (r : List UInt8) (w : World) (hv : Sl w B v (k :: a :: b :: r)) (hB : B ≤ w.heap.size) (hl : r.length ≤ 1000000) (h1 : 1 ≤ bn k) (h2 : bn k ≤ 15) (h3 : num2 a b ≤ 2048) (h4 : num2 a b ≤ r.length) :
    Calls Try.prog 16 #[v] w fun e w' => UnO v k (r.take (num2 a b)) (r.drop (num2 a b)) B w.heap.size e w' ∧ Below w.heap.size w w' := by
  have HV := Lib.hid hv
  obtain ⟨A, cp, rfl, _, k1, k2, _⟩ := hv
  obtain ⟨g, o, rfl, hg, c0, _, _⟩ := HV.out.head3
  have hg' : g < w.heap.size := by omega
  have hlen : (k :: a :: b :: r).length = r.length + 3 := by simp
  rw [hlen] at k1 HV ⊢
  obtain ⟨V, hrun, hsl, hform⟩ := slice_mid (some ⟨g, o, none⟩) (r.length + 3) cp 1 3 1 3 rfl rfl (by omega) (by omega) k1
  have HS : Hid (∀ W, Below w.heap.size w W → Sl W w.heap.size V [a, b]) := Lib.hid fun W hW => by
    have := hsl W w.heap.size _ ((HV.out.more hB).below hW (Nat.le_refl _)) (by simp)
    simpa using this
  obtain ⟨V2, hrun2, hsl2, _⟩ := slice_mid (some ⟨g, o, none⟩) (r.length + 3) cp 3 (3 + num2 a b) 3 (3 + (num2 a b : Int)) rfl (by omega) (by omega) (by omega) k1
  have HS2 : Hid (∀ W, Below w.heap.size w W → Sl W w.heap.size V2 (r.take (num2 a b))) := Lib.hid fun W hW => by
    have := hsl2 W w.heap.size _ ((HV.out.more hB).below hW (Nat.le_refl _)) (by simp)
    simpa using this
  obtain ⟨V3, hrun3, hsl3, hown3⟩ := slice_fromO ⟨g, o, none⟩ (r.length + 3) cp (3 + num2 a b) (3 + (num2 a b : Int)) (by omega) (by omega) k1
  have HS3 : Hid (∀ W, Below w.heap.size w W → Sl W B V3 (r.drop (num2 a b))) := Lib.hid fun W hW => by
    have := hsl3 W B _ (HV.out.below hW hB) (by simp)
    rw [show 3 + num2 a b = num2 a b + 3 from by omega] at this
    simpa using this
  clear hlen hsl hsl2 hsl3 hform
  have Htl : Hid ((r.take (num2 a b)).length ≤ 1000000) := Lib.hid (by rw [List.length_take]; omega)
  obtain ⟨body, hbody⟩ : ∃ x, x = r.take (num2 a b) := ⟨_, rfl⟩
  obtain ⟨rest, hrest⟩ : ∃ x, x = r.drop (num2 a b) := ⟨_, rfl⟩
  rw [← hbody] at HS2 Htl ⊢
  rw [← hrest] at HS3 ⊢
  clear hbody hrest
  have h0 : ((bn k : Int) == 0) = false := by simp; omega
  have h3' : (num2 a b : Int) ≤ 2048 := by omega
  have h5 : ¬ (r.length : Int) + 3 < 3 + (num2 a b : Int) := by omega
  have HB0 := Lib.hid ((Below.refl w.heap.size w).alloc (Nat.le_refl _) (.cells #[.int .u8 0, .slice none 0 0] 33))
  have HK0 := Lib.hid (Blk.new w [.int .u8 0, .slice none 0 0] 33)
  go_enter Try.func16, Try.ntmps16
  go_wp2_with (go_at_call 29; refine (numRef w.heap.size V a b _ (HS.out _ ((Below.refl _ _).alloc (Nat.le_refl _) _))).mono ?_; rintro e w' ⟨rfl, rfl⟩)
  have hwr : IntKind.i64.wrap (3 + (num2 a b : Int)) = 3 + (num2 a b : Int) := IntWalk.i64_in _ ⟨by omega, by omega⟩
  have hix : (0 : Int) < (r.length : Int) + 3 := by omega
  have hix2 : 0 < r.length + 3 := by omega
  go_region_held3 (fun w' => w'.cell? ⟨g, o, none⟩ = some (vb k)) (first | go_keep | exact hd0 | exact ((((Below.refl w.heap.size w2).setCell (p := ⟨w.heap.size, 0, none⟩) (Nat.le_refl _) _).setCell (p := ⟨w.heap.size, 1, none⟩) (Nat.le_refl _) _).cell (p := ⟨g, o, none⟩) hg').trans hd0)
    ((go_at_call 10; refine (copy_any w.heap.size V2 body _ (HS2.out _ HB0.out.drew) (by simp) Htl.out).mono ?_; rintro e w2 ⟨v', rfl, hO, hb⟩; obtain ⟨A2, d2, rfl, _, _, _, _⟩ := hO.sl; have hk := HK0.out.drew.below hb (by simp); have hk0 := hk.at (o := 0) rfl; have hk1 := hk.at (o := 1) rfl; have hf0 := hk.free 0; have hf1 := hk.free 1; have hd0 : w2.cell? ⟨g, o, none⟩ = some (vb k) := ((HB0.out.drew.trans (hb.mono (by simp))).cell (p := ⟨g, o, none⟩) hg').trans c0; have hO2 := Lib.hid hO; clear hO; have Hb2 := Lib.hid hb; clear hb; have HK := Lib.hid hk; clear hk))
  all_goals
    go_wp2_with fail
    refine bodyPost_ret (v := .tuple #[.agg #[vb k, .slice A2 body.length d2], V3, .int .i64 0]) (by simp [results, Try.results16, go_sem, hk0, hk1]) rfl ⟨?_, ?_⟩
    · refine ⟨_, _, rfl, ?_, ?_, hown3⟩
      · have := ((hO2.out.setLow ⟨w.heap.size, 0, none⟩ (by simp) (.int .u8 (bn k))).setLow ⟨w.heap.size, 1, none⟩ (by simp) (.slice A2 body.length d2)).lower (base' := w.heap.size) (by simp)
        exact this
      · exact HS3.out _ (((HB0.out.drew.trans (Hb2.out.mono (by simp))).setCell (Nat.le_refl _) _).setCell (Nat.le_refl _) _)
    · exact ((HB0.out.drew.trans (Hb2.out.mono (by simp))).setCell (Nat.le_refl _) _).setCell (Nat.le_refl _) _
set_option maxRecDepth 100000 in
set_option maxHeartbeats 1000000 in
theorem rnext_nil (w : World) : Calls Try.prog 19 #[.pointer none] w fun e w' => e = .returned (.tuple #[.agg #[.int .u8 0, .slice none 0 0], .int .i64 6]) ∧ Below w.heap.size w w' := by
  go_enter Try.func19, Try.ntmps19
  go_wp2_with fail
  refine bodyPost_ret (v := .tuple #[.agg #[.int .u8 0, .slice none 0 0], .int .i64 6]) (by simp [results, Try.results19, go_sem]) rfl ⟨rfl, ?_⟩
  exact (Below.refl _ _).alloc (Nat.le_refl _) _
set_option maxRecDepth 100000 in
set_option maxHeartbeats 1000000 in
theorem rnext_bad {w : World} {g bad : Nat} {V : Value} (h : Blk w g [V, .int .i64 (bad : Int)]) (hb : bad ≠ 0) : Calls Try.prog 19 #[.pointer (some ⟨g, 0, none⟩)] w fun e w' => e = .returned (.tuple #[.agg #[.int .u8 0, .slice none 0 0], .int .i64 (bad : Int)]) ∧ Below w.heap.size w w' := by
  have c1 := h.at (o := 1) rfl
  have hlt := h.lt
  clear h
  have hb2 : ((bad : Int) != 0) = true := by simp; omega
  have hne : g ≠ w.heap.size := by omega
  go_enter Try.func19, Try.ntmps19
  go_wp2_with fail
  go_region
  all_goals
    go_wp2_with fail
    refine bodyPost_ret (v := .tuple #[.agg #[.int .u8 0, .slice none 0 0], .int .i64 (bad : Int)]) (by simp [results, Try.results19, go_sem]) rfl ⟨rfl, ?_⟩
    exact ((Below.refl _ _).alloc (Nat.le_refl _) _).drew
set_option maxRecDepth 100000 in
set_option maxHeartbeats 1000000 in
theorem rnext_short {w : World} {g : Nat} {V : Value} {l : List UInt8} (h : Blk w g [V, .int .i64 0]) (hs : Sl w w.heap.size V l) (hl : l.length ≤ 8192) (hu : un l = .no 2) : Calls Try.prog 19 #[.pointer (some ⟨g, 0, none⟩)] w fun e w' => e = .returned (.tuple #[.agg #[.int .u8 0, .slice none 0 0], .int .i64 2]) ∧ Below w.heap.size w w' := by
  have c0 := h.at (o := 0) rfl
  have c1 := h.at (o := 1) rfl
  have hlt := h.lt
  have hne : g ≠ w.heap.size := by omega
  have HB0 := Lib.hid ((Below.refl w.heap.size w).alloc (Nat.le_refl _) (.cells #[.int .u8 0, .slice none 0 0] 33))
  have HK0 := Lib.hid (Blk.new w [.int .u8 0, .slice none 0 0] 33)
  have HS := Lib.hid hs
  obtain ⟨A, c, rfl, _, _, _, _⟩ := hs
  have HU := Lib.hid (unpackRef_any w.heap.size (.slice A l.length c) l _ (HS.out.below HB0.out (Nat.le_refl _)) (by simp) (by omega))
  rw [hu] at HU
  clear h hu
  go_enter Try.func19, Try.ntmps19
  go_wp2_with (go_at_call 16; refine HU.out.mono ?_; rintro e w2 ⟨rfl, hb⟩; have hk := HK0.out.below hb (by simp); have hk0 := hk.at (o := 0) rfl; have hk1 := hk.at (o := 1) rfl; have hf0 := hk.free 0; have hf1 := hk.free 1; have HB2 := Lib.hid (HB0.out.trans (hb.mono (by simp))); clear hb; have hsz : w.heap.size < w2.heap.size := hk.lt; clear hk)
  refine bodyPost_ret (v := .tuple #[.agg #[.int .u8 0, .slice none 0 0], .int .i64 2]) (by simp [results, Try.results19, go_sem, hk0, hk1, hsz]) rfl ⟨rfl, ?_⟩
  exact ((HB2.out.setCell (Nat.le_refl _) _).setCell (Nat.le_refl _) _).alloc (Nat.le_of_lt (by simpa using hsz)) _
set_option maxRecDepth 100000 in
set_option maxHeartbeats 1000000 in
theorem rnext_err {w : World} {g : Nat} {V : Value} {l : List UInt8} (h : Blk w g [V, .int .i64 0]) (hs : Sl w w.heap.size V l) (hl : l.length ≤ 8192) (c : Nat) (hc : c = 1 ∨ c = 3) (hu : un l = .no c) : Calls Try.prog 19 #[.pointer (some ⟨g, 0, none⟩)] w fun e w' => e = .returned (.tuple #[.agg #[.int .u8 0, .slice none 0 0], .int .i64 (c : Int)]) ∧ Blk w' g [.slice none 0 0, .int .i64 (c : Int)] ∧ Chg w w' g (.slice none 0 0) := by
  have c0 := h.at (o := 0) rfl
  have c1 := h.at (o := 1) rfl
  have hlt := h.lt
  have hne : g ≠ w.heap.size := by omega
  have HR := Lib.hid h
  have HB0 := Lib.hid ((Below.refl w.heap.size w).alloc (Nat.le_refl _) (.cells #[.int .u8 0, .slice none 0 0] 33))
  have HK0 := Lib.hid (Blk.new w [.int .u8 0, .slice none 0 0] 33)
  have HS := Lib.hid hs
  obtain ⟨A, cp, rfl, _, _, _, _⟩ := hs
  have HU := Lib.hid (unpackRef_any w.heap.size (.slice A l.length cp) l _ (HS.out.below HB0.out (Nat.le_refl _)) (by simp) (by omega))
  rw [hu] at HU
  clear h hu
  rcases hc with rfl | rfl
  all_goals
    go_enter Try.func19, Try.ntmps19
    go_wp2_with (go_at_call 16; refine HU.out.mono ?_; rintro e w2 ⟨rfl, hb⟩; have hk := HK0.out.below hb (by simp); have hk0 := hk.at (o := 0) rfl; have hk1 := hk.at (o := 1) rfl; have hf0 := hk.free 0; have hf1 := hk.free 1; have HB2 := Lib.hid (HB0.out.trans (hb.mono (by simp))); clear hb; have hsz : w.heap.size < w2.heap.size := hk.lt; clear hk; have hg2 := HR.out.below HB2.out hlt; have hg0 := hg2.at (o := 0) rfl; have hg1 := hg2.at (o := 1) rfl; have hgf0 := hg2.free 0; have hgf1 := hg2.free 1; have HG := Lib.hid hg2; clear hg2; have hgs : g < w2.heap.size := by omega)
    refine bodyPost_ret (v := .tuple #[.agg #[.int .u8 0, .slice none 0 0], .int .i64 _]) (by simp [results, Try.results19, go_sem, hk0, hk1, hsz]) rfl ⟨rfl, ?_, ?_⟩
    · exact (((((HG.out.set 1 _).set 0 _).setOther (a := ⟨w.heap.size, 0, none⟩) (Ne.symm hne) _).setOther (a := ⟨w.heap.size, 1, none⟩) (Ne.symm hne) _).alloc _)
    · exact (((((Chg.of_below HB2.out g _).set 1 _).set 0 _).setNew ⟨w.heap.size, 0, none⟩ (Nat.le_refl _) _).setNew ⟨w.heap.size, 1, none⟩ (Nat.le_refl _) _).alloc _
set_option maxRecDepth 100000 in
set_option maxHeartbeats 1000000 in
theorem rnext_fr {w : World} {g : Nat} {V : Value} {l : List UInt8} (h : Blk w g [V, .int .i64 0]) (hs : Sl w w.heap.size V l) (hl : l.length ≤ 8192) (k : UInt8) (body rest : List UInt8) (hu : un l = .fr k body rest) :
    Calls Try.prog 19 #[.pointer (some ⟨g, 0, none⟩)] w fun e w' => ∃ v' V', e = .returned (.tuple #[.agg #[vb k, v'], .int .i64 0]) ∧ Sl w' w'.heap.size v' body ∧ Blk w' g [V', .int .i64 0] ∧ (Sl w w.heap.size V' rest ∧ V'.ownBlock = V.ownBlock) ∧ Chg w w' g (.slice none 0 0) := by
  have c0 := h.at (o := 0) rfl
  have c1 := h.at (o := 1) rfl
  have hlt := h.lt
  have hne : g ≠ w.heap.size := by omega
  have HR := Lib.hid h
  have HB0 := Lib.hid ((Below.refl w.heap.size w).alloc (Nat.le_refl _) (.cells #[.int .u8 0, .slice none 0 0] 33))
  have HK0 := Lib.hid (Blk.new w [.int .u8 0, .slice none 0 0] 33)
  have HS := Lib.hid hs
  obtain ⟨A, cp, rfl, _, _, _, _⟩ := hs
  have HU : Hid (Calls Try.prog 16 #[.slice A l.length cp] (w.alloc (.cells #[.int .u8 0, .slice none 0 0] 33)) fun e w' => UnO (.slice A l.length cp) k body rest w.heap.size (w.heap.size + 1) e w' ∧ Below (w.alloc (.cells #[.int .u8 0, .slice none 0 0] 33)).heap.size (w.alloc (.cells #[.int .u8 0, .slice none 0 0] 33)) w') := Lib.hid (by
    have hS2 := HS.out.below HB0.out (Nat.le_refl _)
    clear HS
    match l, hu with
    | k' :: x :: y :: r, hu =>
      have h1 : chk k' (num2 x y) = 0 := by
        by_cases h : chk k' (num2 x y) = 0
        · exact h
        · rw [un_bad h] at hu; cases hu
      have h2 : num2 x y ≤ r.length := by
        by_cases h : num2 x y ≤ r.length
        · exact h
        · rw [un_part h1 (by omega)] at hu; cases hu
      rw [un_fr h1 h2] at hu
      injection hu with u1 u2 u3
      subst u1 u2 u3
      rcases chk_cases k' (num2 x y) with ⟨h, _⟩ | ⟨h, _⟩ | ⟨_, g1, g2, g3⟩
      · omega
      · omega
      · have := unpackRef_own w.heap.size _ k' x y r _ hS2 (by simp) (by simp at hl; omega) g1 g2 g3 h2
        simpa only [World.size_alloc] using this)
  have hrl : rest.length ≤ 8192 := by have := (un_len hu).2.2.1; omega
  clear h hu
  go_enter Try.func19, Try.ntmps19
  go_wp2_with fail
  refine HU.out.mono ?_
  rintro e w2 ⟨⟨v', r', rfl, hv', hr', hown⟩, hb⟩
  have HV' := Lib.hid hv'
  have HR' := Lib.hid hr'
  obtain ⟨A2, d2, rfl, _, _, _, _⟩ := hv'.sl
  obtain ⟨A3, d3, rfl, _, _, _, _⟩ := hr'
  have hk := HK0.out.below hb (by simp)
  have hk0 := hk.at (o := 0) rfl
  have hk1 := hk.at (o := 1) rfl
  have hf0 := hk.free 0
  have hf1 := hk.free 1
  have HB2 := Lib.hid (HB0.out.trans (hb.mono (by simp)))
  clear hb
  have hsz : w.heap.size < w2.heap.size := hk.lt
  clear hk
  have hg2 := HR.out.below HB2.out hlt
  have hg0 := hg2.at (o := 0) rfl
  have hg1 := hg2.at (o := 1) rfl
  have hgf0 := hg2.free 0
  have hgf1 := hg2.free 1
  have HG := Lib.hid hg2; clear hg2
  have hgs : g < w2.heap.size := by omega
  have hgn : g ≠ w2.heap.size := by omega
  have hwn : w.heap.size ≠ w2.heap.size := by omega
  have HOW := Lib.hid hown; clear hown
  go_wp2_with fail
  refine bodyPost_ret (v := .tuple #[.agg #[vb k, .slice A2 body.length d2], .int .i64 0]) (by simp [results, Try.results19, go_sem, hk0, hk1, hsz]) rfl ⟨_, _, rfl, ?_, ?_, ⟨HR'.out.back HB2.out, HOW.out⟩, ?_⟩
  · have h1 := ((HV'.out.setLow ⟨g, 0, none⟩ (by show g < w.heap.size + 1; omega) (.slice A3 rest.length d3)).setLow ⟨w.heap.size, 0, none⟩ (by simp) (.int .u8 (bn k))).setLow ⟨w.heap.size, 1, none⟩ (by simp) (.slice A2 body.length d2)
    exact (h1.below ((Below.refl _ _).alloc (Nat.le_refl _) _)).sl
  · exact (((HG.out.set 0 _).setOther (a := ⟨w.heap.size, 0, none⟩) (Ne.symm hne) _).setOther (a := ⟨w.heap.size, 1, none⟩) (Ne.symm hne) _).alloc _
  · exact ((((Chg.of_below HB2.out g _).set 0 _).setNew ⟨w.heap.size, 0, none⟩ (Nat.le_refl _) _).setNew ⟨w.heap.size, 1, none⟩ (Nat.le_refl _) _).alloc _
end Go.Proofs.Ytgldfobfchnkeaa
