/- box's laws: do's arms: the program's call, and the reference's behind it. -/
import Derived.Test.YtlnjpmpddomjiaaGreatDoorGmBeP
import Derived.Test.YtlnjpmpddomjiaaGreatDoorGmShaSum
import Derived.Test.YtlnjpmpddomjiaaGreatDoorGmMgA
set_option maxRecDepth 100000
namespace Go.Proofs.YtlnjpmpddomjiaaGreatDoor
open Go.RowKit
theorem ArmR.lift {Y Y1 wx : World} {base tb b m x : Nat} {rv V : Value} {T : List TmL} {tv : Value} {vals : List Value} {sym : Bool} {es : List EnL} {tags : List (List UInt8)} {s9 s10 : Value} (hb : Below Y.heap.size Y Y1) (h : ArmR Y1 base tb b m x rv V T tv vals sym es tags s9 s10 wx) : ArmR Y base tb b m x rv V T tv vals sym es tags s9 s10 wx := by
  obtain ⟨rv', V', T', f', es', want, h1, h2, h3, h4, h5, h6, h7, h8, h9, h10⟩ := h
  refine ⟨rv', V', T', f', es', want, h1, h2, h3.lower hb.size, h4.lower hb.size, h5, h6, h7, fun k hk => ?_, (Trs.of_below hb).trans h9, h10⟩
  rcases h8 k hk with q | q
  · exact .inl q
  · exact .inr (Nat.le_trans hb.size q)
theorem Sl.cap {w : World} {B n c : Nat} {A : Option Addr} {l : List UInt8} (h : Sl w B (.slice A n c) l) : n = l.length ∧ n ≤ c := by
  obtain ⟨A', c', e, _, h1, _⟩ := h
  injection e with e1 e2 e3
  subst e3
  exact ⟨e2, by omega⟩
/-- Two halves of a slice. -/
theorem Sl.halves {w : World} {B n c : Nat} {A : Option Addr} {l : List UInt8} (h : Sl w B (.slice A n c) l) (k : Nat) (hk : k ≤ n) : ∃ A2 n2 c2, (∀ W, (Instr.slice 34 (.slice A n c) none (some (.int .i64 (k : Int))) none).run Tryz.prog W = .ok (.slice A k c) W) ∧ (∀ W, (Instr.slice 34 (.slice A n c) (some (.int .i64 (k : Int))) none none).run Tryz.prog W = .ok (.slice A2 n2 c2) W) ∧
    Sl w B (.slice A k c) (l.take k) ∧ Sl w B (.slice A2 n2 c2) (l.drop k) := by
  obtain ⟨e, hc⟩ := h.cap
  obtain ⟨V, hr, hs⟩ := slice_from A n c k (k : Int) rfl hk hc
  have h2 := hs w B l h e.symm
  obtain ⟨A2, c2, rfl, h3⟩ := h2
  obtain ⟨A', c', e', _, _, _, h4⟩ := h.take k (by omega)
  injection e' with e1 e2 e3
  subst e1; subst e3
  exact ⟨A2, _, c2, fun W => slice_hB A n c k (by omega) W, hr, h4, ⟨A2, c2, rfl, h3⟩⟩
theorem tuL_plain (es : List EnL) (x y : List UInt8) : tuL false es x y = [] := by
  rw [List.eq_nil_iff_forall_not_mem]
  intro n hn
  have h := ((pickN_mem _ _ _ _).1 hn).2
  simp [opL] at h
theorem ArmR.blk {Y wx : World} {base tb b m x : Nat} {rv V : Value} {T : List TmL} {tv : Value} {vals : List Value} {sym : Bool} {es : List EnL} {tags : List (List UInt8)} {s9 s10 : Value} (h : ArmR Y base tb b m x rv V T tv vals sym es tags s9 s10 wx) : Blk wx tb [tP b, tP x, tv] := by
  obtain ⟨rv', V', T', f', es', want, h1, _⟩ := h
  exact h1.lt.blk
section
variable {Y W2 : World} {base tb b m x : Nat} {rv V : Value} {T : List TmL} {tv : Value} {vals : List Value} {sym f : Bool} {es : List EnL} {tags : List (List UInt8)}
/-- What stands for the reference's call behind the program's. -/
theorem TD.behind {v : Value} {tag : List UInt8} {f' : Bool} {es' : List EnL} (h : TD Y base tb b m x rv V T tv vals sym f f es es tags) (hU : TabB Y) (hby : base ≤ Y.heap.size) (hgu : 2 < base) (hR1 : EnR Y base b m rv sym tag f' es' (.returned v) W2) (hg : GE es') :
    Blk W2 tb [tP b, tP x, tv] ∧ XB W2 base x V sym f T (es.map enW) ∧ TabB W2 ∧ 2 < W2.heap.size ∧ Y.heap.size ≤ W2.heap.size ∧ Trs (tdB tb b m x rv V T tv vals) Y W2 := by
  have hbl := h.base
  obtain ⟨rv', h1, hO1, hn1, ha1, ht1⟩ := h.prog hR1 hg
  have hz := ht1.size
  exact ⟨h1.lt.blk, h1.xb, hU.below (ht1.toBelow hby (fun k hk => hbl k hk)) hgu, by omega, hz, ht1⟩
variable {B1 B2 : Nat} {v ku u kv : Value} {key text : List UInt8} {ls : List (List UInt8)}
/-- What the four arms have in common. -/
structure ArmP (Y : World) (base tb b m x : Nat) (rv V : Value) (T : List TmL) (tv : Value) (vals : List Value) (sym f : Bool) (es : List EnL) (tags : List (List UInt8)) : Prop where
  td : TD Y base tb b m x rv V T tv vals sym f f es es tags
  ok : ∀ t ∈ tags, isTagL sym es.length t = true
  tA : TabA Y
  tB : TabB Y
  by_ : base ≤ Y.heap.size
  gu : 2 < base
theorem ArmP.below {Y1 : World} (h : ArmP Y base tb b m x rv V T tv vals sym f es tags) (hb : Below Y.heap.size Y Y1) (hga : 0 < base) : ArmP Y1 base tb b m x rv V T tv vals sym f es tags :=
  ⟨h.td.below hb, h.ok, h.tA.below hb (Nat.lt_of_lt_of_le hga h.by_), h.tB.below hb (Nat.lt_of_lt_of_le h.gu h.by_), Nat.le_trans h.by_ hb.size, h.gu⟩
theorem arm_hash (P : ArmP Y base tb b m x rv V T tv vals sym f es tags) (hv : Sls Y Y.heap.size v ls) (hls : ls.flatten = text) (hn : ls.length ≤ 2) (hlm : ∀ l ∈ ls, l.length ≤ 1000) (hle : Lib.lens ls ≤ 1000) (htl : text.length ≤ 1000) (hu : OwnB Y B2 u text) (hud : ∀ k, u.ownBlock = some k → k ∉ tdB tb b m x rv V T tv vals) :
    Calls Tryz.prog 12 #[tP b, v] Y fun e W2 => ∃ v2, e = .returned v2 ∧ Blk W2 tb [tP b, tP x, tv] ∧ Calls Tryz.prog 28 #[tP x, u] W2 fun e W3 => ∃ u2, e = .returned u2 ∧ ArmR Y base tb b m x rv V T tv vals sym es tags v2 u2 W3 := by
  have hgn := P.td.gp.neE (sym := sym) (e := hashE text) rfl (by simp [hashE])
  refine (hash_P P.td.bx hv (by omega) (by omega) (fun l hl => by have := hlm l hl; omega) P.by_ P.tA).mono ?_
  rintro e W2 hR
  rw [hls] at hR
  obtain ⟨v2, rfl⟩ : ∃ v2, e = .returned v2 := by obtain ⟨v2, _, h1, _⟩ := hR; exact ⟨v2, h1⟩
  obtain ⟨k1, k2, k3, k4, k5, k6⟩ := P.td.behind P.tB P.by_ P.gu hR hgn
  refine ⟨v2, rfl, k1, (hash_refE k2 P.td.gr.g u text ((hu.trsV k6 hud).sl) (by omega) k3 k4).mono ?_⟩
  rintro e W3 hR2
  obtain ⟨u2, rfl⟩ : ∃ v2, e = .returned v2 := by obtain ⟨v2, _, _, h1, _⟩ := hR2; exact ⟨v2, h1⟩
  exact ⟨u2, rfl, arm_fin P.td P.ok hR hgn (neE_len _ _ _) (GY.neE P.td.gp (by simp [hashE])) (anE_tag hgn.le (sumL_length _)) hR2⟩
theorem arm_mac (P : ArmP Y base tb b m x rv V T tv vals sym f es tags) (hk : OwnB Y B1 kv key) (hkd : ∀ k, kv.ownBlock = some k → k ∉ tdB tb b m x rv V T tv vals) (hv : Sls Y Y.heap.size v [text]) (hkl : key.length ≤ 1000) (htl : text.length ≤ 1000) (hku : OwnB Y B2 ku key) (hkud : ∀ k, ku.ownBlock = some k → k ∉ tdB tb b m x rv V T tv vals) (hu : OwnB Y B2 u text) (hud : ∀ k, u.ownBlock = some k → k ∉ tdB tb b m x rv V T tv vals) :
    Calls Tryz.prog 24 #[tP b, kv, v] Y fun e W2 => ∃ v2, e = .returned v2 ∧ Blk W2 tb [tP b, tP x, tv] ∧ Calls Tryz.prog 29 #[tP x, ku, u] W2 fun e W3 => ∃ u2, e = .returned u2 ∧ ArmR Y base tb b m x rv V T tv vals sym es tags v2 u2 W3 := by
  have hgn := P.td.gp.neE (sym := sym) (e := macE key text) rfl (by simp [macE])
  refine (mac_P P.td.bx hk (fun k e hq => hkd k e (mem_tdB.2 (.inl hq))) (by omega) hv (by simp) (by simp [Lib.lens]; omega) (fun l hl => by rw [List.mem_singleton.1 hl]; omega) P.by_ P.tA).mono ?_
  rintro e W2 hR
  rw [show [text].flatten = text from by simp] at hR
  obtain ⟨v2, rfl⟩ : ∃ v2, e = .returned v2 := by obtain ⟨v2, _, h1, _⟩ := hR; exact ⟨v2, h1⟩
  obtain ⟨k1, k2, k3, k4, k5, k6⟩ := P.td.behind P.tB P.by_ P.gu hR hgn
  refine ⟨v2, rfl, k1, (mac_refE k2 P.td.gr.g ku u key text ((hku.trsV k6 hkud).sl) ((hu.trsV k6 hud).sl) hkl htl k3 k4).mono ?_⟩
  rintro e W3 hR2
  obtain ⟨u2, rfl⟩ : ∃ v2, e = .returned v2 := by obtain ⟨v2, _, _, h1, _⟩ := hR2; exact ⟨v2, h1⟩
  exact ⟨u2, rfl, arm_fin P.td P.ok hR hgn (neE_len _ _ _) (GY.neE P.td.gp (by simp [macE])) (anE_tag hgn.le (hm_length _ _)) hR2⟩
theorem arm_str (P : ArmP Y base tb b m x rv V T tv vals sym f es tags) (r : Nat) (h1 : 1 ≤ r) (h64 : r ≤ 64) (hk : Sl Y Y.heap.size kv key) (hv : Sl Y Y.heap.size v text) (hkl : key.length ≤ 1000) (htl : text.length ≤ 1000) (hku : OwnB Y B2 ku key) (hkud : ∀ k, ku.ownBlock = some k → k ∉ tdB tb b m x rv V T tv vals) (hu : OwnB Y B2 u text) (hud : ∀ k, u.ownBlock = some k → k ∉ tdB tb b m x rv V T tv vals) :
    Calls Tryz.prog 22 #[tP b, kv, v, .int .i64 (r : Int)] Y fun e W2 => ∃ v2, e = .returned (.tuple #[v2, .int .i64 0]) ∧ Blk W2 tb [tP b, tP x, tv] ∧ Calls Tryz.prog 30 #[tP x, ku, u, .int .i64 (r : Int)] W2 fun e W3 => ∃ A c, e = .returned (.slice A 32 c) ∧ ArmR Y base tb b m x rv V T tv vals sym es tags v2 (.slice A 32 c) W3 := by
  have hgn := P.td.gp.neE (sym := sym) (e := strE key text (r : Int)) rfl (by simp [strE])
  refine (str_P P.td.bx hk hv (by omega) (by omega) h1 h64 P.by_ P.tA).mono ?_
  rintro e W2 ⟨v2, rfl, hR⟩
  obtain ⟨k1, k2, k3, k4, k5, k6⟩ := P.td.behind P.tB P.by_ P.gu hR hgn
  refine ⟨v2, rfl, k1, (str_refE k2 P.td.gr.g ku u key text r ((hku.trsV k6 hkud).sl) ((hu.trsV k6 hud).sl) hkl htl k3 k4 h1 h64).mono ?_⟩
  rintro e W3 hR2
  have ht := anE_tag (sym := sym) (es := es) (e := strE key text (r : Int)) (pl := keyS key text r 32) hgn.le (keyS_len _ _ _ _ (by omega))
  obtain ⟨u2, rfl, hO⟩ : ∃ v2, e = .returned v2 ∧ OwnB W3 W2.heap.size v2 (anE sym es (strE key text (r : Int)) (keyS key text r 32)) := by obtain ⟨v2, _, _, h1, h2, _⟩ := hR2; exact ⟨v2, h1, h2⟩
  obtain ⟨A, c, rfl, -⟩ := hO.sl
  rw [ht.1] at hR2 ⊢
  exact ⟨A, c, rfl, arm_fin P.td P.ok hR hgn (neE_len _ _ _) (GY.neE P.td.gp (by simp [strE])) ht hR2⟩
theorem arm_turn (P : ArmP Y base tb b m x rv V T tv vals sym f es tags) (hx1 : OwnB Y B1 kv key) (hxd : ∀ k, kv.ownBlock = some k → k ∉ tdB tb b m x rv V T tv vals) (hy1 : OwnB Y B2 v text) (hyd : ∀ k, v.ownBlock = some k → k ∉ tdB tb b m x rv V T tv vals) (ht1 : isTagL sym es.length key = true) (ht2 : isTagL sym es.length text = true) :
    Calls Tryz.prog 17 #[tP b, kv, v] Y fun e W2 => ∃ v2, e = .returned (.tuple #[v2, .int .i64 0]) ∧ Blk W2 tb [tP b, tP x, tv] ∧ Calls Tryz.prog 31 #[tP x, kv, v] W2 fun e W3 => ∃ A c, e = .returned (.slice A 32 c) ∧ ArmR Y base tb b m x rv V T tv vals sym es tags v2 (.slice A 32 c) W3 := by
  obtain ⟨a1, a2, a3, a4⟩ := tu_facts P.td.gp ht1 ht2
  have hgn := P.td.gp.esS (sym := sym) a1 a2 a3 a4
  refine (turn_P P.td.bx P.td.gp hx1.sl hy1.sl ht1 ht2 P.by_).mono ?_
  rintro e W2 ⟨v2, rfl, hR⟩
  obtain ⟨k1, k2, k3, k4, k5, k6⟩ := P.td.behind P.tB P.by_ P.gu hR hgn
  refine ⟨v2, rfl, k1, (turn_refE k2 P.td.gr kv v key text ((hx1.trsV k6 hxd).sl) ((hy1.trsV k6 hyd).sl) ht1 ht2).mono ?_⟩
  rintro e W3 hR2
  have ht := tgS_tag (sym := sym) (es := es) (L := tuL sym es key text) (M := tuM sym es key text) a1 a3 (fun hs => by subst hs; exact tuL_plain _ _ _) hgn.le
  obtain ⟨u2, rfl, hO⟩ : ∃ v2, e = .returned v2 ∧ OwnB W3 W2.heap.size v2 (tgS sym es (tuL sym es key text) (tuM sym es key text)) := by obtain ⟨v2, _, _, h1, h2, _⟩ := hR2; exact ⟨v2, h1, h2⟩
  obtain ⟨A, c, rfl, -⟩ := hO.sl
  rw [ht.1] at hR2 ⊢
  exact ⟨A, c, rfl, arm_fin P.td P.ok hR hgn (esS_len _ _ _ _) (GY.esS P.td.gp) ht hR2⟩
end
end Go.Proofs.YtlnjpmpddomjiaaGreatDoor
