/- table: list: copies of all entries, in a row. -/
import Derived.Test.YthpgdojjecdlcaaPnSays
set_option maxRecDepth 100000
namespace Go.Proofs.Ythpgdojjecdlcaa
open Go.RowKit Go.Shelf
/-- The cells of entries in a row: behind p, ahead of nx. -/
def rowC : Option Nat → List Nd → Option Nat → List Value
  | _, [], _ => []
  | p, x :: t, nx => ndC x p (hd t nx) ++ rowC (some x.b) t nx
theorem rowC_app (r : List Nd) (nx : Option Nat) : ∀ (l : List Nd) (p : Option Nat), rowC p (l ++ r) nx = rowC p l (hd r nx) ++ rowC (la p l) r nx
  | [], _ => rfl
  | x :: t, p => by
    show ndC x p (hd (t ++ r) nx) ++ rowC (some x.b) (t ++ r) nx = (ndC x p (hd t (hd r nx)) ++ rowC (some x.b) t (hd r nx)) ++ rowC (la (some x.b) t) r nx
    rw [hd_app, rowC_app r nx t (some x.b), List.append_assoc]
theorem rowC_length : ∀ (l : List Nd) (p nx : Option Nat), (rowC p l nx).length = 7 * l.length
  | [], _, _ => rfl
  | x :: t, p, nx => by
    show (ndC x p (hd t nx) ++ rowC (some x.b) t nx).length = _
    rw [List.length_append, rowC_length t, List.length_cons]
    show 7 + _ = _
    omega
abbrev tL : TypeId := 119
theorem info_en : (Try.prog.info? tE).map (fun i => (i.zero, i.size, i.bytes)) = some (some (.agg #[.string ⟨#[]⟩, .string ⟨#[]⟩, .int .u64 0, .bool false, .int .u32 0, .pointer none, .pointer none]), 7, 64) := by kernel_rfl
def slLen : Value → Nat
  | .slice _ n _ => n
  | _ => 0
theorem enRow_form {W : World} {base : Nat} {e : TypeId} {size n : Nat} {v : Value} {xs : List Value} (h : W.ownsRow base e size v n xs) : ∃ A c, v = .slice A n c ∧ n ≤ c ∧ c ≤ maxLen := by
  rcases h.2 with ⟨rfl, rfl⟩ | ⟨g, cap, cur, rfl, _, _, h1, h2, _⟩
  · exact ⟨_, _, rfl, by simp, by unfold maxLen; omega⟩
  · exact ⟨_, _, rfl, h1, h2⟩
theorem enRow_below {W W' : World} {base : Nat} {e : TypeId} {size : Nat} {v : Value} {n : Nat} {xs : List Value} (h : W.ownsRow base e size v n xs) (hb : Below W.heap.size W W') : W'.ownsRow base e size v n xs := by
  obtain ⟨h1, h2 | ⟨g, cap, cur, rfl, hbg, hg, h3⟩⟩ := h
  · exact ⟨h1, .inl h2⟩
  · exact ⟨h1, .inr ⟨g, cap, cur, rfl, hbg, (hb.block g (Array.getElem?_eq_some_iff.1 hg).1).trans hg, h3⟩⟩
theorem wpList_appE {w : World} {ops : Array Oper} {rest : List Oper} {o : Oper} {a : Act} {Q : Exit → Act → World → Prop} (hgd : o.guard = none) (s x : Operand) (ho : o.op = .call { callee := .builtin .append, args := #[s, x], argTypes := #[tL, tL] })
    (base : Nat) (v : Value) (n : Nat) (cs : List Value) (hs : a.eval s = v) (hown : w.ownsRow base tE 7 v n cs) (g : Nat) (y : Nd) (p nx : Option Nat) (hx : a.eval x = .slice (some ⟨g, 0, none⟩) 1 1)
    (hg : w.heap[g]? = some (.cells (ndC y p nx).toArray tE (0, 0))) (hlen : n ≤ 100000) (hbase : base ≤ w.heap.size)
    (h : ∀ v' w', w'.ownsRow base tE 7 v' (n + 1) (cs ++ ndC y p nx) → w.grownBy w' v.ownBlock → wpList Try.prog ops Q rest (a.put o.dst v') w') : wpList Try.prog ops Q (o :: rest) a w := by
  obtain ⟨i0, hi, hz0, hz1, hz2⟩ := info_parts info_en
  refine wpList_append_own w hgd s x tL ho base tE i0 _ 7 64 Try.underlying119 hi hz0 hz1 hz2 rfl (by decide) v n cs hs hown ⟨g, 0, none⟩ 1 1 (ndC y p nx) hx rfl ?_ ?_ (by unfold maxLen; omega) (by omega) hbase (fun v' w' g1 g2 _ => h v' w' g1 g2)
  · intro j u hu
    have hadd : (⟨g, 0, none⟩ : Addr).add j = ⟨g, j, none⟩ := by unfold Addr.add; split <;> simp_all
    rw [hadd]
    simpa [World.cell?, hg] using hu
  · intro u hu
    have : u = strT y.key ∨ u = strT y.v.s ∨ u = .int .u64 y.v.a ∨ u = .bool y.v.sp ∨ u = .int .u32 y.v.ct ∨ u = pt p ∨ u = pt nx := by simpa [ndC, vcs] using hu
    rcases this with rfl | rfl | rfl | rfl | rfl | rfl | rfl
    all_goals first | rfl | (cases p <;> rfl) | (cases nx <;> rfl)
set_option maxHeartbeats 2000000 in
theorem list_any {w : World} {T m cap : Nat} {xs : List Nd} (h : Tb w T m cap xs) :
    Calls Try.prog 59 #[tP T] w fun e w' => ∃ v, e = .returned v ∧ w'.ownsRow w.heap.size tE 7 v xs.length (rowC none xs none) ∧ Below w.heap.size w w' := by
  have hl := h.len' 3
  have c1 := h.tbl.at (o := 1) rfl
  have hcap : xs.length ≤ 4096 := by have := h.cnt; have := h.cap; omega
  obtain ⟨i0, hi, hz0, hz1, hz2⟩ := info_parts info_en
  obtain ⟨w1, hmk, hrow, hg1⟩ := run_makeSlice_owned (P := Try.prog) (w := w) w.heap.size tL tE i0 _ 7 Try.underlying119 hi hz0 hz1 .i64 .i64 xs.length (by omega) (by rw [hz2]; omega) (by unfold maxLen; omega) (Nat.le_refl _)
  have hB1 := below_of_grown hg1
  have H1 := Lib.hid (h.keep hB1)
  have c2 : w1.cell? ⟨T, 2, none⟩ = some (pt (hd xs none)) := H1.out.tbl.at rfl
  have HROW := Lib.hid hrow; clear hrow
  have HB1 := Lib.hid hB1; clear hB1
  have H0 := Lib.hid h
  clear hg1 h hi hz0 hz1 hz2
  go_enter Try.func59, Try.ntmps59
  go_wp2_with fail
  clear hmk hl c1 c2
  go_loopw [3, 4] (fun s p wr => ∃ (pre t : List Nd), xs = pre ++ t ∧ p = pt (hd t none) ∧ wr.ownsRow w.heap.size tE 7 s pre.length (rowC none pre (hd t none)) ∧ Tb wr T m cap xs ∧ Below w.heap.size w wr) (fun s _ _ => xs.length - slLen s)
  case atStart => exact ⟨[], xs, rfl, rfl, HROW.out, H1.out, HB1.out⟩
  case round =>
    obtain ⟨pre, t, hx, rfl, hrow, ht, hb⟩ := hrel
    have HR := Lib.hid hrow
    obtain ⟨As, cs, rfl, _, _⟩ := enRow_form hrow
    have HT := Lib.hid ht
    have HB := Lib.hid hb
    clear hrow hb
    cases t with
    | nil =>
      have HX := Lib.hid hx; clear hx ht
      rw [show hd [] none = none from rfl] at HR ⊢
      simp only [pt_none]
      go_wp2_with fail
      go_ret
      exact ⟨_, rfl, by rw [HX.out, List.append_nil]; exact HR.out, HB.out⟩
    | cons y r =>
      have hch := ht.chn
      rw [hx] at hch
      obtain ⟨_, hby, _⟩ := (chn_app (y :: r) none pre none).1 hch
      have hlen : pre.length < xs.length := by rw [hx, List.length_append, List.length_cons]; omega
      have hrc : rowC none (pre ++ [y]) (hd r none) = rowC none pre (some y.b) ++ ndC y (la none pre) (hd r none) := by
        rw [rowC_app]
        show rowC none pre (some y.b) ++ (ndC y (la none pre) (hd r none) ++ []) = _
        rw [List.append_nil]
      obtain ⟨O, hO⟩ : ∃ O, O = la none pre := ⟨_, rfl⟩
      obtain ⟨N, hN⟩ : ∃ N, N = hd r none := ⟨_, rfl⟩
      change BlkT wr y.b tE (ndC y (la none pre) (hd r none)) at hby
      have hnx : ∀ W, Tb W T m cap xs → W.cell? ⟨y.b, 6, none⟩ = some (pt (hd r none)) := fun W hW => by
        have hch := hW.chn
        rw [hx] at hch
        exact ((chn_app (y :: r) none pre none).1 hch).2.1.at rfl
      rw [← hO, ← hN] at hby hrc
      rw [← hN] at hnx
      have HNX := Lib.hid hnx; clear hnx
      have c0 : wr.cell? ⟨y.b, 0, none⟩ = some (strT y.key) := hby.at rfl
      have c1 : wr.cell? ⟨y.b, 1, none⟩ = some (strT y.v.s) := hby.at rfl
      have c2 : wr.cell? ⟨y.b, 2, none⟩ = some (.int .u64 y.v.a) := hby.at rfl
      have c3 : wr.cell? ⟨y.b, 3, none⟩ = some (.bool y.v.sp) := hby.at rfl
      have c4 : wr.cell? ⟨y.b, 4, none⟩ = some (.int .u32 y.v.ct) := hby.at rfl
      have c5 : wr.cell? ⟨y.b, 5, none⟩ = some (pt O) := hby.at rfl
      have c6 : wr.cell? ⟨y.b, 6, none⟩ = some (pt N) := hby.at rfl
      rw [show hd (y :: r) none = some y.b from rfl] at HR ⊢
      simp only [pt_some]
      have HBY := Lib.hid hby
      have HX := Lib.hid hx
      have HN := Lib.hid hN
      have HRC := Lib.hid hrc
      clear hch hby hx hO hN hrc ht
      have HNW := Lib.hid (heap_alloc_new wr (.cells (ndC y O N).toArray tE))
      have HRA := Lib.hid (enRow_below HR.out ((Below.refl wr.heap.size wr).alloc (Nat.le_refl _) (.cells (ndC y O N).toArray tE)))
      have HBA := Lib.hid (HB.out.alloc HB.out.size (.cells (ndC y O N).toArray tE))
      have HSZ : Hid (w.heap.size ≤ (wr.alloc (.cells (ndC y O N).toArray tE)).heap.size) := Lib.hid HBA.out.size
      have HPL : Hid (pre.length ≤ 100000) := Lib.hid (by omega)
      go_wp2_with (at_builtin; go_loud ((with_reducible refine wpList_appE ?g1 (.tmp 23) (.tmp 27) ?g2 w.heap.size (.slice As pre.length cs) pre.length (rowC none pre (some y.b)) ?g3 ?g4 wr.heap.size y O N ?g5 ?g6 ?g7 ?g8 ?_); (case g1 => rfl); (case g2 => rfl); (case g3 => rfl); (case g4 => exact HRA.out); (case g5 => rfl); (case g6 => exact HNW.out); (case g7 => exact HPL.out); (case g8 => exact HSZ.out); intro v' w3 hv hg; have HV3 := Lib.hid hv; have HB3 := Lib.hid (HBA.out.grown hg HSZ.out (fun j e => (World.ownsRow.lt HRA.out j e).1)); have HT3 := Lib.hid (H0.out.keep HB3.out); have e6 := HNX.out w3 HT3.out; clear hv hg))
      have HTN : Hid (Value.pointer (some ⟨y.b, 0, none⟩) = pt (some y.b)) := Lib.hid rfl
      go_roundw
      case rel => exact ⟨pre ++ [y], r, by rw [HX.out, List.append_assoc]; rfl, by rw [HN.out], by rw [← HN.out, List.length_append, HRC.out]; exact HV3.out, HT3.out, HB3.out⟩
      case measure =>
        obtain ⟨A', c', e', _⟩ := enRow_form HV3.out
        simp [e', slLen]
        omega
end Go.Proofs.Ythpgdojjecdlcaa
