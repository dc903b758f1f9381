/- name: the reference's Signs: a row of its own. -/
import Derived.Test.YtpphccjpdkcnmaaDoorNmFirst2
import Derived.Deep.AppendLies
import Derived.Deep.DeepCutAuto
namespace Go.Proofs.YtpphccjpdkcnmaaDoor
open Go.RowKit Go.Shelf
theorem info_sg : (Tryd.prog.info? 27).map (fun i => (i.zero, i.size, i.bytes)) = some (some (.agg #[.int .i64 0, .int .i64 0]), 2, 16) := by kernel_rfl
/-- The cells of signs. -/
def sgc (xs : List (Nat × Int)) : List Value := xs.flatMap fun x => [.int .i64 (x.1 : Int), .int .i64 x.2]
theorem sgc_snoc (xs : List (Nat × Int)) (x : Nat × Int) : sgc (xs ++ [x]) = sgc xs ++ [.int .i64 (x.1 : Int), .int .i64 x.2] := by unfold sgc; simp
theorem sgc_len (xs : List (Nat × Int)) : (sgc xs).length = 2 * xs.length := by
  induction xs with
  | nil => rfl
  | cons x t ih => show (_ :: _ :: sgc t).length = _; rw [List.length_cons, List.length_cons, ih, List.length_cons]; omega
/-- A row of signs of the call's own. -/
def OwnSg (w : World) (base : Nat) (v : Value) (xs : List (Nat × Int)) : Prop := w.ownsRow base 27 2 v xs.length (sgc xs)
theorem OwnSg.below {w w' : World} {base : Nat} {v : Value} {xs : List (Nat × Int)} (h : OwnSg w base v xs) (hb : Below w.heap.size w w') : OwnSg w' base v xs :=
  World.ownsRow.kept h (grown_of_below hb none) (by by_cases e : v.ownBlock = none; exact .inl e; exact .inr e)
theorem wpList_appSg {w : World} {ops : Array Oper} {rest : List Oper} {o : Oper} {a : Act} {Q : Exit → Act → World → Prop} (hgd : o.guard = none) (s x : Operand) (ho : o.op = .call { callee := .builtin .append, args := #[s, x], argTypes := #[24, 24] })
    (base : Nat) (v : Value) (xs : List (Nat × Int)) (hs : a.eval s = v) (hown : OwnSg w base v xs) (gb : Nat) (q : Nat) (r : Int) (hx : a.eval x = .slice (some ⟨gb, 0, none⟩) 1 1)
    (hnew : w.heap[gb]? = some (.cells #[.int .i64 (q : Int), .int .i64 r] 27 (0, 0))) (hn : xs.length ≤ 1000) (hbase : base ≤ w.heap.size)
    (h : ∀ v' w', OwnSg w' base v' (xs ++ [(q, r)]) → w.grownBy w' v.ownBlock → wpList Tryd.prog ops Q rest (a.put o.dst v') w') : wpList Tryd.prog ops Q (o :: rest) a w := by
  obtain ⟨i0, hi, hz0, hz1, hz2⟩ := info_parts info_sg
  refine wpList_append_own w hgd s x 24 ho base 27 i0 (.agg #[.int .i64 0, .int .i64 0]) 2 16 Tryd.underlying24 hi hz0 hz1 hz2 rfl (by decide) v xs.length (sgc xs) hs hown ⟨gb, 0, none⟩ 1 1 [.int .i64 (q : Int), .int .i64 r] hx rfl (World.news_of_block hnew) (by simp [Value.oneCell']) (by unfold maxLen; omega) (by omega) hbase ?_
  intro v' w' h1 h2 _
  refine h v' w' ?_ h2
  unfold OwnSg
  rw [List.length_append, sgc_snoc]
  exact h1
/-- Signs of a text, told by the reference. -/
theorem sgc_step (l : List UInt8) (p : Nat) (h : p < l.length) (f : Nat) : runesF (f + 1) p (l.drop p) = (p, (fstL (l.drop p)).1) :: runesF f (p + (fstL (l.drop p)).2) (l.drop (p + (fstL (l.drop p)).2)) := by
  have hne : l.drop p ≠ [] := by intro e; have := congrArg List.length e; rw [List.length_drop] at this; simp at this; omega
  rw [runesF, if_neg (by rw [List.length_drop]; omega), fst_dec _ hne, List.drop_drop]
set_option maxRecDepth 100000 in
set_option maxHeartbeats 2000000 in
theorem refSigns_any (l : List UInt8) (w : World) (hl : l.length ≤ 600) :
    Calls Tryd.prog 10 #[str l] w fun e w' => ∃ v', e = .returned v' ∧ OwnSg w' w.heap.size v' (runesF l.length 0 l) ∧ Below w.heap.size w w' := by
  obtain ⟨R, hR⟩ : ∃ R, R = runesF l.length 0 l := ⟨_, rfl⟩
  rw [← hR]
  have HR := Lib.hid hR; clear hR
  go_enter Tryd.func10, Tryd.ntmps10
  go_wp2_with fail
  go_loopw [3, 4] (fun v i wr => ∃ (p f : Nat) (pre : List (Nat × Int)), p ≤ l.length ∧ l.length - p ≤ f ∧ pre.length + f ≤ l.length ∧ i = .int .i64 (p : Int) ∧ R = pre ++ runesF f p (l.drop p) ∧ OwnSg wr w.heap.size v pre ∧ Below w.heap.size w wr) (fun _ i _ => l.length - (intOf i).toNat)
  case atStart => exact ⟨0, l.length, [], by omega, by omega, by simp, rfl, by rw [HR.out]; rfl, World.ownsRow_nil w _ _ 2, Below.refl _ _⟩
  case round =>
    obtain ⟨p, f, pre, hp, hf, hpf, rfl, hr, hO, hB⟩ := hrel
    clear HR
    have HO := Lib.hid hO; clear hO
    have HB := Lib.hid hB; clear hB
    by_cases hlt : p < l.length
    · have hd := str_drop l p (by omega) wr
      have hst := sgc_step l p hlt
      have hdl : (l.drop p).length = l.length - p := List.length_drop
      have hdp := dec1_pos (l.drop p) (by omega)
      have hfd := fst_dec (l.drop p) (by intro e; rw [e] at hdl; simp at hdl; omega)
      have h2 : (fstL (l.drop p)).2 = (dec1 (l.drop p)).2 := by rw [hfd]
      rw [← h2] at hdp
      clear hfd h2
      obtain ⟨f', rfl⟩ : ∃ f', f = f' + 1 := ⟨f - 1, by omega⟩
      rw [hst f'] at hr
      clear hst
      have hca := refFirst_any (l.drop p) wr (by omega) (by omega)
      obtain ⟨q, n, hq⟩ : ∃ q n, fstL (l.drop p) = (q, n) := ⟨_, _, rfl⟩
      rw [hq] at hr hca hdp
      simp only at hdp hca
      obtain ⟨x, hx⟩ : ∃ x, x = l.drop p := ⟨_, rfl⟩
      rw [← hx] at hd hca hdl hdp
      have hap : R = (pre ++ [(p, q)]) ++ runesF f' (p + n) (l.drop (p + n)) := by rw [hr]; simp
      have HAP := Lib.hid hap
      clear hr hap hq hx
      go_wp2_with fail
      refine hca.mono ?_
      rintro e w1 ⟨rfl, rfl⟩
      clear hca hd
      have HOA := Lib.hid (HO.out.below ((Below.refl wr.heap.size wr).alloc (Nat.le_refl _) (.cells #[.int .i64 (p : Int), .int .i64 q] 27)))
      have HNW := Lib.hid (heap_alloc_new wr (.cells #[.int .i64 (p : Int), .int .i64 q] 27))
      have HBA := Lib.hid (HB.out.alloc HB.out.size (.cells #[.int .i64 (p : Int), .int .i64 q] 27))
      go_wp2_with (at_builtin; ((with_reducible refine wpList_appSg ?g1 (.tmp 18) (.tmp 22) ?g2 w.heap.size u3 pre ?g3 ?g4 wr.heap.size p q ?g5 ?g6 ?g7 ?g8 ?_); (case g1 => rfl); (case g2 => rfl); (case g3 => rfl); (case g4 => exact HOA.out); (case g5 => rfl); (case g6 => exact HNW.out); (case g7 => omega); (case g8 => exact HBA.out.size); intro v' w2 hv hg; have Hv := Lib.hid hv; have Hg := Lib.hid (HBA.out.trans ((Below.refl _ _).grown hg HBA.out.size (fun j e => (World.ownsRow.lt HOA.out j e).1))); clear hv hg))
      go_roundw
      case rel => exact ⟨p + n, f', pre ++ [(p, q)], by omega, by omega, by simp; omega, by go_num, HAP.out, Hv.out, Hg.out⟩
      case measure => simp [intOf]; omega
    · have hx0 : l.drop p = [] := List.drop_eq_nil_of_le (by omega)
      have he : runesF f p (l.drop p) = [] := by
        rw [hx0]; cases f <;> simp [runesF]
      rw [he, List.append_nil] at hr
      subst hr
      go_wp2_with fail
      go_ret
      exact ⟨_, rfl, HO.out, HB.out⟩
end Go.Proofs.YtpphccjpdkcnmaaDoor
