/- rule: the iterator over a policy's rules; Which; May. -/
import Derived.Test.YthpkmdojeegleaaGreatDoorRuPol
import Derived.Test.YthpkmdojeegleaaGreatDoorRangeGx
set_option maxRecDepth 100000
namespace Go.Proofs.YthpkmdojeegleaaGreatDoor
open Go.RowKit Go.Shelf
attribute [local go_sem] Oper.semAt_some
abbrev tPol : TypeId := 24
abbrev gRu : Nat := 49
abbrev gvRu (b : Nat) : Value := .func (.func gRu) #[] #[.pointer (some ⟨b, 0, none⟩)]
theorem rules_any (po : Option Addr) (w : World) : Calls Tryz.prog 30 #[.pointer po] w fun e w' => e = .returned (gvRu w.heap.size) ∧ w' = w.alloc (.cells #[.pointer po] tPol) := by
  go_enter Tryz.func30, Tryz.ntmps30
  go_wp2_with fail
  go_ret
  exact ⟨rfl, rfl⟩
/-- A policy whose row is the value v. -/
def PolV (W : World) (B : Nat) (po : Option Addr) (v : Value) (xs : List RuL) : Prop :=
  (po = none ∧ xs = []) ∨ ∃ p, po = some ⟨p, 0, none⟩ ∧ p < B ∧ W.cell? ⟨p, 0, none⟩ = some v ∧ RlIn W B v xs
theorem PolO.openV {W : World} {B : Nat} {pv : Value} {xs : List RuL} (h : PolO W B pv xs) : ∃ po v, pv = .pointer po ∧ PolV W B po v xs := by
  rcases h with ⟨rfl, h⟩ | ⟨p, v, rfl, h⟩
  · exact ⟨none, .nilIface, rfl, .inl ⟨rfl, h⟩⟩
  · exact ⟨_, v, rfl, .inr ⟨p, rfl, h⟩⟩
theorem PolV.shut {W : World} {B : Nat} {po : Option Addr} {v : Value} {xs : List RuL} (h : PolV W B po v xs) : PolO W B (.pointer po) xs := by
  rcases h with ⟨rfl, h⟩ | ⟨p, rfl, h⟩
  · exact .inl ⟨rfl, h⟩
  · exact .inr ⟨p, v, rfl, h⟩
theorem PolV.below {W W' : World} {B B' : Nat} {po : Option Addr} {v : Value} {xs : List RuL} (h : PolV W B po v xs) (hb : Below B' W W') (hB : B ≤ B') : PolV W' B po v xs := by
  rcases h with h | ⟨p, h1, h2, h3, h4⟩
  · exact .inl h
  · exact .inr ⟨p, h1, h2, (hb.cell (p := ⟨p, 0, none⟩) (by show p < B'; omega)).trans h3, h4.below hb hB⟩
/-- What the iterator reads. -/
def RuIn (b B : Nat) (po : Option Addr) (v : Value) (xs : List RuL) (A : World) : Prop := Boxed A b tPol (.pointer po) ∧ PolV A B po v xs
def RuY (xs : List RuL) (_ : Nat) (pre : List (RuL × Nat)) (x : RuL × Nat) (_ : World) : Prop := pre ++ [x] <+: xs.zipIdx
theorem zip_take (xs : List RuL) (k : Nat) (hk : k < xs.length) : xs.zipIdx.take (k + 1) = xs.zipIdx.take k ++ [(xs[k], k)] := by
  rw [List.take_succ_eq_append_getElem (by simpa using hk)]
  simp
set_option maxHeartbeats 2000000 in
theorem rules1_g (d : Nat) (hd : 1 ≤ d) (b B : Nat) (po : Option Addr) (v : Value) (xs : List RuL) (hl : xs.length ≤ 5000) (w : World) :
    SeqG Fence.wide d Tryz.prog gRu #[.pointer (some ⟨b, 0, none⟩)] (fun x : RuL × Nat => #[.int .i64 (x.2 : Int), ragg x.1]) StL (fun _ _ => True) (RuY xs) (fun ys => ys = xs.zipIdx)
      (RuIn b B po v xs) w := by
  intro l J Jx W hW hIn hJ hJx hY h0
  have HIn := Lib.hid hIn; clear hIn
  have hG := HIn.out _ _ h0
  clear hJx
  have HY := Lib.hid hY; clear hY
  have hc := hG.1.cell
  have H0 := Lib.hid h0
  rcases hG.2 with ⟨rfl, rfl⟩ | ⟨p, rfl, hpB, hpc, hrl⟩
  · refine callsIn_of_wp Tryz.func49 rfl trivial ?_ rfl
    simp only [Tryz.ntmps49, List.size_toArray, List.length_cons, List.length_nil, Nat.reduceAdd, Nat.reduceSub, Array.replicate_succ, Array.replicate_zero, List.push_toArray, List.append_toArray, List.nil_append, List.cons_append]
    clear hG h0
    gi_wp2
    refine bodyPost_ret (results_none rfl _ _ _) rfl ?_
    first | exact ⟨⟨_, rfl⟩, .inl ⟨_, rfl, H0.out⟩⟩ | exact ⟨⟨_, rfl⟩, .inl H0.out⟩
  · obtain ⟨A, c, rfl, hc1, hc2, hq⟩ := hrl
    clear hq hG h0
    refine callsIn_of_wp Tryz.func49 rfl trivial ?_ rfl
    simp only [Tryz.ntmps49, List.size_toArray, List.length_cons, List.length_nil, Nat.reduceAdd, Nat.reduceSub, Array.replicate_succ, Array.replicate_zero, List.push_toArray, List.append_toArray, List.nil_append, List.cons_append]
    gi_wp2
    clear hc hpc
    gi_loopw [3, 4, 12] (fun _ _ i wr => ∃ (k : Nat) (pre : List (RuL × Nat)), k ≤ xs.length ∧ i = .int .i64 (k : Int) ∧ pre = xs.zipIdx.take k ∧ J pre wr ∧ W.heap.size ≤ wr.heap.size)
      (fun _ _ i _ => xs.length - (intOf i).toNat)
    case atStart => exact ⟨0, [], by omega, rfl, rfl, H0.out, Nat.le_refl _⟩
    case round =>
      obtain ⟨k, pre, hk, rfl, hpre, hJs, hzr⟩ := hrel
      by_cases hlt : k < xs.length
      · have hG := HIn.out _ _ hJs
        rcases hG.2 with ⟨h, _⟩ | ⟨p', hp', _, hpc', hrl'⟩
        · cases h
        obtain ⟨g, o, rfl, hg, e0, e1, e2, e3, e4, e5⟩ := hrl'.six k hlt
        have hts := zip_take xs k hlt
        rw [← hpre] at hts
        have hpx : pre ++ [(xs[k], k)] <+: xs.zipIdx := by
          rw [← hts]; exact List.take_prefix _ _
        obtain ⟨x, hx⟩ : ∃ x, x = xs[k] := ⟨_, rfl⟩
        rw [← hx] at e0 e1 e2 e3 e4 e5 hts hpx
        obtain ⟨al, ro, te, ho, fr, ti⟩ := x
        have hJ3 : J pre (wr.alloc (.cells #[.bool al, str ro, str te, str ho, .int .i64 fr, .int .i64 ti] 41)) := hJ pre wr _ hJs ((Below.refl _ _).alloc (Nat.le_refl _) _)
        obtain ⟨fn, tmps, assign, body, hy, hR⟩ := HY.out pre (⟨al, ro, te, ho, fr, ti⟩, k) _ hJ3 (by simp; omega) hpx
        have HTS := Lib.hid hts
        clear hts hpx hpre hG hpc' hp' hrl' hx hJs hJ3
        gi_wp2
        refine hR.mono ?_
        rintro e W3 (⟨rfl, hJ4, hz4, _, _⟩ | ⟨rfl, hJx4, _, _⟩)
        · simp at hz4
          gi_wp2
          go_roundw
          case rel => exact ⟨k + 1, _, by omega, by go_num, HTS.out.symm, hJ4, by omega⟩
          case measure => simp [intOf]; omega
        · gi_wp2
          refine bodyPost_ret (results_none rfl _ _ _) rfl ?_
          exact ⟨⟨_, rfl⟩, .inr ⟨_, hJx4⟩⟩
      · have htk : xs.zipIdx.take k = xs.zipIdx := List.take_of_length_le (by simp; omega)
        rw [htk] at hpre
        have HPRE := Lib.hid hpre
        clear hpre htk
        gi_wp2
        go_end0
        exact ⟨⟨_, rfl⟩, .inl ⟨_, HPRE.out, hJs⟩⟩
end Go.Proofs.YthpkmdojeegleaaGreatDoor
