/- trace: an argument that is an event; what the row's listed variables give; TraceLines at an argument. -/
import Derived.Test.YtoehkhbppmgfkaaGreatDoorTvLL
import Derived.Test.YtoehkhbppmgfkaaGreatDoorArgs
import Derived.Test.YtoehkhbppmgfkaaGreatDoorRows
import Derived.ChangeArms
import Derived.Lib.LaidU8
import Derived.MakeChecks
import Derived.Stop.LaidErr
import Derived.Shelf.Vars
set_option maxRecDepth 100000
namespace Go.Proofs.YtoehkhbppmgfkaaGreatDoor
open Go.ChangeShapes Go.WideShapes Go.ChangeAt Go.RowKit Go.Shelf
/-- An event that came in. -/
structure EvArg (v : Value) (n tk : Nat) (kd : List UInt8) (cn : Int) (tx : List UInt8) : Prop where
  eq : v = .agg #[.int .u64 (n : Int), .int .u64 (tk : Int), str kd, .int .i64 cn, str tx]
  kl : kd.length ≤ 9223372036854775807
  tl : tx.length ≤ 9223372036854775807
section
variable {H : Type} {enc : TypeId × Value → H}
theorem cells_evr : Tryz.prog.cellsOf 24 = 5 := by kernel_rfl
theorem str_of_trodE {W : World} {base fuel : Nat} {v : Value} {x : DataW H × List MemPlace} (hf : DataW.trod enc Tryz.prog W base (fun _ => true) true fuel 9 [v] = some x) : ∃ s : List UInt8, v = str s ∧ s.length ≤ 9223372036854775807 := by
  obtain ⟨s1, hv, _, hs1⟩ := DataW.trod_string Tryz.underlying9 hf
  simp only [List.cons.injEq, and_true] at hv
  subst hv
  exact ⟨s1.data.toList, by simp, by unfold maxLen at hs1; simpa using hs1⟩
theorem u64_of_trod {W : World} {base fuel : Nat} {v : Value} {x : DataW H × List MemPlace} (hf : DataW.trod enc Tryz.prog W base (fun _ => true) true fuel 22 [v] = some x) : ∃ n : Nat, v = .int .u64 (n : Int) := by
  obtain ⟨n, hv, _, hw⟩ := DataW.trod_int Tryz.underlying22 hf
  simp only [List.cons.injEq, and_true] at hv
  subst hv
  have h0 : 0 ≤ n := by
    simp [Lit.wf, IntKind.min, IntKind.max, IntKind.bits, IntKind.signed] at hw
    omega
  exact ⟨n.toNat, by rw [Int.toNat_of_nonneg h0]⟩
theorem open_ev {W : World} {base : Nat} {v : Value} {d : DataW H} {ps : List MemPlace} (hval : Value.okWide Tryz.prog W .any base 24 v) (h : DataW.Trod enc Tryz.prog W 0 (fun _ => true) true 24 v d ps) :
    ∃ n tk kd cn tx, EvArg v n tk kd cn tx := by
  obtain ⟨cs, rfl, hsz⟩ := okWide_struct Tryz.underlying24 hval
  obtain ⟨fuel, hf⟩ := h
  rw [show Value.cells (.agg cs) = cs by simp [Value.cells]] at hf
  obtain ⟨xs, n, _, _, _, hlen, hat⟩ := DataW.trod_struct Tryz.underlying24 hf
  rw [cells_evr] at hsz
  obtain ⟨c0, c1, c2, c3, c4, hc⟩ := five (l := cs.toList) (by simpa using hsz)
  obtain ⟨y0, y1, y2, y3, y4, rfl⟩ := five (l := xs) hlen
  have hcs : cs = #[c0, c1, c2, c3, c4] := by rw [← Array.toArray_toList (xs := cs), hc]
  rw [hc] at hat
  have h0 := hat 0 _ rfl
  have h1 := hat 1 _ rfl
  have h2 := hat 2 _ rfl
  have h3 := hat 3 _ rfl
  have h4 := hat 4 _ rfl
  obtain ⟨a, ea⟩ := u64_of_trod (v := c0) h0
  obtain ⟨b, eb⟩ := u64_of_trod (v := c1) h1
  obtain ⟨k, ek, hk⟩ := str_of_trodE (v := c2) h2
  obtain ⟨x, ex, _, _⟩ := DataW.trod_int Tryz.underlying3 h3
  obtain ⟨t, et, ht⟩ := str_of_trodE (v := c4) h4
  have ex2 : c3 = .int .i64 x := by
    have : [c3] = [Value.int .i64 x] := ex
    simpa using this
  subst ea; subst eb; subst ek; subst ex2; subst et; subst hcs
  exact ⟨a, b, k, x, t, rfl, hk, ht⟩
end
theorem starE : "*" ++ "errors.errorString" = "*errors.errorString" := by decide
theorem rowE (u : TypeId) (h : Tryz.prog.typeName? 3 u = some "*errors.errorString") : u = 149 :=
  typeName_ptr_named (nm := "errors.errorString") (by rw [starE]; kernel_rfl) (by kernel_rfl) (by decide) u (by rw [starE]; exact h)
abbrev laid8 : List (String × DataW Unit) := [("math/bits.deBruijn32tab", Rows.laid_math_bits_deBruijn32tab), ("math/bits.deBruijn64tab", Rows.laid_math_bits_deBruijn64tab), ("internal/strconv.uint64pow10", Rows.laid_internal_strconv_uint64pow10), ("unicode/utf8.acceptRanges", Rows.laid_unicode_utf8_acceptRanges), ("ostiary/sha.roundConstants", Rows.laid_ostiary_sha_roundConstants), ("strconv.ErrRange", Rows.laid_strconv_ErrRange), ("strconv.ErrSyntax", Rows.laid_strconv_ErrSyntax), ("unicode/utf8.first", Rows.laid_unicode_utf8_first)]
theorem env_of {W : World} (h : laidMetH Tryz.prog laid8 W) (hsh : W.ShapedOpen Tryz.prog) : Env W := by
  have hp := powE_of_laid h (by kernel_rfl) (.tail _ (.tail _ (.head _)))
  rw [MakeChecks.laidMetH_plain _ _ _ (by kernel_rfl)] at h
  obtain ⟨m, hm⟩ := Go.Proofs.cell_of_shapedOpen_int (zero := #[.int .i64 0]) (t := 3) (g := 3) hsh (of_decide_eq_true (by kernel_rfl)) (by kernel_rfl) rfl (by kernel_rfl) (by kernel_rfl) Tryz.underlying3
  have h4 : laidMet Tryz.prog (("strconv.ErrRange", Rows.laid_strconv_ErrRange) :: ("strconv.ErrSyntax", Rows.laid_strconv_ErrSyntax) :: [("unicode/utf8.first", Rows.laid_unicode_utf8_first)]) W := h.tail.tail.tail.tail.tail
  obtain ⟨a0, s0, hv0, -, -, -⟩ := laid_sentinel h4 (g := 2) (ti := 58) (te := 151) (ts := 9) (by kernel_rfl) (by kernel_rfl) Tryz.underlying58 rowE Tryz.underlying149 Tryz.underlying151 rfl rfl Tryz.underlying9 (by kernel_rfl) (by kernel_rfl)
  obtain ⟨a1, s1, hv1, -, -, -⟩ := laid_sentinel h4.tail (g := 1) (ti := 58) (te := 151) (ts := 9) (by kernel_rfl) (by kernel_rfl) Tryz.underlying58 rowE Tryz.underlying149 Tryz.underlying151 rfl rfl Tryz.underlying9 (by kernel_rfl) (by kernel_rfl)
  exact ⟨⟨m, hm⟩, ⟨_, by have h0 := World.var?_cell (g := 1) (by kernel_rfl) hv1 0; simpa using h0, .inr ⟨_, _, rfl⟩⟩, ⟨_, by have h0 := World.var?_cell (g := 2) (by kernel_rfl) hv0 0; simpa using h0, .inr ⟨_, _, rfl⟩⟩, hp.pow, hp.low⟩
theorem lines_w (v : Value) (n tk : Nat) (kd : List UInt8) (cn : Int) (tx s : List UInt8) (w : World) (h : EvArg v n tk kd cn tx) (hs : s.length ≤ 9223372036854775807) (hT : TabA w) (hE : Env w) :
    Calls Tryz.prog 3 #[v, str s] w fun e w' => e = .returned (.bool true) ∧ Below w.heap.size w w' := by
  rw [h.eq]
  exact traceLines_law n tk kd cn tx s w h.kl h.tl hs hT hE
end Go.Proofs.YtoehkhbppmgfkaaGreatDoor
