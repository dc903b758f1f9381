/- The tables of the sixty-four words, as a row lists them. The reference's table of the sixty-four words, as a row lists it. -/
import Derived.Test.YtlnjpmpddomjiaaGreatDoorGmMix
import Derived.Lib.LaidTab
import Derived.Lib.LaidU8
import Derived.MakeChecks
namespace Go.Proofs.YtlnjpmpddomjiaaGreatDoor
open Go.RowKit
def kz : List Int := [1116352408, 1899447441, 3049323471, 3921009573, 961987163, 1508970993, 2453635748, 2870763221, 3624381080, 310598401, 607225278, 1426881987, 1925078388, 2162078206, 2614888103, 3248222580, 3835390401, 4022224774, 264347078, 604807628, 770255983, 1249150122, 1555081692, 1996064986, 2554220882, 2821834349, 2952996808, 3210313671, 3336571891, 3584528711, 113926993, 338241895, 666307205, 773529912, 1294757372, 1396182291, 1695183700, 1986661051, 2177026350, 2456956037, 2730485921, 2820302411, 3259730800, 3345764771, 3516065817, 3600352804, 4094571909, 275423344, 430227734, 506948616, 659060556, 883997877, 958139571, 1322822218, 1537002063, 1747873779, 1955562222, 2024104815, 2227730452, 2361852424, 2428436474, 2756734187, 3204031479, 3329325298]
theorem kz_KL (j : Nat) (h : j < 64) : kz.getD j 0 = wn (KL.getD j 0) := by
  have : ∀ j : Fin 64, kz.getD j.val 0 = wn (KL.getD j.val 0) := by decide +kernel
  exact this ⟨j, h⟩
theorem kz_rows {H : Type} : (Rows.laid_ostiary_sha_roundConstants : DataW H) = Lib.tabData .u32 kz := rfl
theorem tab_of_reads {P : Program} {W : World} {name : String} {k : IntKind} {zs : List Int} {g : Nat} {t e : TypeId} {n : Nat}
    (hg : P.globalNamed name = some g) (hty : (P.globals[g]?).map (·.type) = some t) (ht : P.underlying t = some (.array n e)) (he : P.underlying e = some (.int k)) (hce : P.cellsOf e = 1) (hct : P.cellsOf t = n)
    (h : Lib.VarReads P W name (Lib.tabData k zs)) : Lib.TabIs P W name k zs := by
  obtain ⟨g', t', cs, fuel, p, hg', ht', hvar, hd⟩ := h
  obtain rfl := Option.some.inj (hg.symm.trans hg')
  obtain rfl := Option.some.inj (hty.symm.trans ht')
  unfold Lib.TabIs
  rw [hvar, ← Lib.cells_of_tab ht he hce hct hd]
theorem tabA_of_laid {laid : List (String × DataW Unit)} {W : World} (h : laidMetH Tryz.prog laid W) (hp : (laid.all fun x => x.2.handleName?.isNone) = true) (hm : ("ostiary/sha.roundConstants", Rows.laid_ostiary_sha_roundConstants) ∈ laid) : TabA W := by
  rw [MakeChecks.laidMetH_plain _ _ _ hp] at h
  have hr := Lib.laidMet.reads h hm
  rw [kz_rows] at hr
  have ht := tab_of_reads (g := 0) (t := 139) (e := 110) (n := 64) (by kernel_rfl) (by kernel_rfl) Tryz.underlying139 Tryz.underlying110 (by kernel_rfl) (by kernel_rfl) hr
  intro j hj
  rw [ht.cell (by kernel_rfl) j hj, kz_KL j hj]
end Go.Proofs.YtlnjpmpddomjiaaGreatDoor
set_option maxRecDepth 100000
namespace Go.Proofs.YtlnjpmpddomjiaaGreatDoor
open Go.RowKit
theorem kz_rows2 {H : Type} : (Rows.laid_ostiary_ostiaryref01_words : DataW H) = Lib.tabData .u32 kz := rfl
theorem tabB_of_laid {laid : List (String × DataW Unit)} {W : World} (h : laidMetH Tryz.prog laid W) (hp : (laid.all fun x => x.2.handleName?.isNone) = true) (hm : ("ostiary/ostiaryref01.words", Rows.laid_ostiary_ostiaryref01_words) ∈ laid) : TabB W := by
  rw [MakeChecks.laidMetH_plain _ _ _ hp] at h
  have hr := Lib.laidMet.reads h hm
  rw [kz_rows2] at hr
  have ht := tab_of_reads (g := 2) (t := 139) (e := 110) (n := 64) (by kernel_rfl) (by kernel_rfl) Tryz.underlying139 Tryz.underlying110 (by kernel_rfl) (by kernel_rfl) hr
  intro j hj
  rw [ht.cell (by kernel_rfl) j hj, kz_KL j hj]
end Go.Proofs.YtlnjpmpddomjiaaGreatDoor
