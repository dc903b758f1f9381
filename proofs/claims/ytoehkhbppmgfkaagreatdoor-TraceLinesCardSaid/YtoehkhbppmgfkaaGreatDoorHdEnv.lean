/- What the library's variables hold: as long as no elder block turns. -/
import Derived.Test.YtoehkhbppmgfkaaGreatDoorSl
import Derived.Test.YtoehkhbppmgfkaaGreatDoorShelf
import Derived.Test.YtoehkhbppmgfkaaGreatDoorShelf2
import Derived.Lib.Hide
import Derived.Lib.LaidTab
import Derived.Stop.LaidErr
namespace Go.Proofs.YtoehkhbppmgfkaaGreatDoor
open Go.RowKit Go.Shelf
def NilOrI (v : Value) : Prop := v = .nilIface ∨ ∃ te pe, v = .iface te pe
structure Env (w : World) : Prop where
  looks : ∃ m, w.cell? ⟨3, 0, none⟩ = some (.int .i64 m)
  syn : ∃ v, w.cell? ⟨1, 0, none⟩ = some v ∧ NilOrI v
  rng : ∃ v, w.cell? ⟨2, 0, none⟩ = some v ∧ NilOrI v
  pow : Lib.TabIs Tryz.prog w "internal/strconv.uint64pow10" .u64 Lib.pow10Tab
  low : 0 < w.heap.size
theorem varOf_below {B g : Nat} {W W' : World} {n : String} {cs : Array Value} (h : Below B W W') (hg : Tryz.prog.globalNamed n = some g) (hgB : g < B) (hv : W.var? Tryz.prog n = some cs) : W'.var? Tryz.prog n = some cs := by
  unfold World.var? at hv ⊢
  simp only [hg, Option.bind_some] at hv ⊢
  rw [h.block g hgB]
  exact hv
theorem cell_below {W W' : World} {b o : Nat} {v : Value} (h : W.cell? ⟨b, o, none⟩ = some v) (hb : Below W.heap.size W W') : W'.cell? ⟨b, o, none⟩ = some v := by
  rw [hb.cell (p := ⟨b, o, none⟩) (World.block_lt_of_cell? W _ h)]; exact h
theorem Env.below {w w' : World} (h : Env w) (hb : Below w.heap.size w w') : Env w' := by
  obtain ⟨⟨m, h1⟩, ⟨v, h2, h2'⟩, ⟨u, h3, h3'⟩, h4, h5⟩ := h
  exact ⟨⟨m, cell_below h1 hb⟩, ⟨v, cell_below h2 hb, h2'⟩, ⟨u, cell_below h3 hb, h3'⟩, varOf_below hb (by kernel_rfl) h5 h4, by have := hb.size; omega⟩
end Go.Proofs.YtoehkhbppmgfkaaGreatDoor
