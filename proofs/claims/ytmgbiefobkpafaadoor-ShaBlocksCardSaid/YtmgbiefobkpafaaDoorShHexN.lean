/- Hex digits. -/
import Derived.Test.YtmgbiefobkpafaaDoorCut
import Derived.Test.YtmgbiefobkpafaaDoorShaO
import Derived.Deep.QuietTactic
import Derived.BigQuiet
import Derived.WalkSpells
namespace Go.Proofs.YtmgbiefobkpafaaDoor
open Go.RowKit

theorem hexL_cat (a b : List UInt8) : hexL (a ++ b) = hexL a ++ hexL b := by unfold hexL; rw [List.flatMap_append]
theorem hexL_nil : hexL [] = [] := by unfold hexL; rfl
theorem hexL_one (b : UInt8) : hexL [b] = [digit (b.toNat / 16), digit (b.toNat % 16)] := by unfold hexL; rfl
/-- One digit out of the sixteen. -/
def hexs : ByteArray := ⟨#[48, 49, 50, 51, 52, 53, 54, 55, 56, 57, 97, 98, 99, 100, 101, 102]⟩
theorem hexs_cut (n : Nat) (h : n < 16) : hexs.extract n (n + 1) = ⟨#[digit n]⟩ := by
  have : ∀ n : Fin 16, hexs.extract n.val (n.val + 1) = ⟨#[digit n.val]⟩ := by decide +kernel
  exact this ⟨n, h⟩
theorem hexs_two (t : List UInt8) (x : UInt8) : (ByteArray.mk t.toArray ++ (hexs.extract (bn x / 16).toNat (bn x / 16 + 1).toNat ++ hexs.extract (bn x % 16).toNat (bn x % 16 + 1).toNat)) = ByteArray.mk (t ++ hexL [x]).toArray := by
  have hx := x.toNat_lt
  have e1 : (bn x / 16).toNat = x.toNat / 16 := by unfold bn; omega
  have e2 : (bn x / 16 + 1).toNat = x.toNat / 16 + 1 := by unfold bn; omega
  have e3 : (bn x % 16).toNat = x.toNat % 16 := by unfold bn; omega
  have e4 : (bn x % 16 + 1).toNat = x.toNat % 16 + 1 := by unfold bn; omega
  rw [e1, e2, e3, e4, hexs_cut _ (by omega), hexs_cut _ (by omega), hexL_one]
  show ByteArray.mk t.toArray ++ (ByteArray.mk [digit (x.toNat / 16)].toArray ++ ByteArray.mk [digit (x.toNat % 16)].toArray) = _
  rw [ByteArray.mk_append_mk, ByteArray.mk_append_mk]; rfl
end Go.Proofs.YtmgbiefobkpafaaDoor
