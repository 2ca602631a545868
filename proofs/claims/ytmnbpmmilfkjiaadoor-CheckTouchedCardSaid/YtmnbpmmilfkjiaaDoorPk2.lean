/-
  Package pack: a Writer's Uint.
-/
import Derived.Test.YtmnbpmmilfkjiaaDoorPk1
import Derived.Test.YtmnbpmmilfkjiaaDoorPkm
import Derived.Laws.BitsAllLaws
namespace Go.Proofs.YtmnbpmmilfkjiaaDoor
open Flo Go.RowKit
theorem or128 (x : Nat) : bits .or .u8 ((x : Int) % 256) 128 = ((x % 128 + 128 : Nat) : Int) := by
  have e : (x : Int) % 256 = ((x % 256 : Nat) : Int) := by omega
  have h : ∀ y : Fin 256, (y.val ||| 128 : Nat) = y.val % 128 + 128 := by decide +kernel
  rw [e, show (128 : Int) = ((128 : Nat) : Int) from rfl, u8_or_nat _ _ (by omega) (by decide), h ⟨x % 256, by omega⟩]
  show ((x % 256 % 128 + 128 : Nat) : Int) = _
  rw [Nat.mod_mod_of_dvd x (by decide : 128 ∣ 256)]
end Go.Proofs.YtmnbpmmilfkjiaaDoor
