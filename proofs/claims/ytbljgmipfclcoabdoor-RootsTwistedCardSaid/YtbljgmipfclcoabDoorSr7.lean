/-
  Contracts of the document's series and eighth of layer 7.
-/
import Derived.Test.YtbljgmipfclcoabDoorLow
import Derived.Test.YtbljgmipfclcoabDoorRtr
namespace Go.Proofs.YtbljgmipfclcoabDoor
open Flo Go.RowKit

theorem bt_ser (y odd i : Nat) : bt (Rp.ser y odd i) = Rp.ser y odd i := by
  cases i with
  | zero => exact bt_co ..
  | succ i => exact bt_co ..
theorem bt_ffac (n : Nat) : bt (Rp.ffac n) = Rp.ffac n := by
  match n with
  | 0 => decide
  | 1 => decide
  | n + 2 => exact bt_co ..
theorem ffac_step {m : Nat} (h : 2 ≤ m) : Rp.ffac m = co .mul (Rp.ffac (m - 1)) (Rp.fl (m : Int)) := by
  obtain ⟨k, rfl⟩ : ∃ k, m = k + 2 := ⟨m - 2, by omega⟩
  rfl
end Go.Proofs.YtbljgmipfclcoabDoor
