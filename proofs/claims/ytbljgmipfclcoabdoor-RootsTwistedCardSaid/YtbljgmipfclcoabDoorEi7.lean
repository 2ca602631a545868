/-
  The contract of the document's eighth of layer 7.
-/
import Derived.Test.YtbljgmipfclcoabDoorSr7
namespace Go.Proofs.YtbljgmipfclcoabDoor
open Flo Go.RowKit

theorem eq_of_bt {x v : Nat} (h : bt x = v) (hv : nanB v = false) : x = v := by
  cases hn : nanB x
  · rw [← h, bt_fin hn]
  · have : nanB (bt x) = true := by rw [nan_bt]; exact hn
    rw [h, hv] at this; cases this
theorem bd_nan {x A : Nat} (h : Rp.bd x A) : nanB x = false := Ari.nan_fin h.1
theorem ret_ff {a b c d : Nat} (h : a = b) (h' : c = d) : Ending.returned (.tuple #[.float .f64 a, .float .f64 c]) = .returned (.tuple #[.float .f64 b, .float .f64 d]) := by rw [h, h']
theorem ser_of {y z : Nat} (odd : Nat) (h : bt y = bt z) : ∀ i, Rp.ser y odd i = Rp.ser z odd i := by
  intro i
  induction i with
  | zero => rfl
  | succ i ih =>
    show co .sub _ (co .mul y (Rp.ser y odd i)) = co .sub _ (co .mul z (Rp.ser z odd i))
    rw [ih, co_of_left h]
end Go.Proofs.YtbljgmipfclcoabDoor
