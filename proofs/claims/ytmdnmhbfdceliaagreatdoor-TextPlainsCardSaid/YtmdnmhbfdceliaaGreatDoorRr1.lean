/-
  The document's reading: run, number.
-/
import Derived.Test.YtmdnmhbfdceliaaGreatDoorNb1
import Derived.Test.YtmdnmhbfdceliaaGreatDoorQj
namespace Go.Proofs.YtmdnmhbfdceliaaGreatDoor
open Flo Go.RowKit
/-- a number, brought to its end -/
def exg (ds : List UInt8) : Nat := ds.foldl (fun e b => min (10 * e + (b.toNat - 48)) 100000) 0
theorem exg_snoc (ds : List UInt8) (b : UInt8) : exg (ds ++ [b]) = min (10 * exg ds + (b.toNat - 48)) 100000 := by simp [exg]
theorem exg_min (ds : List UInt8) : exg ds = min (Dg.dv ds) 100000 := by
  have key : ∀ (ds : List UInt8) (a : Nat), ds.foldl (fun e b => min (10 * e + (b.toNat - 48)) 100000) (min a 100000) = min (ds.foldl (fun n b => n * 10 + (b.toNat - 48)) a) 100000 := by
    intro ds
    induction ds with
    | nil => intro a; rfl
    | cons x l ih =>
      intro a
      simp only [List.foldl_cons]
      rw [← ih]
      congr 1
      omega
  exact key ds 0
end Go.Proofs.YtmdnmhbfdceliaaGreatDoor
