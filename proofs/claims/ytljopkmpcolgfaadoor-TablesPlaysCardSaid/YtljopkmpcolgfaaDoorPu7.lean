/-
  The statements' own 'lives', 'same' and 'fit' of layer 7; the document's Mul and Twist.
-/
import Derived.Test.YtljopkmpcolgfaaDoorPt7
import Derived.Test.YtljopkmpcolgfaaDoorRef
namespace Go.Proofs.YtljopkmpcolgfaaDoor
open Flo Go.RowKit

theorem w41 : Rp.pc 4 (Rp.md 4 1) = 0 ∧ Rp.pim 4 (Rp.md 4 1) = 13830554455654793216 := by decide +kernel
theorem w81 : Rp.pc 8 (Rp.md 8 1) = 4604544271217802189 := by decide +kernel
theorem e18 : Rp.eiC 1 8 = 4604544271217802189 ∧ Rp.eiS 1 8 = 4604544271217802189 := by decide +kernel
theorem w42 : Rp.pc 4 2 = 13830554455654793216 ∧ Rp.pim 4 2 = 0 := by decide +kernel
theorem md_zero {n : Nat} (h : 0 < n) {k : Int} : Rp.md n k = 0 ↔ k.tmod n = 0 := by
  have e := Rp.md_eq h k
  have : k.tmod n = 0 ↔ k % (n : Int) = 0 := by
    rw [← Int.dvd_iff_tmod_eq_zero, Int.dvd_iff_emod_eq_zero]
  rw [this, ← e]
  omega
end Go.Proofs.YtljopkmpcolgfaaDoor
