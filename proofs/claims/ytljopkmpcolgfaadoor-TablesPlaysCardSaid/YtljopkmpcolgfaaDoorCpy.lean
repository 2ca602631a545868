/-
  Contracts of package cplx's Same, Compare and Quo and of the reference's.
-/
import Derived.Test.YtljopkmpcolgfaaDoorCpx
import Derived.Test.YtljopkmpcolgfaaDoorRef
import Derived.Test.YtljopkmpcolgfaaDoorSgn
namespace Go.Proofs.YtljopkmpcolgfaaDoor
open Flo Go.RowKit

/-- alike -/
def cs (a b c d : Nat) : Bool := ((bt a : Int) == (bt c : Int)) && ((bt b : Int) == (bt d : Int))

set_option maxHeartbeats 400000 in
theorem r2Same_c (a b c d : Nat) (w : World) (ha : a < 18446744073709551616) (hb : b < 18446744073709551616) (hc : c < 18446744073709551616) (hd : d < 18446744073709551616) :
    Calls Tryd.prog 18 #[.complex .f64 a b, .complex .f64 c d] w fun e w' => e = .returned (.bool (cs a b c d)) ∧ w = w' := by
  cases h1 : ((bt a : Int) == (bt c : Int))
  all_goals
    go_enter Tryd.func18, Tryd.ntmps18
    go_wp2_with (go_at_call 34; refine (rsame_c _ _ _ (by assumption) (by assumption)).mono ?_; rintro e w' ⟨rfl, rfl⟩)
    all_goals go_ret
    exact ⟨ret_bool (by unfold cs; rw [h1]; rfl), rfl⟩

/-- is the divisor's real part the greater one? -/
def qc (c d : Nat) : Bool := !nanB (sz c) && !nanB (sz d) && decide (sv (sz d) ≤ sv (sz c))
def quoRe (a b c d : Nat) : Nat := if qc c d then qrRe a b c d else qiRe a b c d
def quoIm (a b c d : Nat) : Nat := if qc c d then qrIm a b c d else qiIm a b c d

theorem ge_iff (a b : Nat) (ha : a < 18446744073709551616) (hb : b < 18446744073709551616) :
    (Ieee.double.order a b == some .gt || Ieee.double.order a b == some .eq) = (!nanB a && !nanB b && decide (sv b ≤ sv a)) := by
  rw [gt_iff a b ha hb, eq_iff a b ha hb]
  cases nanB a <;> cases nanB b <;> simp
  rw [Bool.eq_iff_iff]; simp; omega

end Go.Proofs.YtljopkmpcolgfaaDoor
