/-
  The statements' own 'equal' of layer 7, where it answers true; a complex number's sign turned.
-/
import Derived.Test.YtehaokdjdhejlaaDoorPu7
import Derived.Test.YtehaokdjdhejlaaDoorRtz
namespace Go.Proofs.YtehaokdjdhejlaaDoor
open Flo Go.RowKit

theorem run_cneg {P : Program} (x y : Nat) (w : World) (h : x < 18446744073709551616) (h' : y < 18446744073709551616) : (Op.unary .neg (.complex .f64 x y)).run P w = .ok (.complex .f64 (Ari.ng x) (Ari.ng y)) w := by
  have e : (Op.unary .neg (.complex .f64 x y)).run P w = .ok (.complex .f64 (Op.negFloat .f64 x) (Op.negFloat .f64 y)) w := by simp [Op.unary]
  rw [e, negFloat_eq h, negFloat_eq h']
theorem order_zp {x : Nat} (h : Ari.fin x) : FloatKind.f64.format.order (Rp.zp x) x = some .eq := by
  have := Ari.eq_fin (Rp.fin_zp h) h
  rw [Rp.fz_zp, decide_eq_true rfl] at this
  exact beq_iff_eq.1 this
theorem zp_same {x : Nat} (h : Ari.fin x) (h0 : FloatKind.f64.format.order (Rp.zp x) 0 ≠ some .eq) : bt (Rp.zp x) = bt x := by
  have o := order0 (Rp.fin_zp h)
  by_cases c : x % 9223372036854775808 = 0
  · exfalso
    apply h0
    have e : Rp.zp x = 0 := by unfold Rp.zp; rw [if_pos c]
    rw [e]; decide +kernel
  · have e : Rp.zp x = x := by unfold Rp.zp; rw [if_neg c]
    rw [e]
end Go.Proofs.YtehaokdjdhejlaaDoor
