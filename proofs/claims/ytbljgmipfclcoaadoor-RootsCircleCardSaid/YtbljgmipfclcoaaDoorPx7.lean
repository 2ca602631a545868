/-
  The statements' own 'equal' of layer 7, where it answers true; a complex number's sign turned.
-/
import Derived.Test.YtbljgmipfclcoaaDoorPu7
import Derived.Test.YtbljgmipfclcoaaDoorRtz
namespace Go.Proofs.YtbljgmipfclcoaaDoor
open Flo Go.RowKit

theorem run_cneg {P : Program} (x y : Nat) (w : World) (h : x < 18446744073709551616) (h' : y < 18446744073709551616) : (Op.unary .neg (.complex .f64 x y)).run P w = .ok (.complex .f64 (Ari.ng x) (Ari.ng y)) w := by
  have e : (Op.unary .neg (.complex .f64 x y)).run P w = .ok (.complex .f64 (Op.negFloat .f64 x) (Op.negFloat .f64 y)) w := by simp [Op.unary]
  rw [e, negFloat_eq h, negFloat_eq h']
theorem order_zp {x : Nat} (h : Ari.fin x) : FloatKind.f64.format.order (Rp.zp x) x = some .eq := by
  have := Ari.eq_fin (Rp.fin_zp h) h
  rw [Rp.fz_zp, decide_eq_true rfl] at this
  exact beq_iff_eq.1 this
theorem zp_same {x : Nat} (h : Ari.fin x) (h0 : FloatKind.f64.format.order (Rp.zp x) 0 ≠ some .eq) : bt (Rp.zp x) = bt x := by
  have o := order0 (Rp.fin_zp h)
  by_cases c : x % 9223372036854775808 = 0
  · exfalso
    apply h0
    have e : Rp.zp x = 0 := by unfold Rp.zp; rw [if_pos c]
    rw [e]; decide +kernel
  · have e : Rp.zp x = x := by unfold Rp.zp; rw [if_neg c]
    rw [e]
set_option maxHeartbeats 2000000 in
theorem equal7_c (a b : Nat) (w : World) (ha : Ari.fin a) (hb : Ari.fin b) :
    Calls Tryd.prog 27 #[.complex .f64 (Rp.zp a) (Rp.zp b), .complex .f64 a b] w fun e w' => e = .returned (.bool true) ∧ w = w' := by
  have o1 := order_zp ha
  have o2 := order_zp hb
  have l1 := (Rp.fin_zp ha).1
  have l2 := (Rp.fin_zp hb).1
  have l3 := ha.1
  have l4 := hb.1
  have z1 : Hid (FloatKind.f64.format.order (Rp.zp a) 0 ≠ some .eq → bt (Rp.zp a) = bt a) := zp_same ha
  have z2 : Hid (FloatKind.f64.format.order (Rp.zp b) 0 ≠ some .eq → bt (Rp.zp b) = bt b) := zp_same hb
  clear ha hb
  generalize Rp.zp a = x at *
  generalize Rp.zp b = y at *
  by_cases c1 : FloatKind.f64.format.order x 0 = some .eq
  · have c1' : (FloatKind.f64.format.order x 0 == some .eq) = true := beq_iff_eq.2 c1
    go_enter Tryd.func27, Tryd.ntmps27
    go_wp2_with fail
    go_ret
    exact ⟨rfl, rfl⟩
  · have c1' : (FloatKind.f64.format.order x 0 == some .eq) = false := beq_eq_false_iff_ne.2 c1
    by_cases c2 : FloatKind.f64.format.order y 0 = some .eq
    · have c2' : (FloatKind.f64.format.order y 0 == some .eq) = true := beq_iff_eq.2 c2
      clear c1
      go_enter Tryd.func27, Tryd.ntmps27
      go_wp2_with fail
      go_ret
      exact ⟨rfl, rfl⟩
    · have c2' : (FloatKind.f64.format.order y 0 == some .eq) = false := beq_eq_false_iff_ne.2 c2
      have s := same7_c x y a b w l1 l2 l3 l4 (z1.out c1) (z2.out c2)
      clear c1 c2
      go_enter Tryd.func27, Tryd.ntmps27
      go_wp2_with fail
      refine s.mono ?_
      rintro e w1 ⟨rfl, rfl⟩
      go_wp2_with fail
      go_ret
      exact ⟨rfl, rfl⟩
end Go.Proofs.YtbljgmipfclcoaaDoor
