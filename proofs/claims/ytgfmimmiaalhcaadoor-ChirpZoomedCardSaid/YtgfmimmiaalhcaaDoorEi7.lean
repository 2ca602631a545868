/-
  The contract of the document's eighth of layer 7.
-/
import Derived.Test.YtgfmimmiaalhcaaDoorSr7
namespace Go.Proofs.YtgfmimmiaalhcaaDoor
open Flo Go.RowKit

theorem eq_of_bt {x v : Nat} (h : bt x = v) (hv : nanB v = false) : x = v := by
  cases hn : nanB x
  · rw [← h, bt_fin hn]
  · have : nanB (bt x) = true := by rw [nan_bt]; exact hn
    rw [h, hv] at this; cases this
theorem bd_nan {x A : Nat} (h : Rp.bd x A) : nanB x = false := Ari.nan_fin h.1
theorem ret_ff {a b c d : Nat} (h : a = b) (h' : c = d) : Ending.returned (.tuple #[.float .f64 a, .float .f64 c]) = .returned (.tuple #[.float .f64 b, .float .f64 d]) := by rw [h, h']
theorem ser7_e (y : Nat) (o : Int) (odd : Nat) (w : World) (eo : o = (odd : Int)) (ho : odd < 2) :
    Calls Tryd.prog 58 #[.float .f64 y, .int .i64 o] w (RF w (Rp.ser y odd 8)) := by
  subst eo; exact ser7_c y odd w ho
theorem ser_of {y z : Nat} (odd : Nat) (h : bt y = bt z) : ∀ i, Rp.ser y odd i = Rp.ser z odd i := by
  intro i
  induction i with
  | zero => rfl
  | succ i ih =>
    show co .sub _ (co .mul y (Rp.ser y odd i)) = co .sub _ (co .mul z (Rp.ser z odd i))
    rw [ih, co_of_left h]
set_option maxHeartbeats 2000000 in
theorem ei7_c (r n : Nat) (w : World) (h : 8 * r ≤ n) (h1 : 1 ≤ n) (hn : n < 33554432) :
    Calls Tryd.prog 55 #[.int .i64 r, .int .i64 n] w fun e w' => e = .returned (.tuple #[.float .f64 (Rp.eiC r n), .float .f64 (Rp.eiS r n)]) ∧ ∃ k, w' = w.drewN k := by
  have hf := run_frombits
  by_cases h0 : r = 0
  · subst h0
    go_enter Tryd.func55, Tryd.ntmps55
    go_wp2
    go_ret2
    exact ⟨rfl, 0, rfl⟩
  · have c0 : ((r : Int) == 0) = false := beq_eq_false_iff_ne.2 (by omega)
    by_cases h8 : 8 * r = n
    · have c8 : (8 * (r : Int) == (n : Int)) = true := beq_iff_eq.2 (by omega)
      have v1 : Hid (Rp.half = Rp.eiC r n) := (by unfold Rp.eiC; rw [if_neg h0, if_pos h8] : Rp.half = Rp.eiC r n)
      have v2 : Hid (Rp.half = Rp.eiS r n) := (by unfold Rp.eiS; rw [if_neg h0, if_pos h8] : Rp.half = Rp.eiS r n)
      clear h8
      go_enter Tryd.func55, Tryd.ntmps55
      go_wp2
      go_ret2
      exact ⟨ret_ff v1.out v2.out, 0, rfl⟩
    · have c8 : (8 * (r : Int) == (n : Int)) = false := beq_eq_false_iff_ne.2 (by omega)
      have hm := @run_fmul Tryd.prog
      have hq := @run_fquo Tryd.prog
      have b1 : Hid (nanB (Rp.eiC r n) = false) := bd_nan (Rp.eiC_bd h hn)
      have b2 : Hid (nanB (Rp.eiS r n) = false) := bd_nan (Rp.eiS_bd h hn)
      have v1 : Hid (Rp.eiC r n = Rp.ser (co .mul (Rp.ang r n) (Rp.ang r n)) 0 8) := (by unfold Rp.eiC; rw [if_neg h0, if_neg h8] : Rp.eiC r n = _)
      have v2 : Hid (Rp.eiS r n = co .mul (Rp.ang r n) (Rp.ser (co .mul (Rp.ang r n) (Rp.ang r n)) 1 8)) := (by unfold Rp.eiS; rw [if_neg h0, if_neg h8] : Rp.eiS r n = _)
      go_enter Tryd.func55, Tryd.ntmps55
      go_wp2_with fail
      refine (ser7_e _ _ 0 _ rfl (by decide)).mono ?_
      rintro e w1 ⟨x1, k1, rfl, rfl, l1, e1⟩
      go_wp2_with fail
      refine (ser7_e _ _ 1 _ rfl (by decide)).mono ?_
      rintro e w2 ⟨x2, k2, rfl, rfl, l2, e2⟩
      go_wp2_with fail
      go_ret2
      have ea : ∀ v, bt (fr .quo (fr .mul 4618760256179416344 (floatOfInt .f64 (r : Int)) w) (floatOfInt .f64 (n : Int)) v) = bt (Rp.ang r n) := by
        intro v
        rw [bt_fr, co_fr_left]
        exact (bt_co ..).symm
      refine ⟨ret_ff ?_ ?_, _, rfl⟩
      · refine eq_of_bt ?_ b1.out
        rw [e1, v1.out]
        refine ser_of 0 ?_ 8
        rw [bt_fr, bt_co]
        exact co_of (ea _) (ea _)
      · refine eq_of_bt ?_ b2.out
        rw [bt_fr, v2.out]
        refine co_of (ea _) ?_
        rw [e2, bt_ser]
        refine ser_of 1 ?_ 8
        rw [bt_fr, bt_co]
        exact co_of (ea _) (ea _)
end Go.Proofs.YtgfmimmiaalhcaaDoor
