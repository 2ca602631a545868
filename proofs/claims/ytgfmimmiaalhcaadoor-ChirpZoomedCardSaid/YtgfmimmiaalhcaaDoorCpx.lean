/-
  Contracts of package cplx's plain functions and of the reference's: what each returns at every complex number, all NaN being one.
-/
import Derived.Test.YtgfmimmiaalhcaaDoorLow
import Derived.Test.YtgfmimmiaalhcaaDoorFop
import Derived.WalkLawsBesides
namespace Go.Proofs.YtgfmimmiaalhcaaDoor
open Flo Go.RowKit

def mulRe (a b c d : Nat) : Nat := co .sub (co .mul a c) (co .mul b d)
def mulIm (a b c d : Nat) : Nat := co .add (co .mul a d) (co .mul b c)
theorem mulRe_bt (a b c d : Nat) : mulRe (bt a) (bt b) (bt c) (bt d) = mulRe a b c d := by unfold mulRe; rw [co_bt, co_bt]
theorem mulIm_bt (a b c d : Nat) : mulIm (bt a) (bt b) (bt c) (bt d) = mulIm a b c d := by unfold mulIm; rw [co_bt, co_bt]
def normOf (a b : Nat) : Nat := co .add (co .mul a a) (co .mul b b)
def intF (n : Int) : Nat := floatOfInt .f64 n

def qrR (c d : Nat) : Nat := co .quo d c
def qrT (c d : Nat) : Nat := co .add c (co .mul d (qrR c d))
def qrRe (a b c d : Nat) : Nat := co .quo (co .add a (co .mul b (qrR c d))) (qrT c d)
def qrIm (a b c d : Nat) : Nat := co .quo (co .sub b (co .mul a (qrR c d))) (qrT c d)
def qiR (c d : Nat) : Nat := co .quo c d
def qiT (c d : Nat) : Nat := co .add (co .mul c (qiR c d)) d
def qiRe (a b c d : Nat) : Nat := co .quo (co .add (co .mul a (qiR c d)) b) (qiT c d)
def qiIm (a b c d : Nat) : Nat := co .quo (co .sub (co .mul b (qiR c d)) a) (qiT c d)

set_option maxHeartbeats 400000 in
theorem cConj_c (a b : Nat) (w : World) (hb : b < 18446744073709551616) :
    Calls Tryd.prog 32 #[.complex .f64 a b] w fun e w' => e = .returned (.complex .f64 (a) (Ari.ng b)) ∧ w = w' := by
  have h1 := run_fneg (P := Tryd.prog) b w hb
  go_enter Tryd.func32, Tryd.ntmps32
  go_wp2
  go_ret
  exact ⟨rfl, rfl⟩
set_option maxHeartbeats 800000 in
theorem cMul_c (a b c d : Nat) (w : World) :
    Calls Tryd.prog 51 #[.complex .f64 a b, .complex .f64 c d] w (RC w (mulRe a b c d) (mulIm a b c d)) := by
  have h1 := @run_fmul Tryd.prog
  have h2 := @run_fadd Tryd.prog
  have h3 := @run_fsub Tryd.prog
  go_enter Tryd.func51, Tryd.ntmps51
  go_wp2
  go_ret
  exact ⟨_, _, _, rfl, rfl, fr_lt .., fr_lt .., by simp only [bt_fr, co_fr_left, co_fr_right]; rfl, by simp only [bt_fr, co_fr_left, co_fr_right]; rfl⟩
end Go.Proofs.YtgfmimmiaalhcaaDoor
