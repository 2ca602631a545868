/-
  Contracts of package cplx's plain functions and of the reference's: what each returns at every complex number, all NaN being one.
-/
import Derived.Test.YtljopkmpcolgfaaDoorLow
import Derived.Test.YtljopkmpcolgfaaDoorFop
import Derived.WalkLawsBesides
namespace Go.Proofs.YtljopkmpcolgfaaDoor
open Flo Go.RowKit

def mulRe (a b c d : Nat) : Nat := co .sub (co .mul a c) (co .mul b d)
def mulIm (a b c d : Nat) : Nat := co .add (co .mul a d) (co .mul b c)
theorem mulRe_bt (a b c d : Nat) : mulRe (bt a) (bt b) (bt c) (bt d) = mulRe a b c d := by unfold mulRe; rw [co_bt, co_bt]
theorem mulIm_bt (a b c d : Nat) : mulIm (bt a) (bt b) (bt c) (bt d) = mulIm a b c d := by unfold mulIm; rw [co_bt, co_bt]
def normOf (a b : Nat) : Nat := co .add (co .mul a a) (co .mul b b)
def intF (n : Int) : Nat := floatOfInt .f64 n

def qrR (c d : Nat) : Nat := co .quo d c
def qrT (c d : Nat) : Nat := co .add c (co .mul d (qrR c d))
def qrRe (a b c d : Nat) : Nat := co .quo (co .add a (co .mul b (qrR c d))) (qrT c d)
def qrIm (a b c d : Nat) : Nat := co .quo (co .sub b (co .mul a (qrR c d))) (qrT c d)
def qiR (c d : Nat) : Nat := co .quo c d
def qiT (c d : Nat) : Nat := co .add (co .mul c (qiR c d)) d
def qiRe (a b c d : Nat) : Nat := co .quo (co .add (co .mul a (qiR c d)) b) (qiT c d)
def qiIm (a b c d : Nat) : Nat := co .quo (co .sub (co .mul b (qiR c d)) a) (qiT c d)

end Go.Proofs.YtljopkmpcolgfaaDoor
