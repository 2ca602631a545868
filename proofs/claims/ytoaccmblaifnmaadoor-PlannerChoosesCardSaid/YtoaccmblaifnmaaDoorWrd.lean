/-
  Plain mathematics of 64-bit words: what Go's and, or, xor and and-not at the sign bit come to, and the plain functions of package bits. Nothing of the program.
-/
import Derived.WalkKit
import Derived.Test.YtoaccmblaifnmaaDoorFlo
namespace Go.Proofs.YtoaccmblaifnmaaDoor
open Flo

theorem andNot_sign (n : Nat) (h : n < 18446744073709551616) : bits .andNot .u64 (n : Int) 9223372036854775808 = ((n % 9223372036854775808 : Nat) : Int) := by
  have := u64_andNot_nat n 9223372036854775808 h (by decide)
  refine this.trans ?_
  rw [show (18446744073709551615 - 9223372036854775808 : Nat) = 2 ^ 63 - 1 from by decide, Nat.and_two_pow_sub_one_eq_mod]
theorem and_sign (n : Nat) (h : n < 18446744073709551616) : bits .and .u64 (n : Int) 9223372036854775808 = if n < 9223372036854775808 then 0 else 9223372036854775808 := by
  have := u64_and_nat n 9223372036854775808 h (by decide)
  refine this.trans ?_
  rw [show (9223372036854775808 : Nat) = 2 ^ 63 from by decide, nat_bit]
  split <;> omega
theorem or_sign (n : Nat) (h : n < 9223372036854775808) : bits .or .u64 (n : Int) 9223372036854775808 = ((n + 9223372036854775808 : Nat) : Int) := by
  have := u64_or_nat n 9223372036854775808 (by omega) (by decide)
  refine this.trans ?_
  rw [Nat.or_comm, nat_join 63 _ _ (by decide) (by omega)]
  omega
theorem not_u64 (n : Nat) (h : n < 18446744073709551616) : bits .xor .u64 IntKind.u64.max (n : Int) = ((18446744073709551615 - n : Nat) : Int) := by
  show IntKind.u64.wrap ((BitVec.ofInt 64 IntKind.u64.max ^^^ BitVec.ofInt 64 (n : Int)).toNat : Int) = _
  have h1 : BitVec.ofInt 64 IntKind.u64.max = BitVec.allOnes 64 := by decide
  rw [h1, BitVec.allOnes_xor, BitVec.toNat_not, ofInt_u64 n h, IntKind.wrap_u64]
  omega

/-- The plain functions of package bits. -/
def sz (n : Nat) : Nat := n % 9223372036854775808
theorem sz_lt (n : Nat) : sz n < 9223372036854775808 := by unfold sz; omega
def bt (n : Nat) : Nat := if 9218868437227405312 < n % 9223372036854775808 then 9221120237041090560 else n
def pl (n : Nat) : Nat := if bt n < 9223372036854775808 then bt n + 9223372036854775808 else 18446744073709551615 - bt n
def att (p : Nat) : Nat := if 9223372036854775808 ≤ p then p - 9223372036854775808 else 18446744073709551615 - p
def up (n : Nat) : Nat := if 9218868437227405312 < n % 9223372036854775808 ∨ n = 9218868437227405312 then n else att (pl n + 1)
def dn (n : Nat) : Nat := if 9218868437227405312 < n % 9223372036854775808 ∨ n = 18442240474082181120 then n else att (pl n - 1)
def cab (b : Nat) : Int := if b = 0 then 5 else if b < 4503599627370496 then 6 else if b < 9218868437227405312 then 7 else if b = 9218868437227405312 then 8 else 9
def cls (n : Nat) : Int := if bt n < 9223372036854775808 then cab (bt n) else 9 - cab (bt n % 9223372036854775808)
def cp (a b : Nat) : Int := if pl a < pl b then -1 else if pl b < pl a then 1 else 0

theorem bt_lt {n : Nat} (h : n < 18446744073709551616) : bt n < 18446744073709551616 := by unfold bt; split <;> omega
theorem pl_lt {n : Nat} (h : n < 18446744073709551616) : pl n < 18446744073709551616 := by have := bt_lt h; unfold pl; split <;> omega
theorem att_lt {p : Nat} (h : p < 18446744073709551616) : att p < 18446744073709551616 := by unfold att; split <;> omega
theorem ret_int {k : IntKind} {a b : Int} (h : a = b) : Ending.returned (.int k a) = .returned (.int k b) := by rw [h]
theorem ret_float {k : FloatKind} {a b : Nat} (h : a = b) : Ending.returned (.float k a) = .returned (.float k b) := by rw [h]
theorem ret_bool {a b : Bool} (h : a = b) : Ending.returned (.bool a) = .returned (.bool b) := by rw [h]
end Go.Proofs.YtoaccmblaifnmaaDoor
