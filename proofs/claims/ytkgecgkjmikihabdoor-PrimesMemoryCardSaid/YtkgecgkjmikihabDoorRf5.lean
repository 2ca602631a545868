/-
  Contracts of the document's answers of layer 5 (timbreref05) that take words: gcd, Mul, Pow, less, Inverse, Join.
-/
import Derived.Test.YtkgecgkjmikihabDoorMo2
import Derived.Test.YtkgecgkjmikihabDoorCrt
namespace Go.Proofs.YtkgecgkjmikihabDoor
open Flo Go.RowKit Go.Lib

theorem mul64_q (x y : Int) (w : World) (hx0 : 0 ≤ x) (hx : x < 18446744073709551616) (hy0 : 0 ≤ y) (hy : y < 18446744073709551616) :
    Calls Tryd.prog 13 #[.int .u64 x, .int .u64 y] w fun e w' => e = .returned (.tuple #[.int .u64 (mh x.toNat y.toNat : Nat), .int .u64 (ml x.toNat y.toNat : Nat)]) ∧ w' = w := by
  obtain ⟨p, rfl⟩ := Int.eq_ofNat_of_zero_le hx0
  obtain ⟨q, rfl⟩ := Int.eq_ofNat_of_zero_le hy0
  rw [Int.toNat_natCast, Int.toNat_natCast]
  exact (mul64_m p q w (by omega) (by omega)).mono fun _ _ h => ⟨h.1, h.2.symm⟩
/-- the product modulo m; 0 modulo 0 -/
def mm (a b m : Nat) : Nat := if m = 0 then 0 else a * b % m
theorem mm_lt {m : Nat} (a b : Nat) (h : m < 18446744073709551616) : mm a b m < 18446744073709551616 := by
  unfold mm; split
  · decide
  · exact Nat.lt_trans (Nat.mod_lt _ (by omega)) h
theorem mm_pos {a b m : Nat} (h : 0 < m) : mm a b m = a * b % m := if_neg (by omega)
/-- the power modulo m; 0 modulo 0 -/
def pw (a e m : Nat) : Nat := if m = 0 then 0 else a ^ e % m
theorem pw_pos {a e m : Nat} (h : 0 < m) : pw a e m = a ^ e % m := if_neg (by omega)
theorem pw_lt {m : Nat} (a e : Nat) (h : m < 18446744073709551616) : pw a e m < 18446744073709551616 := by
  unfold pw; split
  · decide
  · exact Nat.lt_trans (Nat.mod_lt _ (by omega)) h
/-- one digit of the exponent more -/
theorem pw_step {a e m k : Nat} (h : 0 < m) (d : Nat) (hd : e / 2 ^ k = 2 * (e / 2 ^ (k + 1)) + d) (hd2 : d = 0 ∨ d = 1) :
    pw a (e / 2 ^ k) m = if d = 0 then mm (pw a (e / 2 ^ (k + 1)) m) (pw a (e / 2 ^ (k + 1)) m) m else mm (mm (pw a (e / 2 ^ (k + 1)) m) (pw a (e / 2 ^ (k + 1)) m) m) a m := by
  rw [hd]
  generalize e / 2 ^ (k + 1) = f
  rw [pw_pos h, pw_pos h, mm_pos h, mm_pos h]
  have e1 : a ^ f % m * (a ^ f % m) % m = a ^ (2 * f) % m := by rw [← Nat.mul_mod, ← Nat.pow_add, Nat.two_mul]
  rcases hd2 with rfl | rfl
  · rw [if_pos rfl, e1, Nat.add_zero]
  · rw [if_neg (by decide), e1, Nat.mod_mul_mod, Nat.pow_succ]
theorem low_bit (x : Nat) (h : x < 18446744073709551616) : bits .and .u64 (x : Int) 1 = ((x % 2 : Nat) : Int) := by
  have h1 := bits_and_u64_nat x 1 h (by omega)
  have e : x &&& 1 = x % 2 := Nat.and_two_pow_sub_one_eq_mod x 1
  rw [e] at h1; exact h1
/-- may a be turned round modulo m? -/
def ivOk (a m : Nat) : Prop := m ≠ 0 ∧ Nat.gcd (a % m) m = 1
/-- the number of which a times it is 1 modulo m; the one -/
def Iv (a m x : Nat) : Prop := x < m ∧ a * x % m = 1 % m
theorem Iv.eq {a m x y : Nat} (h : ivOk a m) (hx : Iv a m x) (hy : Iv a m y) : x = y := by
  refine Cr.inv_unique ?_ hx.1 hy.1 hx.2 hy.2
  rw [← h.2, ← Nat.gcd_rec, Nat.gcd_comm]
end Go.Proofs.YtkgecgkjmikihabDoor
