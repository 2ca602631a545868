/-
  Contracts of bits.halved, bits.compose, bits.Scale, bits.Whole.
-/
import Derived.Test.YtgfmimmiaalhcaaDoorDig
namespace Go.Proofs.YtgfmimmiaalhcaaDoor
open Flo Go.RowKit
/-- m over 2^s, rounded to the nearest whole number, a half to the even one. -/
def hv (m s : Nat) : Nat := if 53 < s then 0 else if 2 ^ (s - 1) < m % 2 ^ s ∨ (m % 2 ^ s = 2 ^ (s - 1) ∧ m / 2 ^ s % 2 = 1) then m / 2 ^ s + 1 else m / 2 ^ s
theorem pow_le (a b : Nat) (h : a ≤ b) : 2 ^ a ≤ 2 ^ b := Nat.pow_le_pow_right (by omega) h
/-- The raw expressions of the walk, by plain numbers. -/
theorem rawW (s : Nat) (h : s ≤ 53) : IntKind.u64.wrap (2 ^ (s - 1)) = ((2 ^ (s - 1) : Nat) : Int) := by
  have := shl_wrap 1 (s - 1) (by have := pow_le (s - 1) 53 (by omega); omega)
  simpa using this
theorem rawR (m s : Nat) (h0 : 1 ≤ s) (h : s ≤ 53) (hm : m < 18446744073709551616) :
    bits .and .u64 (m : Int) (IntKind.u64.wrap (IntKind.u64.wrap (2 * IntKind.u64.wrap (2 ^ (s - 1))) - 1)) = ((m % 2 ^ s : Nat) : Int) := by
  have hp := pow_le s 53 h
  have h1 : 2 * 2 ^ (s - 1) = 2 ^ s := by rw [← Nat.pow_succ', Nat.succ_eq_add_one, show s - 1 + 1 = s by omega]
  have h2 : 0 < 2 ^ s := Nat.two_pow_pos s
  rw [rawW s h]
  have e1 : IntKind.u64.wrap (2 * ((2 ^ (s - 1) : Nat) : Int)) = ((2 ^ s : Nat) : Int) := by rw [IntKind.wrap_u64]; omega
  rw [e1]
  have e2 : IntKind.u64.wrap (((2 ^ s : Nat) : Int) - 1) = ((2 ^ s - 1 : Nat) : Int) := by rw [IntKind.wrap_u64]; omega
  rw [e2, u64_and_nat m (2 ^ s - 1) hm (by omega), Nat.and_two_pow_sub_one_eq_mod]
theorem rawB (m s : Nat) (hm : m < 18446744073709551616) : bits .and .u64 ((m : Int) / 2 ^ s) 1 = ((m / 2 ^ s % 2 : Nat) : Int) := by
  have e : (m : Int) / 2 ^ s = ((m / 2 ^ s : Nat) : Int) := by simp
  have hl := Nat.div_le_self m (2 ^ s)
  rw [e]
  refine (u64_and_nat (m / 2 ^ s) 1 (by omega) (by decide)).trans ?_
  rw [Nat.and_one_is_mod]
theorem rawU (m s : Nat) (hm : m < 9007199254740992) : IntKind.u64.wrap ((m : Int) / 2 ^ s + 1) = ((m / 2 ^ s + 1 : Nat) : Int) := by
  have e : (m : Int) / 2 ^ s = ((m / 2 ^ s : Nat) : Int) := by simp
  have hl := Nat.div_le_self m (2 ^ s)
  rw [e, IntKind.wrap_u64]
  generalize m / 2 ^ s = c at *
  omega
theorem rawH (m s : Nat) (h0 : 1 ≤ s) (h : s ≤ 53) (hm : m < 9007199254740992) : ((hv m s : Nat) : Int) =
    if IntKind.u64.wrap (2 ^ (s - 1)) < bits .and .u64 (m : Int) (IntKind.u64.wrap (IntKind.u64.wrap (2 * IntKind.u64.wrap (2 ^ (s - 1))) - 1)) ∨ (bits .and .u64 (m : Int) (IntKind.u64.wrap (IntKind.u64.wrap (2 * IntKind.u64.wrap (2 ^ (s - 1))) - 1)) = IntKind.u64.wrap (2 ^ (s - 1)) ∧ bits .and .u64 ((m : Int) / 2 ^ s) 1 = 1)
    then IntKind.u64.wrap ((m : Int) / 2 ^ s + 1) else (m : Int) / 2 ^ s := by
  rw [rawR m s h0 h (by omega), rawW s h, rawB m s (by omega), rawU m s hm]
  have e : (m : Int) / 2 ^ s = ((m / 2 ^ s : Nat) : Int) := by simp
  rw [e]
  unfold hv
  rw [if_neg (by omega)]
  generalize 2 ^ (s - 1) = a
  generalize m % 2 ^ s = b
  generalize m / 2 ^ s = c
  by_cases hc : a < b ∨ (b = a ∧ c % 2 = 1)
  · rw [if_pos hc, if_pos (by omega)]
  · rw [if_neg hc, if_neg (by omega)]
/-- The size of the float nearest to m x 2^p, m of 53 digits. -/
def cm (m : Nat) (p : Int) : Nat := if 971 < p then 9218868437227405312 else if p < -1074 then hv m (-1074 - p).toNat else (p + 1075).toNat * 4503599627370496 + m % 4503599627370496
theorem hv_le (m s : Nat) (h0 : 1 ≤ s) (hm : m < 9007199254740992) : hv m s ≤ 4503599627370496 := by
  unfold hv
  have h1 : m / 2 ^ s < 4503599627370496 := by
    apply Nat.div_lt_of_lt_mul
    have := pow_le 1 s h0
    omega
  split
  · omega
  · split <;> omega
theorem cm_le (m : Nat) (p : Int) (hm : m < 9007199254740992) : cm m p ≤ 9218868437227405312 := by
  unfold cm
  split
  · omega
  · split
    · have := hv_le m (-1074 - p).toNat (by omega) hm; omega
    · omega
def ck (k : Int) : Int := if k < -2200 then -2200 else if 2200 < k then 2200 else k
/-- A float times 2^k, rounded once. -/
def sc (n : Nat) (k : Int) : Nat := if sz (bt n) = 0 ∨ 9218868437227405312 ≤ sz (bt n) then n else (if bt n < 9223372036854775808 then 0 else 9223372036854775808) + cm (dm (sz (bt n))) (dp (sz (bt n)) + ck k)
theorem or_zero (c : Nat) (h : c < 18446744073709551616) : bits .or .u64 0 (c : Int) = (c : Int) := by
  refine (u64_or_nat 0 c (by decide) h).trans ?_
  simp
theorem or_sign2 (c : Nat) (h : c < 9223372036854775808) : bits .or .u64 9223372036854775808 (c : Int) = ((c + 9223372036854775808 : Nat) : Int) := by
  refine (u64_or_nat 9223372036854775808 c (by decide) (by omega)).trans ?_
  rw [nat_join 63 _ _ (by decide) (by omega)]
  omega
/-- Is a float finite and a whole number? -/
def wh (n : Nat) : Bool := if sz (bt n) = 0 then true else if 9218868437227405312 ≤ sz (bt n) then false else if 0 ≤ dp (sz (bt n)) then true else if dp (sz (bt n)) < -52 then false else decide (dm (sz (bt n)) % 2 ^ (-dp (sz (bt n))).toNat = 0)
theorem rawM (m : Nat) (p : Int) (hp : -52 ≤ p) (hp0 : p < 0) (hm : m < 18446744073709551616) :
    bits .and .u64 (m : Int) (IntKind.u64.wrap (IntKind.u64.wrap (2 ^ (-p).toNat) - 1)) = ((m % 2 ^ (-p).toNat : Nat) : Int) := by
  have hq := pow_le (-p).toNat 52 (by omega)
  have h2 : 0 < 2 ^ (-p).toNat := Nat.two_pow_pos _
  have e0 := shl_wrap 1 (-p).toNat (by omega)
  have e1 : IntKind.u64.wrap (2 ^ (-p).toNat) = ((2 ^ (-p).toNat : Nat) : Int) := by simpa using e0
  have e2 : IntKind.u64.wrap (((2 ^ (-p).toNat : Nat) : Int) - 1) = ((2 ^ (-p).toNat - 1 : Nat) : Int) := by rw [IntKind.wrap_u64]; omega
  rw [e1, e2, u64_and_nat m _ hm (by omega), Nat.and_two_pow_sub_one_eq_mod]
end Go.Proofs.YtgfmimmiaalhcaaDoor
