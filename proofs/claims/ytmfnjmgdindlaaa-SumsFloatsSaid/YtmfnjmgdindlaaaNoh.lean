/-
  The program's naturals: over.
-/
import Derived.Test.YtmfnjmgdindlaaaNog
namespace Go.Proofs.Ytmfnjmgdindlaaa
open Flo Go.RowKit
theorem Nl.drewN {w : World} {B n : Nat} {v : Value} (h : Nl w B v n) (q : Nat) : Nl (w.drewN q) B v n := h
theorem bitLen_lo {n : Nat} (h : 0 < n) : 2 ^ (bitLen n - 1) ≤ n := by
  unfold bitLen
  rw [if_neg (by omega), Nat.add_sub_cancel]
  exact Nat.log2_self_le (by omega)
theorem bitLen_hi (n : Nat) : n < 2 ^ bitLen n := by
  unfold bitLen
  split
  · omega
  · exact Nat.lt_log2_self
theorem bitLen_pos {n : Nat} (h : 0 < n) : 0 < bitLen n := by
  unfold bitLen; rw [if_neg (by omega)]; omega
theorem bitLen_nw (n : Nat) : bitLen n ≤ 64 * Wd.nw W64 n := by
  apply bitLen_lt
  rw [← W64_pow]
  exact Wd.lt_pow_nw W64_2 n
theorem nw_bit {n k : Nat} (h : n < 2 ^ (64 * k)) : Wd.nw W64 n ≤ k := Wd.nw_le W64_2 (by rw [W64_pow]; exact h)
theorem ov_start {N D steps : Nat} (hD : 0 < D) (hs : bitLen N ≤ bitLen D + steps) : N < D * 2 ^ (steps + 1) := by
  have h1 := bitLen_hi N
  have h2 := bitLen_lo hD
  have h3 := bitLen_pos hD
  have h4 : 2 ^ bitLen N ≤ 2 ^ (bitLen D + steps) := Nat.pow_le_pow_right (by decide) hs
  have h5 : 2 ^ (bitLen D + steps) = 2 ^ (bitLen D - 1) * 2 ^ (steps + 1) := by rw [← Nat.pow_add]; congr 1; omega
  have h6 : 2 ^ (bitLen D - 1) * 2 ^ (steps + 1) ≤ D * 2 ^ (steps + 1) := Nat.mul_le_mul_right _ h2
  omega
theorem ov_nw {D steps k : Nat} (hk : bitLen D + steps ≤ 64 * k) : Wd.nw W64 (D * 2 ^ steps) ≤ k := by
  apply nw_bit
  have h1 := bitLen_hi D
  have h2 : D * 2 ^ steps < 2 ^ bitLen D * 2 ^ steps := Nat.mul_lt_mul_of_pos_right h1 (Nat.pow_pos (by decide))
  rw [← Nat.pow_add] at h2
  exact Nat.lt_of_lt_of_le h2 (Nat.pow_le_pow_right (by decide) hk)
/-- a step of the long division -/
theorem ov_step {N D q R j : Nat} (h : N = q * (D * 2 ^ (j + 1)) + R) (hR : R < D * 2 ^ (j + 1)) :
    (R < D * 2 ^ j → N = 2 * q * (D * 2 ^ j) + R) ∧ (¬ R < D * 2 ^ j → N = (2 * q + 1) * (D * 2 ^ j) + (R - D * 2 ^ j) ∧ R - D * 2 ^ j < D * 2 ^ j) := by
  have e : D * 2 ^ (j + 1) = 2 * (D * 2 ^ j) := by rw [Nat.pow_succ]; ac_rfl
  rw [e] at h hR
  generalize D * 2 ^ j = P at *
  have e2 : q * (2 * P) = 2 * q * P := by ac_rfl
  rw [e2] at h
  refine ⟨fun _ => h, fun h1 => ⟨?_, by omega⟩⟩
  rw [Nat.add_mul, Nat.one_mul]
  omega
theorem ov_small {N D q R j : Nat} (hD : 0 < D) (hq : N / D < 18446744073709551616) (h : N = q * (D * 2 ^ j) + R) : q < 18446744073709551616 := by
  have h1 : q * D ≤ N := by
    have : q * (D * 1) ≤ q * (D * 2 ^ j) := Nat.mul_le_mul_left _ (Nat.mul_le_mul_left _ (Nat.pow_pos (by decide)))
    rw [Nat.mul_one] at this
    omega
  exact Nat.lt_of_le_of_lt ((Nat.le_div_iff_mul_le hD).2 h1) hq
theorem ov_part {D steps i : Nat} (h : i ≤ steps) : D * 2 ^ steps / 2 ^ i = D * 2 ^ (steps - i) := by
  have : D * 2 ^ steps = D * 2 ^ (steps - i) * 2 ^ i := by rw [Nat.mul_assoc, ← Nat.pow_add]; congr 2; omega
  rw [this, Nat.mul_div_cancel _ (Nat.pow_pos (by decide))]
theorem or_one (q : Nat) (h : 2 * q + 1 < 18446744073709551616) : bits .or .u64 ((q : Int) * 2) 1 = ((2 * q + 1 : Nat) : Int) := by
  rw [show (q : Int) * 2 = ((2 * q : Nat) : Int) by omega, show (1 : Int) = ((1 : Nat) : Int) from rfl, bits_or_u64_nat _ _ (by omega) (by omega)]
  congr 1
  have := Nat.two_pow_add_eq_or_of_lt (i := 1) (b := 1) (by omega) q
  rw [Nat.pow_one] at this
  exact this.symm
end Go.Proofs.Ytmfnjmgdindlaaa
