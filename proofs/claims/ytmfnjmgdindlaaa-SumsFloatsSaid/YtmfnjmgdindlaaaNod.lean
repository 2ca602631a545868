/-
  The program's naturals: tens, timesTens, naturalOf, length, Clone.
-/
import Derived.Test.YtmfnjmgdindlaaaNom
namespace Go.Proofs.Ytmfnjmgdindlaaa
open Flo Go.RowKit
theorem pow10_le {k m : Nat} (h : k ≤ m) : 10 ^ k ≤ 10 ^ m := Nat.pow_le_pow_right (by decide) h
theorem W64_pow (j : Nat) : W64 ^ j = 2 ^ (64 * j) := by rw [Nat.pow_mul]; rfl
theorem bitLen_top {n : Nat} (h : 0 < n) : bitLen n = 64 * (Wd.nw W64 n - 1) + bitLen (Wd.wd W64 n (Wd.nw W64 n - 1)) := by
  have h1 := Wd.pow_le_of_nw W64_2 h
  have h2 := Wd.lt_pow_nw W64_2 n
  have h3 := Wd.nw_pos W64_2 h
  have e : Wd.wd W64 n (Wd.nw W64 n - 1) = n / 2 ^ (64 * (Wd.nw W64 n - 1)) := by
    unfold Wd.wd
    rw [Nat.mod_eq_of_lt, W64_pow]
    rw [Nat.div_lt_iff_lt_mul (Nat.pow_pos W64_0), ← Nat.pow_succ', show (Wd.nw W64 n - 1).succ = Wd.nw W64 n by omega]
    exact h2
  rw [e]
  apply bitLen_shift
  intro h4
  rw [← W64_pow] at h4
  rcases Nat.div_eq_zero_iff.1 h4 with h5 | h5
  · have := Nat.pow_pos (n := Wd.nw W64 n - 1) W64_0; omega
  · omega
end Go.Proofs.Ytmfnjmgdindlaaa
