/-
  The program's naturals: doubled.
-/
import Derived.Test.YtmfnjmgdindlaaaNof
import Derived.Laws.MakeOwn
namespace Go.Proofs.Ytmfnjmgdindlaaa
open Flo Go.RowKit
theorem W64_e : W64 = 2 ^ 64 := by decide
theorem db_word (n ws rs i : Nat) (hrs : rs < 64) : Wd.wd W64 (n * 2 ^ (64 * ws + rs)) (ws + i) = Wd.wd W64 n i * 2 ^ rs % W64 + (if i = 0 then 0 else Wd.wd W64 n (i - 1) / 2 ^ (64 - rs)) := by
  rw [show n * 2 ^ (64 * ws + rs) = n * 2 ^ rs * W64 ^ ws by rw [W64_pow, Nat.pow_add, Nat.mul_comm (2 ^ (64 * ws)), Nat.mul_assoc], Wd.wd_shift W64_0]
  have h := Wd.shl_word (e := 64) (s := rs) (n := n) (i := i) (by omega)
  rw [← W64_e] at h
  exact h
theorem db_low (n ws rs i : Nat) (h : i < ws) : Wd.wd W64 (n * 2 ^ (64 * ws + rs)) i = 0 := by
  rw [show n * 2 ^ (64 * ws + rs) = n * 2 ^ rs * W64 ^ ws by rw [W64_pow, Nat.pow_add, Nat.mul_comm (2 ^ (64 * ws)), Nat.mul_assoc]]
  exact Wd.wd_shift_low W64_0 _ _ _ h
theorem db_lt {n k ws rs : Nat} (hn : n < W64 ^ k) (hrs : rs < 64) : n * 2 ^ (64 * ws + rs) < W64 ^ (ws + k + 1) := by
  have h1 : 2 ^ (64 * ws + rs) < 2 ^ (64 * (ws + 1)) := Nat.pow_lt_pow_right (by decide) (by omega)
  rw [← W64_pow] at h1
  have e : W64 ^ (ws + k + 1) = W64 ^ k * W64 ^ (ws + 1) := by rw [← Nat.pow_add]; congr 1; omega
  rw [e]
  exact Nat.mul_lt_mul'' hn h1
theorem or_low (y x rs : Nat) (hx : x < 2 ^ rs) (hrs : rs < 64) : bits .or .u64 (IntKind.u64.wrap ((y : Int) * 2 ^ rs)) (x : Int) = ((y * 2 ^ rs % W64 + x : Nat) : Int) := by
  have e1 : (y : Int) * 2 ^ rs = ((y * 2 ^ rs : Nat) : Int) := by simp
  have hp : 2 ^ rs ≤ 2 ^ 63 := Nat.pow_le_pow_right (by decide) (by omega)
  have e2 : y * 2 ^ rs % W64 = 2 ^ rs * (y % 2 ^ (64 - rs)) := by
    rw [W64_e, show 2 ^ 64 = 2 ^ rs * 2 ^ (64 - rs) by rw [← Nat.pow_add]; congr 1; omega, Nat.mul_comm y, Nat.mul_mod_mul_left]
  have h3 : y * 2 ^ rs % W64 < 18446744073709551616 := Nat.mod_lt _ W64_0
  rw [e1, wrapMod, show y * 2 ^ rs % 18446744073709551616 = y * 2 ^ rs % W64 from rfl, bits_or_u64_nat _ _ h3 (by omega)]
  congr 1
  show y * 2 ^ rs % W64 ||| x = _
  rw [e2, ← Nat.two_pow_add_eq_or_of_lt hx]
theorem shr_lt {y rs : Nat} (hy : y < 18446744073709551616) (hrs : rs < 64) : y / 2 ^ (64 - rs) < 2 ^ rs := by
  rw [Nat.div_lt_iff_lt_mul (Nat.pow_pos (by decide)), ← Nat.pow_add, show rs + (64 - rs) = 64 by omega]
  exact hy
end Go.Proofs.Ytmfnjmgdindlaaa
