/-
  The program's roundings: rounded, roundedSize.
-/
import Derived.Test.YtmfnjmgdindlaaaNoh
import Derived.Test.YtmfnjmgdindlaaaRdm
namespace Go.Proofs.Ytmfnjmgdindlaaa
open Flo Go.RowKit
theorem and_mod (n h d : Nat) (hn : n < 18446744073709551616) (hd : d < 63) (hh : h = 2 ^ d) : bits .and .u64 (n : Int) (2 * (h : Int) - 1) = ((n % 2 ^ (d + 1) : Nat) : Int) := by
  have hp : 0 < 2 ^ d := Nat.pow_pos (by decide)
  have hp2 : 2 ^ d ≤ 2 ^ 62 := Nat.pow_le_pow_right (by decide) (by omega)
  have e : 2 * (h : Int) - 1 = ((2 ^ (d + 1) - 1 : Nat) : Int) := by
    rw [hh, Nat.pow_succ]; omega
  rw [e, bits_and_u64_nat _ _ hn (by rw [Nat.pow_succ]; omega), Nat.and_two_pow_sub_one_eq_mod]
end Go.Proofs.Ytmfnjmgdindlaaa
