/-
  The walk of PrimesPowers, out of what was proved of package primes.
-/
import Derived.Test.YtkgecgkjmikihaaDoorPwW
import Derived.Test.YtkgecgkjmikihaaDoorPg6
import Derived.Test.YtkgecgkjmikihaaDoorLy5
import Derived.Test.YtkgecgkjmikihaaDoorRows
namespace Go.Proofs.YtkgecgkjmikihaaDoor.primesPowers
open Go.RowKit
def names2 : List (String × List UInt8) := [("timbre/api.ErrRange", [116, 105, 109, 98, 114, 101, 58, 32, 114, 97, 110, 103, 101]), ("timbre/api.ErrRoot", [116, 105, 109, 98, 114, 101, 58, 32, 114, 111, 111, 116])]
theorem root_of {W : World} (hL : laidMetH Tryd.prog Rows.primesPowersRow.laid W) : ∃ al, ErR W al := by
  have h : laidMetH Tryd.prog (names2.map fun x => (x.1, errD x.2)) W := hL
  rw [MakeChecks.laidMetH_plain _ _ _ (by kernel_rfl)] at h
  obtain ⟨ps, hv, hnd, hr⟩ := h
  obtain ⟨al, h1, h2, h3⟩ := sents names2 [1, 0] ps (by kernel_rfl) (by decide +kernel) hv hr
  match al, h1 with
  | [_, b], ⟨_, hb, _⟩ => exact ⟨List.replicate 11 b, hb⟩
theorem walk (x0 x1 x2 x3 x4 : Int) (w : World) (l0 : 0 ≤ x0) (u0 : x0 ≤ 18446744073709551615) (l1 : 0 ≤ x1) (u1 : x1 ≤ 18446744073709551615) (l2 : 0 ≤ x2) (u2 : x2 ≤ 18446744073709551615) (l3 : 0 ≤ x3) (u3 : x3 ≤ 18446744073709551615) (l4 : -9223372036854775808 ≤ x4) (u4 : x4 ≤ 9223372036854775807) (hL : laidMetH Tryd.prog Rows.primesPowersRow.laid w) :
    Calls Tryd.prog 8 #[.int .u64 x0, .int .u64 x1, .int .u64 x2, .int .u64 x3, .int .i64 x4] w fun e w' => e = .returned (.bool true) ∧ Below w.heap.size w w' := by
  obtain ⟨n0, rfl⟩ := Int.eq_ofNat_of_zero_le l0
  obtain ⟨n1, rfl⟩ := Int.eq_ofNat_of_zero_le l1
  obtain ⟨n2, rfl⟩ := Int.eq_ofNat_of_zero_le l2
  obtain ⟨n3, rfl⟩ := Int.eq_ofNat_of_zero_le l3
  obtain ⟨al, he⟩ := root_of hL
  exact powers_w p5 n0 n1 n2 n3 x4 w al he (by omega) (by omega) (by omega) (by omega) ⟨l4, u4⟩
end Go.Proofs.YtkgecgkjmikihaaDoor.primesPowers
