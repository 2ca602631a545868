/-
  The program's naturals: halve, minus.
-/
import Derived.Test.YtmfnjmgdindlaaaNoe
import Derived.Shelf.Spec.BitsCarry
namespace Go.Proofs.Ytmfnjmgdindlaaa
open Flo Go.RowKit
theorem sub64_r (x y b : Nat) (hb : b ≤ 1) (w : World) : (callFunc 57 #[.int .u64 (x : Int), .int .u64 (y : Int), .int .u64 (b : Int)]).run Try.prog w =
    .ok (.value (.tuple #[.int .u64 (((x + 18446744073709551616 - y - b) % 18446744073709551616 : Nat) : Int), .int .u64 ((if x < y + b then 1 else 0 : Nat) : Int)])) w := by
  rw [run_callFunc_extern (P := Try.prog) (f := 57) (fn := Try.f57) (by kernel_rfl) (by kernel_rfl) (by kernel_rfl) (by kernel_rfl) (e := sub64Entry) (by kernel_rfl), run_sub64 x y b hb]
  rfl
theorem sub64_v (x y b : Nat) (hx : x < 18446744073709551616) (hy : y < 18446744073709551616) (hb : b ≤ 1) (w : World) : ∃ d c : Nat, (callFunc 57 #[.int .u64 (x : Int), .int .u64 (y : Int), .int .u64 (b : Int)]).run Try.prog w =
    .ok (.value (.tuple #[.int .u64 (d : Int), .int .u64 (c : Int)])) w ∧ Hid (d + y + b = x + 18446744073709551616 * c ∧ d < 18446744073709551616 ∧ c ≤ 1) :=
  ⟨_, _, sub64_r x y b hb w, (by refine ⟨?_, ?_, ?_⟩ <;> (try split) <;> omega)⟩
theorem or_half (x c : Nat) (hx : x < 18446744073709551616) (hc : c ≤ 1) : bits .or .u64 ((x : Int) / 2) ((c * 9223372036854775808 : Nat) : Int) = ((x / 2 + 9223372036854775808 * c : Nat) : Int) := by
  rw [show (x : Int) / 2 = ((x / 2 : Nat) : Int) by omega, bits_or_u64_nat _ _ (by omega) (by omega)]
  congr 1
  rw [Nat.or_comm, Nat.mul_comm c, show (9223372036854775808 : Nat) = 2 ^ 63 from rfl, ← Nat.two_pow_add_eq_or_of_lt (show x / 2 < 2 ^ 63 by omega)]
  omega
theorem nl_nil {n : Nat} (h : Wd.nw W64 n = 0) : n = 0 := by
  apply Nat.eq_zero_of_not_pos
  intro h1
  rw [Wd.nw_pos W64_2 h1] at h
  omega
theorem mi_step {m n i d c : Nat} (hnm : n ≤ m) (h1 : d + Wd.wd W64 n i + Wd.br W64 m n i = Wd.wd W64 m i + 18446744073709551616 * c) (h2 : d < 18446744073709551616) :
    Wd.wd W64 (m - n) i = d ∧ Wd.br W64 m n (i + 1) = c := by
  have h4 : Wd.wd W64 (m - n) i + Wd.wd W64 n i + Wd.br W64 m n i = Wd.wd W64 m i + 18446744073709551616 * Wd.br W64 m n (i + 1) := Wd.br_key W64_0 m n i hnm
  have h5 := wd64 (m - n) i
  have h6 := Wd.br_le W64 m n (i + 1)
  omega
end Go.Proofs.Ytmfnjmgdindlaaa
