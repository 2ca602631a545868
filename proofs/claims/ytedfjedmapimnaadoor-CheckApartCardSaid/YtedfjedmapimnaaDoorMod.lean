/-
  Contracts of math/bits.Mul64, LeadingZeros64, Div64, Rem64.
-/
import Derived.Test.YtedfjedmapimnaaDoorDig
import Derived.Test.YtedfjedmapimnaaDoorKnu
import Derived.Lib.Mul64
import Derived.Laws.Bits64b
import Derived.WalkLawsBesides
import Derived.Deep.QuietTactic
import Derived.BigQuiet
import Derived.WalkSmall
import Derived.Deep.CutBlock
import Derived.Deep.DeepCutAuto
namespace Go.Proofs.YtedfjedmapimnaaDoor
open Flo Go.RowKit Go.Lib

/-- whole numbers among the integers -/
theorem castMul (a b : Nat) : (a : Int) * (b : Int) = ((a * b : Nat) : Int) := by simp
theorem castAdd (a b : Nat) : (a : Int) + (b : Int) = ((a + b : Nat) : Int) := by simp
/-- what fits a word stays; what doesn't is its rest -/
theorem wrapId (a : Nat) (h : a < 18446744073709551616) : IntKind.u64.wrap (a : Int) = (a : Int) := by
  simp only [IntKind.wrap_u64]; omega
theorem wrapMod (a : Nat) : IntKind.u64.wrap (a : Int) = ((a % 18446744073709551616 : Nat) : Int) := by
  simp only [IntKind.wrap_u64]; omega
/-- the two halves of a word -/
theorem divB (a : Nat) : (a : Int) / 4294967296 = ((a / 4294967296 : Nat) : Int) := by omega
theorem andB (a : Nat) (h : a < 18446744073709551616) : bits .and .u64 (a : Int) 4294967295 = ((a % 4294967296 : Nat) : Int) :=
  (bits_and_u64_nat a 4294967295 h (by decide)).trans (congrArg _ (Nat.and_two_pow_sub_one_eq_mod a 32))
theorem half_le {a b : Nat} (h : a < 4294967296) (k : b < 4294967296) : a * b ≤ 4294967295 * 4294967295 := Nat.mul_le_mul (by omega) (by omega)

theorem wrap_div {a : Nat} (b : Nat) (ha : a < 18446744073709551616) : IntKind.u64.wrap ((a : Int) / (b : Int)) = ((a / b : Nat) : Int) := by
  have e : (a : Int) / (b : Int) = ((a / b : Nat) : Int) := rfl
  rw [e]; exact wrapId _ (Nat.lt_of_le_of_lt (Nat.div_le_self a b) ha)
theorem wrap_rem {a b : Nat} (ha : a < 18446744073709551616) : IntKind.u64.wrap ((a : Int) % (b : Int)) = ((a % b : Nat) : Int) := by
  have e : (a : Int) % (b : Int) = ((a % b : Nat) : Int) := rfl
  rw [e]; exact wrapId _ (Nat.lt_of_le_of_lt (Nat.mod_le a b) ha)
/-- the operands moved so far up that the divisor's highest bit is set -/
theorem norm {hi lo y s : Nat} (hy : y < 18446744073709551616) (hl : lo < 18446744073709551616) (h : hi < y) (h0 : 0 < hi) (hs : s = 64 - bitLen y) :
    ∃ Y u v a b m n : Nat, Y = y * 2 ^ s ∧ u * 18446744073709551616 + v = (hi * 18446744073709551616 + lo) * 2 ^ s ∧ u < Y ∧ Y < 18446744073709551616 ∧ v < 18446744073709551616 ∧
      Y = a * 4294967296 + b ∧ v = m * 4294967296 + n ∧ 2147483648 ≤ a ∧ a < 4294967296 ∧ b < 4294967296 ∧ m < 4294967296 ∧ n < 4294967296 ∧ s < 64 ∧
      IntKind.u64.wrap ((y : Int) * 2 ^ s) = (Y : Int) ∧ bits .or .u64 (IntKind.u64.wrap ((hi : Int) * 2 ^ s)) ((lo : Int) / 2 ^ (64 - s)) = (u : Int) ∧ IntKind.u64.wrap ((lo : Int) * 2 ^ s) = (v : Int) ∧
      (Y : Int) / 4294967296 = (a : Int) ∧ bits .and .u64 (Y : Int) 4294967295 = (b : Int) ∧ (v : Int) / 4294967296 = (m : Int) ∧ bits .and .u64 (v : Int) 4294967295 = (n : Int) := by
  have sp := bitLen_spec y
  have hb1 := sp.2 (by omega)
  have hb64 := bitLen_lt (k := 64) hy
  have hb2 : 2 ≤ bitLen y := by
    apply Nat.le_of_not_lt
    intro hc
    have : 2 ^ bitLen y ≤ 2 ^ 1 := Nat.pow_le_pow_right (by omega) (by omega)
    have := sp.1
    omega
  have hS := Nat.two_pow_pos s
  have hY1 : y * 2 ^ s < 18446744073709551616 := by
    have : 2 ^ bitLen y * 2 ^ s = 18446744073709551616 := by rw [← Nat.pow_add, show bitLen y + s = 64 by omega]
    rw [← this]; exact Nat.mul_lt_mul_of_pos_right sp.1 hS
  have hY2 : 9223372036854775808 ≤ y * 2 ^ s := by
    have : 2 ^ (bitLen y - 1) * 2 ^ s = 9223372036854775808 := by rw [← Nat.pow_add, show bitLen y - 1 + s = 63 by omega]
    rw [← this]; exact Nat.mul_le_mul_right _ hb1
  have hst : 2 ^ (64 - s) * 2 ^ s = 18446744073709551616 := by rw [← Nat.pow_add, show 64 - s + s = 64 by omega]
  have hc : lo / 2 ^ (64 - s) < 2 ^ s := by
    rw [Nat.div_lt_iff_lt_mul (Nat.two_pow_pos _), Nat.mul_comm, hst]; exact hl
  have hhi : (hi + 1) * 2 ^ s ≤ y * 2 ^ s := Nat.mul_le_mul_right _ h
  rw [Nat.add_mul, Nat.one_mul] at hhi
  have hv : lo * 2 ^ s = lo / 2 ^ (64 - s) * 18446744073709551616 + lo * 2 ^ s % 18446744073709551616 := by
    have e : lo * 2 ^ s / 18446744073709551616 = lo / 2 ^ (64 - s) := by
      rw [← hst]; exact Nat.mul_div_mul_right _ _ hS
    have := Nat.div_add_mod (lo * 2 ^ s) 18446744073709551616
    rw [e] at this; omega
  have hvl : lo * 2 ^ s % 18446744073709551616 < 18446744073709551616 := Nat.mod_lt _ (by omega)
  have ep : ∀ x : Nat, (x : Int) * 2 ^ s = ((x * 2 ^ s : Nat) : Int) := by intro x; rw [Int.natCast_mul, Int.natCast_pow]; rfl
  refine ⟨y * 2 ^ s, hi * 2 ^ s + lo / 2 ^ (64 - s), lo * 2 ^ s % 18446744073709551616, y * 2 ^ s / 4294967296, y * 2 ^ s % 4294967296, lo * 2 ^ s % 18446744073709551616 / 4294967296, lo * 2 ^ s % 18446744073709551616 % 4294967296,
    rfl, ?_, by omega, hY1, hvl, by omega, by omega, by omega, by omega, by omega, by omega, by omega, by omega, ?_, ?_, ?_, divB _, andB _ hY1, divB _, andB _ hvl⟩
  · rw [Nat.add_mul, Nat.add_mul, Nat.mul_right_comm hi]; omega
  · rw [ep]; exact wrapId _ hY1
  · have e1 : ((lo : Int) / 2 ^ (64 - s)) = ((lo / 2 ^ (64 - s) : Nat) : Int) := by
      rw [show ((2 : Int) ^ (64 - s)) = ((2 ^ (64 - s) : Nat) : Int) by rw [Int.natCast_pow]; rfl]; rfl
    rw [ep, e1, wrapId _ (by omega), bits_or_u64_nat _ _ (by omega) (by omega)]
    rw [← Nat.shiftLeft_eq, ← Nat.shiftLeft_add_eq_or_of_lt hc, Nat.shiftLeft_eq]
  · rw [ep]; exact wrapMod _
end Go.Proofs.YtedfjedmapimnaaDoor
