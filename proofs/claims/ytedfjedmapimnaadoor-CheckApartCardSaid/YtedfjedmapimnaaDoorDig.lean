/-
  Contracts of math/bits.Len64, bits.digits, bits.Exponent.
-/
import Derived.Test.YtedfjedmapimnaaDoorLow
import Derived.RegionTactic
import Derived.Outline
namespace Go.Proofs.YtedfjedmapimnaaDoor
open Flo Go.RowKit
theorem len_step (X Y k : Nat) (h : Y = X / 2 ^ k) (h0 : Y ≠ 0) (h1 : Y < 256) (hk : k ≤ 56) : wrap64 ((k : Int) + wrap64 (bitLen Y : Nat)) = (bitLen X : Nat) := by
  have l := bitLen_le8 Y h1
  have s := bitLen_shift X k (h ▸ h0)
  rw [← h] at s
  unfold wrap64; omega
set_option maxHeartbeats 1000000 in
set_option maxRecDepth 100000 in
theorem len64_c (x : Int) (w : World) (h0 : 0 ≤ x) (h : x < 18446744073709551616) :
    Calls Tryd.prog 64 #[.int .u64 x] w fun e w' => e = .returned (.int .i64 (bitLen x.toNat : Nat)) ∧ w = w' := by
  go_enter Tryd.func64, Tryd.ntmps64
  go_wp2
  all_goals go_ret
  all_goals refine ⟨ret_int ?_, rfl⟩
  all_goals simp only [len8tab_get]
  · exact len_step x.toNat _ 56 (by omega) (by omega) (by omega) (by decide)
  · exact len_step x.toNat _ 48 (by omega) (by omega) (by omega) (by decide)
  · exact len_step x.toNat _ 40 (by omega) (by omega) (by omega) (by decide)
  · exact len_step x.toNat _ 32 (by omega) (by omega) (by omega) (by decide)
  · exact len_step x.toNat _ 24 (by omega) (by omega) (by omega) (by decide)
  · exact len_step x.toNat _ 16 (by omega) (by omega) (by omega) (by decide)
  · exact len_step x.toNat _ 8 (by omega) (by omega) (by omega) (by decide)
  · have l := bitLen_le8 x.toNat (by omega)
    unfold wrap64; omega

def dm (s : Nat) : Nat := if s < 4503599627370496 then s * 2 ^ (53 - bitLen s) else s % 4503599627370496 + 4503599627370496
def dp (s : Nat) : Int := if s < 4503599627370496 then -1074 - (53 - (bitLen s : Int)) else ((s / 4503599627370496 : Nat) : Int) - 1075
theorem bitLen_lt {s k : Nat} (h : s < 2 ^ k) : bitLen s ≤ k := by
  unfold bitLen
  split
  · omega
  · rename_i h0
    have := (Nat.log2_lt h0).2 h
    omega
theorem dm_bounds (s : Nat) (h : 0 < s) : 4503599627370496 ≤ dm s ∧ dm s < 9007199254740992 := by
  unfold dm
  split
  · rename_i h1
    have hl := bitLen_lt (k := 52) h1
    have sp := bitLen_spec s
    have h2 := sp.2 (by omega)
    have hb : 1 ≤ bitLen s := by
      rcases Nat.eq_zero_or_pos (bitLen s) with h0 | h0
      · have := sp.1; rw [h0] at this; omega
      · exact h0
    have e1 : 2 ^ (bitLen s - 1) * 2 ^ (53 - bitLen s) = 4503599627370496 := by rw [← Nat.pow_add, show bitLen s - 1 + (53 - bitLen s) = 52 by omega]
    have e2 : 2 ^ bitLen s * 2 ^ (53 - bitLen s) = 9007199254740992 := by rw [← Nat.pow_add, show bitLen s + (53 - bitLen s) = 53 by omega]
    constructor
    · rw [← e1]; exact Nat.mul_le_mul_right _ h2
    · rw [← e2]; exact Nat.mul_lt_mul_of_pos_right sp.1 (Nat.two_pow_pos _)
  · omega
theorem ret_two {k j : IntKind} {a b c d : Int} (h : a = b) (h' : c = d) : Ending.returned (.tuple #[.int k a, .int j c]) = .returned (.tuple #[.int k b, .int j d]) := by rw [h, h']
theorem and_low52 (n : Nat) (h : n < 18446744073709551616) : bits .and .u64 (n : Int) 4503599627370495 = ((n % 4503599627370496 : Nat) : Int) := by
  refine (u64_and_nat n 4503599627370495 h (by decide)).trans ?_
  rw [show (4503599627370495 : Nat) = 2 ^ 52 - 1 from by decide, Nat.and_two_pow_sub_one_eq_mod]
theorem or_lead (n : Nat) (h : n < 4503599627370496) : bits .or .u64 (n : Int) 4503599627370496 = ((n + 4503599627370496 : Nat) : Int) := by
  refine (u64_or_nat n 4503599627370496 (by omega) (by decide)).trans ?_
  rw [Nat.or_comm, nat_join 52 _ _ (by decide) (by omega)]
  omega
theorem shl_wrap (s k : Nat) (h : s * 2 ^ k < 18446744073709551616) : IntKind.u64.wrap ((s : Int) * 2 ^ k) = ((s * 2 ^ k : Nat) : Int) := by
  rw [IntKind.wrap_u64]
  have e : (s : Int) * 2 ^ k = ((s * 2 ^ k : Nat) : Int) := by simp
  rw [e]; omega
theorem dp_bounds (s : Nat) (h0 : 0 < s) (h1 : s < 9218868437227405312) : -1126 ≤ dp s ∧ dp s ≤ 971 := by
  have sp := bitLen_spec s
  unfold dp
  split
  · rename_i h
    have hl := bitLen_lt (k := 52) h
    have hb : 1 ≤ bitLen s := by
      rcases Nat.eq_zero_or_pos (bitLen s) with h0 | h0
      · have := sp.1; rw [h0] at this; omega
      · exact h0
    omega
  · omega
/-- The power of two of a float's first digit. -/
def xp (n : Nat) : Int := dp (sz (bt n)) + 52
end Go.Proofs.YtedfjedmapimnaaDoor
