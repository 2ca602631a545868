/-
  Contracts of package bits' plain functions: what each returns at every float, the world as it was.
-/
import Derived.Test.YtmfnjmgdindlaaaDoorProg
import Derived.Test.YtmfnjmgdindlaaaDoorQa
import Derived.WalkLawsBesides
import Derived.RegionTactic
import Derived.Outline
import Derived.Lib.Mul64
import Derived.Laws.Bits64b
import Derived.Deep.QuietTactic
import Derived.BigQuiet
import Derived.WalkSmall
import Derived.Deep.CutBlock
import Derived.Deep.DeepCutAuto
namespace Go.Proofs.YtmfnjmgdindlaaaDoor
open Flo Go.RowKit

theorem run_frombits (b : Int) (w : World) : (callFunc 13 #[.int .u64 b]).run Tryd.prog w = .ok (.value (.float .f64 b.toNat)) w := by kernel_rfl
theorem run_tobits (b : Nat) (w : World) : (callFunc 25 #[.float .f64 b]).run Tryd.prog w = .ok (.value (.int .u64 b)) w := by kernel_rfl

set_option maxHeartbeats 400000 in
theorem of_c (b : Int) (w : World) :
    Calls Tryd.prog 18 #[.int .u64 b] w fun e w' => e = .returned (.float .f64 b.toNat) ∧ w = w' := by
  have h1 := run_frombits
  go_enter Tryd.func18, Tryd.ntmps18
  go_wp2
  go_ret
  exact ⟨rfl, rfl⟩
set_option maxHeartbeats 400000 in
theorem sizeOf_c (n : Nat) (w : World) (h : n < 18446744073709551616) :
    Calls Tryd.prog 24 #[.int .u64 n] w fun e w' => e = .returned (.int .u64 (sz n : Nat)) ∧ w = w' := by
  go_enter Tryd.func24, Tryd.ntmps24
  go_wp2
  go_ret
  exact ⟨ret_int (andNot_sign n h), rfl⟩
set_option maxHeartbeats 400000 in
theorem bits_c (n : Nat) (w : World) (h : n < 18446744073709551616) :
    Calls Tryd.prog 15 #[.float .f64 n] w fun e w' => e = .returned (.int .u64 (bt n : Nat)) ∧ w = w' := by
  have h2 := run_tobits
  go_enter Tryd.func15, Tryd.ntmps15
  go_wp2_with (go_at_call 24; refine (sizeOf_c _ _ h).mono ?_; rintro e w' ⟨rfl, rfl⟩)
  all_goals go_ret
  · exact ⟨ret_int (by unfold sz at *; unfold bt; rw [if_pos (by omega)]; rfl), rfl⟩
  · exact ⟨ret_int (by unfold sz at *; unfold bt; rw [if_neg (by omega)]), rfl⟩

set_option maxRecDepth 100000 in
set_option maxHeartbeats 400000 in
theorem classAbove_c (b : Nat) (w : World) :
    Calls Tryd.prog 23 #[.int .u64 b] w fun e w' => e = .returned (.int .i64 (cab b)) ∧ w = w' := by
  by_cases h1 : b = 0
  · have hv : Hid (5 = cab b) := by unfold cab; rw [if_pos h1]; trivial
    have h1' : ((b : Int) == 0) = true := by rw [h1]; rfl
    clear h1
    go_enter Tryd.func23, Tryd.ntmps23
    go_wp2
    all_goals go_ret
    exact ⟨ret_int hv.out, rfl⟩
  by_cases h2 : b < 4503599627370496
  · have hv : Hid (6 = cab b) := by unfold cab; rw [if_neg h1]; rw [if_pos h2]; trivial
    have h2' : (b : Int) < 4503599627370496 := by omega
    have h1' : ((b : Int) == 0) = false := beq_eq_false_iff_ne.2 (by omega)
    go_enter Tryd.func23, Tryd.ntmps23
    go_wp2
    all_goals go_ret
    exact ⟨ret_int hv.out, rfl⟩
  by_cases h3 : b < 9218868437227405312
  · have hv : Hid (7 = cab b) := by unfold cab; rw [if_neg h1]; rw [if_neg h2]; rw [if_pos h3]; trivial
    have h3' : (b : Int) < 9218868437227405312 := by omega
    have h1' : ((b : Int) == 0) = false := beq_eq_false_iff_ne.2 (by omega)
    have h2' : ¬ (b : Int) < 4503599627370496 := by omega
    go_enter Tryd.func23, Tryd.ntmps23
    go_wp2
    all_goals go_ret
    exact ⟨ret_int hv.out, rfl⟩
  by_cases h4 : b = 9218868437227405312
  · have hv : Hid (8 = cab b) := by unfold cab; rw [if_neg h1]; rw [if_neg h2]; rw [if_neg h3]; rw [if_pos h4]; trivial
    have h4' : ((b : Int) == 9218868437227405312) = true := by rw [h4]; rfl
    have h1' : ((b : Int) == 0) = false := beq_eq_false_iff_ne.2 (by omega)
    have h2' : ¬ (b : Int) < 4503599627370496 := by omega
    have h3' : ¬ (b : Int) < 9218868437227405312 := by omega
    clear h4
    go_enter Tryd.func23, Tryd.ntmps23
    go_wp2
    all_goals go_ret
    exact ⟨ret_int hv.out, rfl⟩
  have hv : Hid (9 = cab b) := by unfold cab; rw [if_neg h1]; rw [if_neg h2]; rw [if_neg h3]; rw [if_neg h4]; rfl
  have h1' : ((b : Int) == 0) = false := beq_eq_false_iff_ne.2 (by omega)
  have h2' : ¬ (b : Int) < 4503599627370496 := by omega
  have h3' : ¬ (b : Int) < 9218868437227405312 := by omega
  have h4' : ((b : Int) == 9218868437227405312) = false := beq_eq_false_iff_ne.2 (by omega)
  go_enter Tryd.func23, Tryd.ntmps23
  go_wp2
  all_goals go_ret
  exact ⟨ret_int hv.out, rfl⟩
set_option maxHeartbeats 400000 in
theorem class_c (n : Nat) (w : World) (h : n < 18446744073709551616) :
    Calls Tryd.prog 14 #[.float .f64 n] w fun e w' => e = .returned (.int .i64 (cls n)) ∧ w = w' := by
  have hb := bt_lt h
  have e1 := and_sign (bt n) hb
  have h3 : 5 ≤ cab (sz (bt n)) ∧ cab (sz (bt n)) ≤ 9 := by unfold cab; split <;> (try split) <;> (try split) <;> (try split) <;> omega
  obtain ⟨h3, h4⟩ := h3
  by_cases hc : bt n < 9223372036854775808
  · rw [if_pos hc] at e1
    go_enter Tryd.func14, Tryd.ntmps14
    go_wp2_with (first | (go_at_call 15; refine (bits_c _ _ (by assumption)).mono ?_; rintro e w' ⟨rfl, rfl⟩) | (go_at_call 23; refine (classAbove_c _ _).mono ?_; rintro e w' ⟨rfl, rfl⟩))
    all_goals go_ret
    exact ⟨ret_int (by unfold cls; rw [if_pos hc]), rfl⟩
  · rw [if_neg hc] at e1
    go_enter Tryd.func14, Tryd.ntmps14
    go_wp2_with (first | (go_at_call 15; refine (bits_c _ _ (by assumption)).mono ?_; rintro e w' ⟨rfl, rfl⟩) | (go_at_call 24; refine (sizeOf_c _ _ hb).mono ?_; rintro e w' ⟨rfl, rfl⟩) | (go_at_call 23; refine (classAbove_c _ _).mono ?_; rintro e w' ⟨rfl, rfl⟩))
    all_goals go_ret
    exact ⟨ret_int (by unfold cls; rw [if_neg hc]; unfold sz; omega), rfl⟩
end Go.Proofs.YtmfnjmgdindlaaaDoor
/-
  Contracts of math/bits.Len64, bits.digits, bits.Exponent.
-/
namespace Go.Proofs.YtmfnjmgdindlaaaDoor
open Flo Go.RowKit
theorem len_step (X Y k : Nat) (h : Y = X / 2 ^ k) (h0 : Y ≠ 0) (h1 : Y < 256) (hk : k ≤ 56) : wrap64 ((k : Int) + wrap64 (bitLen Y : Nat)) = (bitLen X : Nat) := by
  have l := bitLen_le8 Y h1
  have s := bitLen_shift X k (h ▸ h0)
  rw [← h] at s
  unfold wrap64; omega
set_option maxHeartbeats 1000000 in
set_option maxRecDepth 100000 in
theorem len64_c (x : Int) (w : World) (h0 : 0 ≤ x) (h : x < 18446744073709551616) :
    Calls Tryd.prog 40 #[.int .u64 x] w fun e w' => e = .returned (.int .i64 (bitLen x.toNat : Nat)) ∧ w = w' := by
  go_enter Tryd.func40, Tryd.ntmps40
  go_wp2
  all_goals go_ret
  all_goals refine ⟨ret_int ?_, rfl⟩
  all_goals simp only [len8tab_get]
  · exact len_step x.toNat _ 56 (by omega) (by omega) (by omega) (by decide)
  · exact len_step x.toNat _ 48 (by omega) (by omega) (by omega) (by decide)
  · exact len_step x.toNat _ 40 (by omega) (by omega) (by omega) (by decide)
  · exact len_step x.toNat _ 32 (by omega) (by omega) (by omega) (by decide)
  · exact len_step x.toNat _ 24 (by omega) (by omega) (by omega) (by decide)
  · exact len_step x.toNat _ 16 (by omega) (by omega) (by omega) (by decide)
  · exact len_step x.toNat _ 8 (by omega) (by omega) (by omega) (by decide)
  · have l := bitLen_le8 x.toNat (by omega)
    unfold wrap64; omega

def dm (s : Nat) : Nat := if s < 4503599627370496 then s * 2 ^ (53 - bitLen s) else s % 4503599627370496 + 4503599627370496
def dp (s : Nat) : Int := if s < 4503599627370496 then -1074 - (53 - (bitLen s : Int)) else ((s / 4503599627370496 : Nat) : Int) - 1075
theorem bitLen_lt {s k : Nat} (h : s < 2 ^ k) : bitLen s ≤ k := by
  unfold bitLen
  split
  · omega
  · rename_i h0
    have := (Nat.log2_lt h0).2 h
    omega
theorem dm_bounds (s : Nat) (h : 0 < s) : 4503599627370496 ≤ dm s ∧ dm s < 9007199254740992 := by
  unfold dm
  split
  · rename_i h1
    have hl := bitLen_lt (k := 52) h1
    have sp := bitLen_spec s
    have h2 := sp.2 (by omega)
    have hb : 1 ≤ bitLen s := by
      rcases Nat.eq_zero_or_pos (bitLen s) with h0 | h0
      · have := sp.1; rw [h0] at this; omega
      · exact h0
    have e1 : 2 ^ (bitLen s - 1) * 2 ^ (53 - bitLen s) = 4503599627370496 := by rw [← Nat.pow_add, show bitLen s - 1 + (53 - bitLen s) = 52 by omega]
    have e2 : 2 ^ bitLen s * 2 ^ (53 - bitLen s) = 9007199254740992 := by rw [← Nat.pow_add, show bitLen s + (53 - bitLen s) = 53 by omega]
    constructor
    · rw [← e1]; exact Nat.mul_le_mul_right _ h2
    · rw [← e2]; exact Nat.mul_lt_mul_of_pos_right sp.1 (Nat.two_pow_pos _)
  · omega
theorem ret_two {k j : IntKind} {a b c d : Int} (h : a = b) (h' : c = d) : Ending.returned (.tuple #[.int k a, .int j c]) = .returned (.tuple #[.int k b, .int j d]) := by rw [h, h']
theorem and_low52 (n : Nat) (h : n < 18446744073709551616) : bits .and .u64 (n : Int) 4503599627370495 = ((n % 4503599627370496 : Nat) : Int) := by
  refine (u64_and_nat n 4503599627370495 h (by decide)).trans ?_
  rw [show (4503599627370495 : Nat) = 2 ^ 52 - 1 from by decide, Nat.and_two_pow_sub_one_eq_mod]
theorem or_lead (n : Nat) (h : n < 4503599627370496) : bits .or .u64 (n : Int) 4503599627370496 = ((n + 4503599627370496 : Nat) : Int) := by
  refine (u64_or_nat n 4503599627370496 (by omega) (by decide)).trans ?_
  rw [Nat.or_comm, nat_join 52 _ _ (by decide) (by omega)]
  omega
theorem shl_wrap (s k : Nat) (h : s * 2 ^ k < 18446744073709551616) : IntKind.u64.wrap ((s : Int) * 2 ^ k) = ((s * 2 ^ k : Nat) : Int) := by
  rw [IntKind.wrap_u64]
  have e : (s : Int) * 2 ^ k = ((s * 2 ^ k : Nat) : Int) := by simp
  rw [e]; omega
theorem dp_bounds (s : Nat) (h0 : 0 < s) (h1 : s < 9218868437227405312) : -1126 ≤ dp s ∧ dp s ≤ 971 := by
  have sp := bitLen_spec s
  unfold dp
  split
  · rename_i h
    have hl := bitLen_lt (k := 52) h
    have hb : 1 ≤ bitLen s := by
      rcases Nat.eq_zero_or_pos (bitLen s) with h0 | h0
      · have := sp.1; rw [h0] at this; omega
      · exact h0
    omega
  · omega
/-- The power of two of a float's first digit. -/
def xp (n : Nat) : Int := dp (sz (bt n)) + 52
end Go.Proofs.YtmfnjmgdindlaaaDoor
/-
  Plain mathematics of the division of two words by one (Knuth's way, as math/bits has it). No condition; nothing of the program.
-/
namespace Go.Proofs.YtmfnjmgdindlaaaDoor.Kn
/-- the digit that is sought -/
def Q (u n y : Nat) : Nat := (u * 4294967296 + n) / y

theorem Q_lt {u n y : Nat} (hu : u < y) (hn : n < 4294967296) : Q u n y < 4294967296 := by
  unfold Q
  rw [Nat.div_lt_iff_lt_mul (by omega)]
  have : (u + 1) * 4294967296 ≤ y * 4294967296 := Nat.mul_le_mul_right _ hu
  rw [Nat.mul_comm 4294967296 y]; omega

theorem guess_ge {u n y a b : Nat} (hy : y = a * 4294967296 + b) (ha : 0 < a) (hn : n < 4294967296) : Q u n y ≤ u / a := by
  unfold Q
  have h1 : (u * 4294967296 + n) / y ≤ (u * 4294967296 + n) / (a * 4294967296) := Nat.div_le_div_left (by omega) (by omega)
  have h2 : (u * 4294967296 + n) / (a * 4294967296) = u / a := by
    rw [Nat.mul_comm a, ← Nat.div_div_eq_div_mul]
    congr 1
    omega
  omega

theorem guess_le {u y a b : Nat} (hy : y = a * 4294967296 + b) (ha : 2147483648 ≤ a) (hb : b < 4294967296) (hu : u < y) : u / a ≤ 4294967297 := by
  have : u < 4294967298 * a := by omega
  have := (Nat.div_lt_iff_lt_mul (by omega)).2 this
  omega

theorem test_iff {u n y a b q r : Nat} (hy : y = a * 4294967296 + b) (hy0 : 0 < y) (hu : u = q * a + r) : (4294967296 * r + n < q * b) ↔ Q u n y < q := by
  unfold Q
  rw [Nat.div_lt_iff_lt_mul hy0, hy, Nat.mul_add, hu, Nat.add_mul, Nat.mul_assoc]
  omega

theorem break_le {u n y a b q r : Nat} (hy : y = a * 4294967296 + b) (hy0 : 0 < y) (hb : b < 4294967296) (hu : u = q * a + r) (hq : q ≤ 4294967296) (hr : 4294967296 ≤ r) : q ≤ Q u n y := by
  apply Nat.le_of_not_lt
  rw [← test_iff hy hy0 hu]
  have h1 : q * b ≤ 4294967296 * b := Nat.mul_le_mul_right _ hq
  omega

/-- the rest that goes on -/
theorem rest_eq {u n y : Nat} : u * 4294967296 + n - Q u n y * y = (u * 4294967296 + n) % y := by
  have := Nat.div_add_mod (u * 4294967296 + n) y
  unfold Q
  rw [Nat.mul_comm ((u * 4294967296 + n) / y) y]; omega

/-- both digits make the rest by y -/
theorem two {u m n y : Nat} : (((u * 4294967296 + m) % y) * 4294967296 + n) % y = (u * 18446744073709551616 + m * 4294967296 + n) % y := by
  have e : u * 18446744073709551616 + m * 4294967296 + n = (u * 4294967296 + m) * 4294967296 + n := by omega
  rw [e, Nat.add_mod, Nat.mul_mod, Nat.mod_mod, ← Nat.mul_mod, ← Nat.add_mod]
theorem split_div (A B n y : Nat) (hy : 0 < y) : A / y * B + (A % y * B + n) / y = (A * B + n) / y := by
  have h := Nat.div_add_mod A y
  conv => rhs; rw [← h]
  rw [Nat.add_mul, Nat.mul_assoc, Nat.add_assoc, Nat.mul_add_div hy]
theorem twoQ {u m n y : Nat} (hy : 0 < y) : Q u m y * 4294967296 + Q ((u * 4294967296 + m) % y) n y = (u * 18446744073709551616 + m * 4294967296 + n) / y := by
  have e : u * 18446744073709551616 + m * 4294967296 + n = (u * 4294967296 + m) * 4294967296 + n := by omega
  unfold Q
  rw [e, split_div _ _ _ _ hy]
end Go.Proofs.YtmfnjmgdindlaaaDoor.Kn
/-
  Contracts of math/bits.Mul64, LeadingZeros64, Div64, Rem64.
-/
namespace Go.Proofs.YtmfnjmgdindlaaaDoor
open Flo Go.RowKit Go.Lib

/-- whole numbers among the integers -/
theorem castMul (a b : Nat) : (a : Int) * (b : Int) = ((a * b : Nat) : Int) := by simp
theorem castAdd (a b : Nat) : (a : Int) + (b : Int) = ((a + b : Nat) : Int) := by simp
/-- what fits a word stays; what doesn't is its rest -/
theorem wrapId (a : Nat) (h : a < 18446744073709551616) : IntKind.u64.wrap (a : Int) = (a : Int) := by
  simp only [IntKind.wrap_u64]; omega
theorem wrapMod (a : Nat) : IntKind.u64.wrap (a : Int) = ((a % 18446744073709551616 : Nat) : Int) := by
  simp only [IntKind.wrap_u64]; omega
/-- the two halves of a word -/
theorem divB (a : Nat) : (a : Int) / 4294967296 = ((a / 4294967296 : Nat) : Int) := by omega
theorem andB (a : Nat) (h : a < 18446744073709551616) : bits .and .u64 (a : Int) 4294967295 = ((a % 4294967296 : Nat) : Int) :=
  (bits_and_u64_nat a 4294967295 h (by decide)).trans (congrArg _ (Nat.and_two_pow_sub_one_eq_mod a 32))
theorem half_le {a b : Nat} (h : a < 4294967296) (k : b < 4294967296) : a * b ≤ 4294967295 * 4294967295 := Nat.mul_le_mul (by omega) (by omega)

set_option maxHeartbeats 1000000 in
theorem mul64_c (x y : Nat) (w : World) (hx : x < 18446744073709551616) (hy : y < 18446744073709551616) :
    Calls Tryd.prog 74 #[.int .u64 x, .int .u64 y] w fun e w' => e = .returned (.tuple #[.int .u64 ((x * y / 18446744073709551616 : Nat) : Int), .int .u64 ((x * y % 18446744073709551616 : Nat) : Int)]) ∧ w = w' := by
  obtain ⟨_, _, _, hup⟩ := Lib.mul64_hi x y hx hy
  have aX := andB x hx
  have aY := andB y hy
  have dX := divB x
  have dY := divB y
  have bX : x / 4294967296 < 4294967296 := by omega
  have bY : y / 4294967296 < 4294967296 := by omega
  have cX : x % 4294967296 < 4294967296 := by omega
  have cY : y % 4294967296 < 4294967296 := by omega
  have eL := wrapMod (x * y)
  rw [← castMul] at eL
  have hH : Hid (x * y / 18446744073709551616 = _) := hup.symm
  clear hup
  generalize x / 4294967296 = x1 at *
  generalize y / 4294967296 = y1 at *
  generalize x % 4294967296 = x0 at *
  generalize y % 4294967296 = y0 at *
  have q00 := half_le cX cY
  have q10 := half_le bX cY
  have q01 := half_le cX bY
  have q11 := half_le bX bY
  have e00 : IntKind.u64.wrap ((x0 : Int) * (y0 : Int)) = ((x0 * y0 : Nat) : Int) := by rw [castMul]; exact wrapId _ (by omega)
  have e10 : IntKind.u64.wrap ((x1 : Int) * (y0 : Int)) = ((x1 * y0 : Nat) : Int) := by rw [castMul]; exact wrapId _ (by omega)
  have e01 : IntKind.u64.wrap ((x0 : Int) * (y1 : Int)) = ((x0 * y1 : Nat) : Int) := by rw [castMul]; exact wrapId _ (by omega)
  have e11 : IntKind.u64.wrap ((x1 : Int) * (y1 : Int)) = ((x1 * y1 : Nat) : Int) := by rw [castMul]; exact wrapId _ (by omega)
  generalize x0 * y0 = p00 at *
  generalize x1 * y0 = p10 at *
  generalize x0 * y1 = p01 at *
  generalize x1 * y1 = p11 at *
  have d0 := divB p00
  have b0 : p00 / 4294967296 < 4294967296 := by omega
  generalize p00 / 4294967296 = h00 at *
  have eT : IntKind.u64.wrap ((p10 : Int) + (h00 : Int)) = ((p10 + h00 : Nat) : Int) := by rw [castAdd]; exact wrapId _ (by omega)
  have aT := andB (p10 + h00) (by omega)
  have dT := divB (p10 + h00)
  have bT : (p10 + h00) / 4294967296 < 4294967296 := by omega
  have cT : (p10 + h00) % 4294967296 < 4294967296 := by omega
  generalize (p10 + h00) / 4294967296 = t1 at *
  generalize (p10 + h00) % 4294967296 = t0 at *
  generalize p10 + h00 = t at *
  have eV : IntKind.u64.wrap ((t0 : Int) + (p01 : Int)) = ((t0 + p01 : Nat) : Int) := by rw [castAdd]; exact wrapId _ (by omega)
  have dV := divB (t0 + p01)
  have bV : (t0 + p01) / 4294967296 < 4294967296 := by omega
  generalize (t0 + p01) / 4294967296 = v1 at *
  generalize t0 + p01 = v at *
  go_enter Tryd.func74, Tryd.ntmps74
  go_wp2
  go_ret2
  refine ⟨ret_two ?_ eL, rfl⟩
  rw [hH.out]
  omega
theorem wrap_div {a : Nat} (b : Nat) (ha : a < 18446744073709551616) : IntKind.u64.wrap ((a : Int) / (b : Int)) = ((a / b : Nat) : Int) := by
  have e : (a : Int) / (b : Int) = ((a / b : Nat) : Int) := rfl
  rw [e]; exact wrapId _ (Nat.lt_of_le_of_lt (Nat.div_le_self a b) ha)
theorem wrap_rem {a b : Nat} (ha : a < 18446744073709551616) : IntKind.u64.wrap ((a : Int) % (b : Int)) = ((a % b : Nat) : Int) := by
  have e : (a : Int) % (b : Int) = ((a % b : Nat) : Int) := rfl
  rw [e]; exact wrapId _ (Nat.lt_of_le_of_lt (Nat.mod_le a b) ha)
/-- the operands moved so far up that the divisor's highest bit is set -/
theorem norm {hi lo y s : Nat} (hy : y < 18446744073709551616) (hl : lo < 18446744073709551616) (h : hi < y) (h0 : 0 < hi) (hs : s = 64 - bitLen y) :
    ∃ Y u v a b m n : Nat, Y = y * 2 ^ s ∧ u * 18446744073709551616 + v = (hi * 18446744073709551616 + lo) * 2 ^ s ∧ u < Y ∧ Y < 18446744073709551616 ∧ v < 18446744073709551616 ∧
      Y = a * 4294967296 + b ∧ v = m * 4294967296 + n ∧ 2147483648 ≤ a ∧ a < 4294967296 ∧ b < 4294967296 ∧ m < 4294967296 ∧ n < 4294967296 ∧ s < 64 ∧
      IntKind.u64.wrap ((y : Int) * 2 ^ s) = (Y : Int) ∧ bits .or .u64 (IntKind.u64.wrap ((hi : Int) * 2 ^ s)) ((lo : Int) / 2 ^ (64 - s)) = (u : Int) ∧ IntKind.u64.wrap ((lo : Int) * 2 ^ s) = (v : Int) ∧
      (Y : Int) / 4294967296 = (a : Int) ∧ bits .and .u64 (Y : Int) 4294967295 = (b : Int) ∧ (v : Int) / 4294967296 = (m : Int) ∧ bits .and .u64 (v : Int) 4294967295 = (n : Int) := by
  have sp := bitLen_spec y
  have hb1 := sp.2 (by omega)
  have hb64 := bitLen_lt (k := 64) hy
  have hb2 : 2 ≤ bitLen y := by
    apply Nat.le_of_not_lt
    intro hc
    have : 2 ^ bitLen y ≤ 2 ^ 1 := Nat.pow_le_pow_right (by omega) (by omega)
    have := sp.1
    omega
  have hS := Nat.two_pow_pos s
  have hY1 : y * 2 ^ s < 18446744073709551616 := by
    have : 2 ^ bitLen y * 2 ^ s = 18446744073709551616 := by rw [← Nat.pow_add, show bitLen y + s = 64 by omega]
    rw [← this]; exact Nat.mul_lt_mul_of_pos_right sp.1 hS
  have hY2 : 9223372036854775808 ≤ y * 2 ^ s := by
    have : 2 ^ (bitLen y - 1) * 2 ^ s = 9223372036854775808 := by rw [← Nat.pow_add, show bitLen y - 1 + s = 63 by omega]
    rw [← this]; exact Nat.mul_le_mul_right _ hb1
  have hst : 2 ^ (64 - s) * 2 ^ s = 18446744073709551616 := by rw [← Nat.pow_add, show 64 - s + s = 64 by omega]
  have hc : lo / 2 ^ (64 - s) < 2 ^ s := by
    rw [Nat.div_lt_iff_lt_mul (Nat.two_pow_pos _), Nat.mul_comm, hst]; exact hl
  have hhi : (hi + 1) * 2 ^ s ≤ y * 2 ^ s := Nat.mul_le_mul_right _ h
  rw [Nat.add_mul, Nat.one_mul] at hhi
  have hv : lo * 2 ^ s = lo / 2 ^ (64 - s) * 18446744073709551616 + lo * 2 ^ s % 18446744073709551616 := by
    have e : lo * 2 ^ s / 18446744073709551616 = lo / 2 ^ (64 - s) := by
      rw [← hst]; exact Nat.mul_div_mul_right _ _ hS
    have := Nat.div_add_mod (lo * 2 ^ s) 18446744073709551616
    rw [e] at this; omega
  have hvl : lo * 2 ^ s % 18446744073709551616 < 18446744073709551616 := Nat.mod_lt _ (by omega)
  have ep : ∀ x : Nat, (x : Int) * 2 ^ s = ((x * 2 ^ s : Nat) : Int) := by intro x; rw [Int.natCast_mul, Int.natCast_pow]; rfl
  refine ⟨y * 2 ^ s, hi * 2 ^ s + lo / 2 ^ (64 - s), lo * 2 ^ s % 18446744073709551616, y * 2 ^ s / 4294967296, y * 2 ^ s % 4294967296, lo * 2 ^ s % 18446744073709551616 / 4294967296, lo * 2 ^ s % 18446744073709551616 % 4294967296,
    rfl, ?_, by omega, hY1, hvl, by omega, by omega, by omega, by omega, by omega, by omega, by omega, by omega, ?_, ?_, ?_, divB _, andB _ hY1, divB _, andB _ hvl⟩
  · rw [Nat.add_mul, Nat.add_mul, Nat.mul_right_comm hi]; omega
  · rw [ep]; exact wrapId _ hY1
  · have e1 : ((lo : Int) / 2 ^ (64 - s)) = ((lo / 2 ^ (64 - s) : Nat) : Int) := by
      rw [show ((2 : Int) ^ (64 - s)) = ((2 ^ (64 - s) : Nat) : Int) by rw [Int.natCast_pow]; rfl]; rfl
    rw [ep, e1, wrapId _ (by omega), bits_or_u64_nat _ _ (by omega) (by omega)]
    rw [← Nat.shiftLeft_eq, ← Nat.shiftLeft_add_eq_or_of_lt hc, Nat.shiftLeft_eq]
  · rw [ep]; exact wrapMod _
end Go.Proofs.YtmfnjmgdindlaaaDoor
