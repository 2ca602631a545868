/-
  Lists of whole numbers (int) in memory: the call's own, and to be read.
-/
import Derived.Test.YtoaccmblaifnmaaDoorProg
import Derived.Test.YtoaccmblaifnmaaDoorWrd
import Derived.WalkLawsBesides
import Derived.Outline
import Derived.Deep.QuietTactic
import Derived.BigQuiet
import Derived.WalkSmall
import Derived.RegionTactic
import Derived.Lib.Mul64
import Derived.Laws.Bits64b
import Derived.Deep.CutBlock
import Derived.Deep.DeepCutAuto
namespace Go.Proofs.YtoaccmblaifnmaaDoor
open Flo Go.RowKit
theorem infoInt : (Tryd.prog.info? 3).map (fun i => (i.zero, i.size, i.bytes)) = some (some (.int .i64 0), 1, 8) := by kernel_rfl
def il (zs : List Nat) : List Value := zs.map fun (z : Nat) => Value.int .i64 (z : Int)
theorem il_len (zs : List Nat) : (il zs).length = zs.length := by simp [il]
theorem il_snoc (zs : List Nat) (z : Nat) : il (zs ++ [z]) = il zs ++ [.int .i64 (z : Int)] := by simp [il]
theorem il_get (zs : List Nat) (i : Nat) (h : i < zs.length) : (il zs)[i]? = some (.int .i64 ((zs.getD i 0 : Nat) : Int)) := by
  simp [il, List.getD, h]
/-- a list that can be read -/
def RdI (w : World) (v : Value) (zs : List Nat) : Prop :=
  ∃ ao cap, v = .slice ao zs.length cap ∧ (zs ≠ [] → ∃ b off, ao = some ⟨b, off, none⟩ ∧ b < w.heap.size ∧ ∀ i, i < zs.length → w.cell? ⟨b, off + i, none⟩ = some (.int .i64 ((zs.getD i 0 : Nat) : Int)))
theorem RdI.of_own {w : World} {B : Nat} {v : Value} {zs : List Nat} (h : w.ownsRow B 3 1 v zs.length (il zs)) : RdI w v zs := by
  obtain ⟨hl, ho⟩ := h
  rcases ho with ⟨h1, h2⟩ | ⟨g, cap, cur, rfl, h1, h2, h3, h4, h5, h6⟩
  · refine ⟨none, 0, by rw [h1, h2], fun hz => ?_⟩
    exact absurd (List.length_eq_zero_iff.1 h2) hz
  · refine ⟨_, cap, rfl, fun _ => ⟨g, 0, rfl, (Array.getElem?_eq_some_iff.1 h2).1, fun i hi => ?_⟩⟩
    have e1 : w.cell? ⟨g, 0 + i, none⟩ = cur[i]? := by rw [Nat.zero_add]; unfold World.cell?; rw [h2]; rfl
    rw [e1, ← il_get zs i hi, ← h6]
    simp [hi]
theorem RdI.below {w w' : World} {v : Value} {zs : List Nat} (h : RdI w v zs) (hb : Below w.heap.size w w') : RdI w' v zs := by
  obtain ⟨ao, cap, rfl, h2⟩ := h
  refine ⟨ao, cap, rfl, fun hz => ?_⟩
  obtain ⟨b, off, rfl, h3, h4⟩ := h2 hz
  exact ⟨b, off, rfl, Nat.lt_of_lt_of_le h3 hb.size, fun i hi => (hb.cell (p := ⟨b, off + i, none⟩) h3).trans (h4 i hi)⟩
theorem RdI.drewN {w : World} {v : Value} {zs : List Nat} (h : RdI w v zs) (k : Nat) : RdI (w.drewN k) v zs := h
end Go.Proofs.YtoaccmblaifnmaaDoor
/-
  Contracts of package bits' plain functions: what each returns at every float, the world as it was.
-/
namespace Go.Proofs.YtoaccmblaifnmaaDoor
open Flo Go.RowKit

end Go.Proofs.YtoaccmblaifnmaaDoor
/-
  Contracts of math/bits.Len64, bits.digits, bits.Exponent.
-/
namespace Go.Proofs.YtoaccmblaifnmaaDoor
open Flo Go.RowKit
theorem len_step (X Y k : Nat) (h : Y = X / 2 ^ k) (h0 : Y ≠ 0) (h1 : Y < 256) (hk : k ≤ 56) : wrap64 ((k : Int) + wrap64 (bitLen Y : Nat)) = (bitLen X : Nat) := by
  have l := bitLen_le8 Y h1
  have s := bitLen_shift X k (h ▸ h0)
  rw [← h] at s
  unfold wrap64; omega
set_option maxHeartbeats 1000000 in
set_option maxRecDepth 100000 in
theorem len64_c (x : Int) (w : World) (h0 : 0 ≤ x) (h : x < 18446744073709551616) :
    Calls Tryd.prog 123 #[.int .u64 x] w fun e w' => e = .returned (.int .i64 (bitLen x.toNat : Nat)) ∧ w = w' := by
  go_enter Tryd.func123, Tryd.ntmps123
  go_wp2
  all_goals go_ret
  all_goals refine ⟨ret_int ?_, rfl⟩
  all_goals simp only [len8tab_get]
  · exact len_step x.toNat _ 56 (by omega) (by omega) (by omega) (by decide)
  · exact len_step x.toNat _ 48 (by omega) (by omega) (by omega) (by decide)
  · exact len_step x.toNat _ 40 (by omega) (by omega) (by omega) (by decide)
  · exact len_step x.toNat _ 32 (by omega) (by omega) (by omega) (by decide)
  · exact len_step x.toNat _ 24 (by omega) (by omega) (by omega) (by decide)
  · exact len_step x.toNat _ 16 (by omega) (by omega) (by omega) (by decide)
  · exact len_step x.toNat _ 8 (by omega) (by omega) (by omega) (by decide)
  · have l := bitLen_le8 x.toNat (by omega)
    unfold wrap64; omega

def dm (s : Nat) : Nat := if s < 4503599627370496 then s * 2 ^ (53 - bitLen s) else s % 4503599627370496 + 4503599627370496
def dp (s : Nat) : Int := if s < 4503599627370496 then -1074 - (53 - (bitLen s : Int)) else ((s / 4503599627370496 : Nat) : Int) - 1075
theorem bitLen_lt {s k : Nat} (h : s < 2 ^ k) : bitLen s ≤ k := by
  unfold bitLen
  split
  · omega
  · rename_i h0
    have := (Nat.log2_lt h0).2 h
    omega
theorem dm_bounds (s : Nat) (h : 0 < s) : 4503599627370496 ≤ dm s ∧ dm s < 9007199254740992 := by
  unfold dm
  split
  · rename_i h1
    have hl := bitLen_lt (k := 52) h1
    have sp := bitLen_spec s
    have h2 := sp.2 (by omega)
    have hb : 1 ≤ bitLen s := by
      rcases Nat.eq_zero_or_pos (bitLen s) with h0 | h0
      · have := sp.1; rw [h0] at this; omega
      · exact h0
    have e1 : 2 ^ (bitLen s - 1) * 2 ^ (53 - bitLen s) = 4503599627370496 := by rw [← Nat.pow_add, show bitLen s - 1 + (53 - bitLen s) = 52 by omega]
    have e2 : 2 ^ bitLen s * 2 ^ (53 - bitLen s) = 9007199254740992 := by rw [← Nat.pow_add, show bitLen s + (53 - bitLen s) = 53 by omega]
    constructor
    · rw [← e1]; exact Nat.mul_le_mul_right _ h2
    · rw [← e2]; exact Nat.mul_lt_mul_of_pos_right sp.1 (Nat.two_pow_pos _)
  · omega
theorem ret_two {k j : IntKind} {a b c d : Int} (h : a = b) (h' : c = d) : Ending.returned (.tuple #[.int k a, .int j c]) = .returned (.tuple #[.int k b, .int j d]) := by rw [h, h']
theorem and_low52 (n : Nat) (h : n < 18446744073709551616) : bits .and .u64 (n : Int) 4503599627370495 = ((n % 4503599627370496 : Nat) : Int) := by
  refine (u64_and_nat n 4503599627370495 h (by decide)).trans ?_
  rw [show (4503599627370495 : Nat) = 2 ^ 52 - 1 from by decide, Nat.and_two_pow_sub_one_eq_mod]
theorem or_lead (n : Nat) (h : n < 4503599627370496) : bits .or .u64 (n : Int) 4503599627370496 = ((n + 4503599627370496 : Nat) : Int) := by
  refine (u64_or_nat n 4503599627370496 (by omega) (by decide)).trans ?_
  rw [Nat.or_comm, nat_join 52 _ _ (by decide) (by omega)]
  omega
theorem shl_wrap (s k : Nat) (h : s * 2 ^ k < 18446744073709551616) : IntKind.u64.wrap ((s : Int) * 2 ^ k) = ((s * 2 ^ k : Nat) : Int) := by
  rw [IntKind.wrap_u64]
  have e : (s : Int) * 2 ^ k = ((s * 2 ^ k : Nat) : Int) := by simp
  rw [e]; omega
theorem dp_bounds (s : Nat) (h0 : 0 < s) (h1 : s < 9218868437227405312) : -1126 ≤ dp s ∧ dp s ≤ 971 := by
  have sp := bitLen_spec s
  unfold dp
  split
  · rename_i h
    have hl := bitLen_lt (k := 52) h
    have hb : 1 ≤ bitLen s := by
      rcases Nat.eq_zero_or_pos (bitLen s) with h0 | h0
      · have := sp.1; rw [h0] at this; omega
      · exact h0
    omega
  · omega
/-- The power of two of a float's first digit. -/
def xp (n : Nat) : Int := dp (sz (bt n)) + 52
end Go.Proofs.YtoaccmblaifnmaaDoor
/-
  Plain mathematics of the division of two words by one (Knuth's way, as math/bits has it). No condition; nothing of the program.
-/
namespace Go.Proofs.YtoaccmblaifnmaaDoor.Kn
/-- the digit that is sought -/
def Q (u n y : Nat) : Nat := (u * 4294967296 + n) / y

theorem Q_lt {u n y : Nat} (hu : u < y) (hn : n < 4294967296) : Q u n y < 4294967296 := by
  unfold Q
  rw [Nat.div_lt_iff_lt_mul (by omega)]
  have : (u + 1) * 4294967296 ≤ y * 4294967296 := Nat.mul_le_mul_right _ hu
  rw [Nat.mul_comm 4294967296 y]; omega

theorem guess_ge {u n y a b : Nat} (hy : y = a * 4294967296 + b) (ha : 0 < a) (hn : n < 4294967296) : Q u n y ≤ u / a := by
  unfold Q
  have h1 : (u * 4294967296 + n) / y ≤ (u * 4294967296 + n) / (a * 4294967296) := Nat.div_le_div_left (by omega) (by omega)
  have h2 : (u * 4294967296 + n) / (a * 4294967296) = u / a := by
    rw [Nat.mul_comm a, ← Nat.div_div_eq_div_mul]
    congr 1
    omega
  omega

theorem guess_le {u y a b : Nat} (hy : y = a * 4294967296 + b) (ha : 2147483648 ≤ a) (hb : b < 4294967296) (hu : u < y) : u / a ≤ 4294967297 := by
  have : u < 4294967298 * a := by omega
  have := (Nat.div_lt_iff_lt_mul (by omega)).2 this
  omega

theorem test_iff {u n y a b q r : Nat} (hy : y = a * 4294967296 + b) (hy0 : 0 < y) (hu : u = q * a + r) : (4294967296 * r + n < q * b) ↔ Q u n y < q := by
  unfold Q
  rw [Nat.div_lt_iff_lt_mul hy0, hy, Nat.mul_add, hu, Nat.add_mul, Nat.mul_assoc]
  omega

theorem break_le {u n y a b q r : Nat} (hy : y = a * 4294967296 + b) (hy0 : 0 < y) (hb : b < 4294967296) (hu : u = q * a + r) (hq : q ≤ 4294967296) (hr : 4294967296 ≤ r) : q ≤ Q u n y := by
  apply Nat.le_of_not_lt
  rw [← test_iff hy hy0 hu]
  have h1 : q * b ≤ 4294967296 * b := Nat.mul_le_mul_right _ hq
  omega

/-- the rest that goes on -/
theorem rest_eq {u n y : Nat} : u * 4294967296 + n - Q u n y * y = (u * 4294967296 + n) % y := by
  have := Nat.div_add_mod (u * 4294967296 + n) y
  unfold Q
  rw [Nat.mul_comm ((u * 4294967296 + n) / y) y]; omega

/-- both digits make the rest by y -/
theorem two {u m n y : Nat} : (((u * 4294967296 + m) % y) * 4294967296 + n) % y = (u * 18446744073709551616 + m * 4294967296 + n) % y := by
  have e : u * 18446744073709551616 + m * 4294967296 + n = (u * 4294967296 + m) * 4294967296 + n := by omega
  rw [e, Nat.add_mod, Nat.mul_mod, Nat.mod_mod, ← Nat.mul_mod, ← Nat.add_mod]
theorem split_div (A B n y : Nat) (hy : 0 < y) : A / y * B + (A % y * B + n) / y = (A * B + n) / y := by
  have h := Nat.div_add_mod A y
  conv => rhs; rw [← h]
  rw [Nat.add_mul, Nat.mul_assoc, Nat.add_assoc, Nat.mul_add_div hy]
theorem twoQ {u m n y : Nat} (hy : 0 < y) : Q u m y * 4294967296 + Q ((u * 4294967296 + m) % y) n y = (u * 18446744073709551616 + m * 4294967296 + n) / y := by
  have e : u * 18446744073709551616 + m * 4294967296 + n = (u * 4294967296 + m) * 4294967296 + n := by omega
  unfold Q
  rw [e, split_div _ _ _ _ hy]
end Go.Proofs.YtoaccmblaifnmaaDoor.Kn
/-
  Contracts of math/bits.Mul64, LeadingZeros64, Div64, Rem64.
-/
namespace Go.Proofs.YtoaccmblaifnmaaDoor
open Flo Go.RowKit Go.Lib

/-- whole numbers among the integers -/
theorem castMul (a b : Nat) : (a : Int) * (b : Int) = ((a * b : Nat) : Int) := by simp
theorem castAdd (a b : Nat) : (a : Int) + (b : Int) = ((a + b : Nat) : Int) := by simp
/-- what fits a word stays; what doesn't is its rest -/
theorem wrapId (a : Nat) (h : a < 18446744073709551616) : IntKind.u64.wrap (a : Int) = (a : Int) := by
  simp only [IntKind.wrap_u64]; omega
theorem wrapMod (a : Nat) : IntKind.u64.wrap (a : Int) = ((a % 18446744073709551616 : Nat) : Int) := by
  simp only [IntKind.wrap_u64]; omega
/-- the two halves of a word -/
theorem divB (a : Nat) : (a : Int) / 4294967296 = ((a / 4294967296 : Nat) : Int) := by omega
theorem andB (a : Nat) (h : a < 18446744073709551616) : bits .and .u64 (a : Int) 4294967295 = ((a % 4294967296 : Nat) : Int) :=
  (bits_and_u64_nat a 4294967295 h (by decide)).trans (congrArg _ (Nat.and_two_pow_sub_one_eq_mod a 32))
theorem half_le {a b : Nat} (h : a < 4294967296) (k : b < 4294967296) : a * b ≤ 4294967295 * 4294967295 := Nat.mul_le_mul (by omega) (by omega)

theorem wrap_div {a : Nat} (b : Nat) (ha : a < 18446744073709551616) : IntKind.u64.wrap ((a : Int) / (b : Int)) = ((a / b : Nat) : Int) := by
  have e : (a : Int) / (b : Int) = ((a / b : Nat) : Int) := rfl
  rw [e]; exact wrapId _ (Nat.lt_of_le_of_lt (Nat.div_le_self a b) ha)
theorem wrap_rem {a b : Nat} (ha : a < 18446744073709551616) : IntKind.u64.wrap ((a : Int) % (b : Int)) = ((a % b : Nat) : Int) := by
  have e : (a : Int) % (b : Int) = ((a % b : Nat) : Int) := rfl
  rw [e]; exact wrapId _ (Nat.lt_of_le_of_lt (Nat.mod_le a b) ha)
/-- the operands moved so far up that the divisor's highest bit is set -/
theorem norm {hi lo y s : Nat} (hy : y < 18446744073709551616) (hl : lo < 18446744073709551616) (h : hi < y) (h0 : 0 < hi) (hs : s = 64 - bitLen y) :
    ∃ Y u v a b m n : Nat, Y = y * 2 ^ s ∧ u * 18446744073709551616 + v = (hi * 18446744073709551616 + lo) * 2 ^ s ∧ u < Y ∧ Y < 18446744073709551616 ∧ v < 18446744073709551616 ∧
      Y = a * 4294967296 + b ∧ v = m * 4294967296 + n ∧ 2147483648 ≤ a ∧ a < 4294967296 ∧ b < 4294967296 ∧ m < 4294967296 ∧ n < 4294967296 ∧ s < 64 ∧
      IntKind.u64.wrap ((y : Int) * 2 ^ s) = (Y : Int) ∧ bits .or .u64 (IntKind.u64.wrap ((hi : Int) * 2 ^ s)) ((lo : Int) / 2 ^ (64 - s)) = (u : Int) ∧ IntKind.u64.wrap ((lo : Int) * 2 ^ s) = (v : Int) ∧
      (Y : Int) / 4294967296 = (a : Int) ∧ bits .and .u64 (Y : Int) 4294967295 = (b : Int) ∧ (v : Int) / 4294967296 = (m : Int) ∧ bits .and .u64 (v : Int) 4294967295 = (n : Int) := by
  have sp := bitLen_spec y
  have hb1 := sp.2 (by omega)
  have hb64 := bitLen_lt (k := 64) hy
  have hb2 : 2 ≤ bitLen y := by
    apply Nat.le_of_not_lt
    intro hc
    have : 2 ^ bitLen y ≤ 2 ^ 1 := Nat.pow_le_pow_right (by omega) (by omega)
    have := sp.1
    omega
  have hS := Nat.two_pow_pos s
  have hY1 : y * 2 ^ s < 18446744073709551616 := by
    have : 2 ^ bitLen y * 2 ^ s = 18446744073709551616 := by rw [← Nat.pow_add, show bitLen y + s = 64 by omega]
    rw [← this]; exact Nat.mul_lt_mul_of_pos_right sp.1 hS
  have hY2 : 9223372036854775808 ≤ y * 2 ^ s := by
    have : 2 ^ (bitLen y - 1) * 2 ^ s = 9223372036854775808 := by rw [← Nat.pow_add, show bitLen y - 1 + s = 63 by omega]
    rw [← this]; exact Nat.mul_le_mul_right _ hb1
  have hst : 2 ^ (64 - s) * 2 ^ s = 18446744073709551616 := by rw [← Nat.pow_add, show 64 - s + s = 64 by omega]
  have hc : lo / 2 ^ (64 - s) < 2 ^ s := by
    rw [Nat.div_lt_iff_lt_mul (Nat.two_pow_pos _), Nat.mul_comm, hst]; exact hl
  have hhi : (hi + 1) * 2 ^ s ≤ y * 2 ^ s := Nat.mul_le_mul_right _ h
  rw [Nat.add_mul, Nat.one_mul] at hhi
  have hv : lo * 2 ^ s = lo / 2 ^ (64 - s) * 18446744073709551616 + lo * 2 ^ s % 18446744073709551616 := by
    have e : lo * 2 ^ s / 18446744073709551616 = lo / 2 ^ (64 - s) := by
      rw [← hst]; exact Nat.mul_div_mul_right _ _ hS
    have := Nat.div_add_mod (lo * 2 ^ s) 18446744073709551616
    rw [e] at this; omega
  have hvl : lo * 2 ^ s % 18446744073709551616 < 18446744073709551616 := Nat.mod_lt _ (by omega)
  have ep : ∀ x : Nat, (x : Int) * 2 ^ s = ((x * 2 ^ s : Nat) : Int) := by intro x; rw [Int.natCast_mul, Int.natCast_pow]; rfl
  refine ⟨y * 2 ^ s, hi * 2 ^ s + lo / 2 ^ (64 - s), lo * 2 ^ s % 18446744073709551616, y * 2 ^ s / 4294967296, y * 2 ^ s % 4294967296, lo * 2 ^ s % 18446744073709551616 / 4294967296, lo * 2 ^ s % 18446744073709551616 % 4294967296,
    rfl, ?_, by omega, hY1, hvl, by omega, by omega, by omega, by omega, by omega, by omega, by omega, by omega, ?_, ?_, ?_, divB _, andB _ hY1, divB _, andB _ hvl⟩
  · rw [Nat.add_mul, Nat.add_mul, Nat.mul_right_comm hi]; omega
  · rw [ep]; exact wrapId _ hY1
  · have e1 : ((lo : Int) / 2 ^ (64 - s)) = ((lo / 2 ^ (64 - s) : Nat) : Int) := by
      rw [show ((2 : Int) ^ (64 - s)) = ((2 ^ (64 - s) : Nat) : Int) by rw [Int.natCast_pow]; rfl]; rfl
    rw [ep, e1, wrapId _ (by omega), bits_or_u64_nat _ _ (by omega) (by omega)]
    rw [← Nat.shiftLeft_eq, ← Nat.shiftLeft_add_eq_or_of_lt hc, Nat.shiftLeft_eq]
  · rw [ep]; exact wrapMod _
end Go.Proofs.YtoaccmblaifnmaaDoor
