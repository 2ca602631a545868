/-
  The calls of layer 5 with their errors' numbers, in one form each.
-/
import Derived.Test.YtkgecgkjmikihabDoorLx5
import Derived.Test.YtkgecgkjmikihabDoorLaid
namespace Go.Proofs.YtkgecgkjmikihabDoor
open Flo Go.RowKit

/-- an error value and its number -/
def En (al : List Addr) (er : Value) (j : Nat) : Prop := (er = .nilIface ∧ j = 0) ∨ ∃ i, i < 19 ∧ er = ek al i ∧ j = i + 1
theorem num_c {al : List Addr} {er : Value} {j : Nat} (h : En al er j) (w : World) (he : Errs w al) :
    Calls Tryd.prog 9 #[er] w fun e w' => e = .returned (.int .i64 (j : Nat)) ∧ Below w.heap.size w w' := by
  rcases h with ⟨rfl, rfl⟩ | ⟨i, hi, rfl, rfl⟩
  · refine (num_nil w).mono ?_
    rintro e w' ⟨rfl, rfl⟩
    exact ⟨rfl, Below.refl _ _⟩
  · refine (num_err al i hi w he).mono ?_
    rintro e w' ⟨rfl, hb⟩
    exact ⟨ret_int (by omega), hb⟩
/-- what Inverse answers -/
def ivB (a m : Nat) : Bool := m != 0 && Nat.gcd (a % m) m == 1
theorem ivB_iff {a m : Nat} : ivB a m = true ↔ ivOk a m := by
  unfold ivB ivOk; rw [Bool.and_eq_true, bne_iff_ne, beq_iff_eq]
def ivR (a m : Nat) : Nat × Nat := if ivB a m then (ivf a m, 0) else (0, 11)
theorem pInv_c (H : P5) (a m : Nat) (w : World) (al : List Addr) (he : Errs w al) (ha : a < 18446744073709551616) (hm : m < 18446744073709551616) :
    Calls Tryd.prog 20 #[.int .u64 a, .int .u64 m] w fun e w' => ∃ er, e = .returned (.tuple #[.int .u64 ((ivR a m).1 : Nat), er]) ∧ En al er (ivR a m).2 ∧ Below w.heap.size w w' := by
  unfold ivR
  cases hb : ivB a m
  · rw [if_neg Bool.false_ne_true]
    refine (H.invNo a m w al he.root ha hm (fun h => by rw [ivB_iff.2 h] at hb; cases hb)).mono ?_
    rintro e w' ⟨rfl, h⟩
    exact ⟨_, rfl, Or.inr ⟨10, by decide, rfl, rfl⟩, h⟩
  · rw [if_pos rfl]
    refine (H.invOk a m w ha hm (ivB_iff.1 hb)).mono ?_
    rintro e w' ⟨rfl, h⟩
    exact ⟨_, rfl, Or.inl ⟨rfl, rfl⟩, h⟩
theorem pJoin_c (H : P5) (a m b n : Nat) (w : World) (al : List Addr) (he : Errs w al) (ha : a < 18446744073709551616) (hm : m < 18446744073709551616) (hb : b < 18446744073709551616) (hn : n < 18446744073709551616) :
    Calls Tryd.prog 12 #[.int .u64 a, .int .u64 m, .int .u64 b, .int .u64 n] w fun e w' => ∃ er, e = .returned (.tuple #[.int .u64 ((jnR a m b n).1 : Nat), er]) ∧ En al er (jnR a m b n).2 ∧ Below w.heap.size w w' := by
  unfold jnR
  by_cases h : m = 0 ∨ n = 0 ∨ 18446744073709551616 ≤ m * n
  · rw [if_pos h]
    refine (H.joinRange a m b n w al he ha hm hb hn h).mono ?_
    rintro e w' ⟨rfl, h⟩
    exact ⟨_, rfl, Or.inr ⟨4, by decide, rfl, rfl⟩, h⟩
  · rw [if_neg h]
    by_cases hg : Nat.gcd m n ≠ 1
    · rw [if_pos hg]
      refine (H.joinRoot a m b n w al he ha hm hb hn (by omega) (by omega) (by omega) hg).mono ?_
      rintro e w' ⟨rfl, h⟩
      exact ⟨_, rfl, Or.inr ⟨10, by decide, rfl, rfl⟩, h⟩
    · rw [if_neg hg]
      refine (H.joinOk a m b n w ha hm hb hn (by omega) (by omega) (by omega) (Classical.not_not.1 hg)).mono ?_
      rintro e w' ⟨rfl, h⟩
      exact ⟨_, rfl, Or.inl ⟨rfl, rfl⟩, h⟩
theorem Errs.drewN {w : World} {al : List Addr} (h : Errs w al) (k : Nat) : Errs (w.drewN k) al := h.below (below_drewN (Below.refl _ _) k)
end Go.Proofs.YtkgecgkjmikihabDoor
