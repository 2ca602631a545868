/-
  What is asked of the program's own calls of layer 5, in one place; the statements' own 'fixed'.
-/
import Derived.Test.YtkgecgkjmikihabDoorRf7
import Derived.Test.YtkgecgkjmikihabDoorRt5
import Derived.Test.YtkgecgkjmikihabDoorSmi
import Derived.Test.YtkgecgkjmikihabDoorNum
namespace Go.Proofs.YtkgecgkjmikihabDoor
open Flo Go.RowKit

/-- the greatest common divisor, signs aside, as an int -/
def gcI (a b : Int) : Int := wrap64 (Nat.gcd a.natAbs b.natAbs : Nat)
structure inI (a : Int) : Prop where
  lo : -9223372036854775808 ≤ a
  hi : a ≤ 9223372036854775807
/-- the sentinel that Inverse answers -/
def ErR (w : World) (al : List Addr) : Prop := w.cell? ⟨0, 0, none⟩ = some (ek al 10)
theorem ErR.below {w w' : World} {al : List Addr} (h : ErR w al) (hb : Below w.heap.size w w') : ErR w' al := (hb.cell (p := ⟨0, 0, none⟩) (cell_lt h)).trans h
theorem ErR.drewN {w : World} {al : List Addr} (h : ErR w al) (k : Nat) : ErR (w.drewN k) al := h
theorem Errs.root {w : World} {al : List Addr} (h : Errs w al) : ErR w al := errRoot_cell h
/-- the contracts of package primes -/
structure P5 : Prop where
  gcd : ∀ (a b : Int) (w : World), inI a → inI b → Calls Tryd.prog 21 #[.int .i64 a, .int .i64 b] w fun e w' => e = .returned (.int .i64 (gcI a b)) ∧ Below w.heap.size w w'
  mul : ∀ (a b m : Nat) (w : World), a < 18446744073709551616 → b < 18446744073709551616 → m < 18446744073709551616 → Calls Tryd.prog 26 #[.int .u64 a, .int .u64 b, .int .u64 m] w fun e w' => e = .returned (.int .u64 (mm a b m : Nat)) ∧ ∃ k, w' = w.drewN k
  pow : ∀ (a b m : Nat) (w : World), a < 18446744073709551616 → b < 18446744073709551616 → m < 18446744073709551616 → Calls Tryd.prog 11 #[.int .u64 a, .int .u64 b, .int .u64 m] w fun e w' => e = .returned (.int .u64 (pw a b m : Nat)) ∧ ∃ k, w' = w.drewN k
  invOk : ∀ (a m : Nat) (w : World), a < 18446744073709551616 → m < 18446744073709551616 → ivOk a m → Calls Tryd.prog 20 #[.int .u64 a, .int .u64 m] w fun e w' => e = .returned (.tuple #[.int .u64 (ivf a m : Nat), .nilIface]) ∧ Below w.heap.size w w'
  invNo : ∀ (a m : Nat) (w : World) (al : List Addr), ErR w al → a < 18446744073709551616 → m < 18446744073709551616 → ¬ ivOk a m → Calls Tryd.prog 20 #[.int .u64 a, .int .u64 m] w fun e w' => e = .returned (.tuple #[.int .u64 0, ek al 10]) ∧ Below w.heap.size w w'
  joinOk : ∀ (a m b n : Nat) (w : World), a < 18446744073709551616 → m < 18446744073709551616 → b < 18446744073709551616 → n < 18446744073709551616 → 0 < m → 0 < n → m * n < 18446744073709551616 → Nat.gcd m n = 1 → Calls Tryd.prog 12 #[.int .u64 a, .int .u64 m, .int .u64 b, .int .u64 n] w fun e w' => e = .returned (.tuple #[.int .u64 (jn a m b n : Nat), .nilIface]) ∧ Below w.heap.size w w'
  joinRange : ∀ (a m b n : Nat) (w : World) (al : List Addr), Errs w al → a < 18446744073709551616 → m < 18446744073709551616 → b < 18446744073709551616 → n < 18446744073709551616 → (m = 0 ∨ n = 0 ∨ 18446744073709551616 ≤ m * n) → Calls Tryd.prog 12 #[.int .u64 a, .int .u64 m, .int .u64 b, .int .u64 n] w fun e w' => e = .returned (.tuple #[.int .u64 0, ek al 4]) ∧ Below w.heap.size w w'
  joinRoot : ∀ (a m b n : Nat) (w : World) (al : List Addr), Errs w al → a < 18446744073709551616 → m < 18446744073709551616 → b < 18446744073709551616 → n < 18446744073709551616 → 0 < m → 0 < n → m * n < 18446744073709551616 → Nat.gcd m n ≠ 1 → Calls Tryd.prog 12 #[.int .u64 a, .int .u64 m, .int .u64 b, .int .u64 n] w fun e w' => e = .returned (.tuple #[.int .u64 0, ek al 10]) ∧ Below w.heap.size w w'
  factors : ∀ (n : Nat) (w : World), 2 ≤ n → n ≤ 4294967296 → Calls Tryd.prog 10 #[.int .i64 n] w fun e w' => ∃ v zs, e = .returned v ∧ Nt.Fac n zs ∧ w'.ownsRow w.heap.size 3 1 v zs.length (il zs) ∧ Below w.heap.size w w'
  factorsNo : ∀ (n : Int) (w : World), (n < 2 ∨ 4294967296 < n) → Calls Tryd.prog 10 #[.int .i64 n] w fun e w' => ∃ v, e = .returned v ∧ w'.ownsRow w.heap.size 3 1 v 0 [] ∧ Below w.heap.size w w'
  prime : ∀ (n : Int) (w : World), inI n → Calls Tryd.prog 8 #[.int .i64 n] w fun e w' => e = .returned (.bool (prB n)) ∧ Below w.heap.size w w'
  rootOk : ∀ (p : Nat) (w : World), 2 ≤ p → p ≤ 4294967296 → Nt.Pr p → Calls Tryd.prog 7 #[.int .i64 p] w fun e w' => ∃ g : Nat, e = .returned (.tuple #[.int .i64 g, .nilIface]) ∧ Rt p g ∧ Below w.heap.size w w'
  rootNo : ∀ (n : Int) (w : World) (al : List Addr), Errs w al → inI n → prB n = false → Calls Tryd.prog 7 #[.int .i64 n] w fun e w' => e = .returned (.tuple #[.int .i64 0, ek al 10]) ∧ Below w.heap.size w w'

theorem P5.mulB (H : P5) (a b m : Nat) (w : World) (ha : a < 18446744073709551616) (hb : b < 18446744073709551616) (hm : m < 18446744073709551616) : Calls Tryd.prog 26 #[.int .u64 a, .int .u64 b, .int .u64 m] w fun e w' => e = .returned (.int .u64 (mm a b m : Nat)) ∧ Below w.heap.size w w' :=
  (H.mul a b m w ha hb hm).mono fun _ _ ⟨h, k, hk⟩ => ⟨h, by rw [hk]; exact below_drewN (Below.refl _ _) k⟩
theorem P5.powB (H : P5) (a b m : Nat) (w : World) (ha : a < 18446744073709551616) (hb : b < 18446744073709551616) (hm : m < 18446744073709551616) : Calls Tryd.prog 11 #[.int .u64 a, .int .u64 b, .int .u64 m] w fun e w' => e = .returned (.int .u64 (pw a b m : Nat)) ∧ Below w.heap.size w w' :=
  (H.pow a b m w ha hb hm).mono fun _ _ ⟨h, k, hk⟩ => ⟨h, by rw [hk]; exact below_drewN (Below.refl _ _) k⟩
theorem prime41 : Nt.Pr 41 := isP_iff.1 (by decide)
theorem fq41 : Fq 41 [2, 5] := by
  intro q
  constructor
  · intro h
    have : q = 2 ∨ q = 5 := by simpa using h
    rcases this with rfl | rfl
    · exact ⟨isP_iff.1 (by decide), by decide⟩
    · exact ⟨isP_iff.1 (by decide), by decide⟩
  · rintro ⟨h1, h2⟩
    have hl := Nat.le_of_dvd (by decide) h2
    have key : ∀ x, x < 41 → isP x = true → 40 % x = 0 → x = 2 ∨ x = 5 := by decide
    have := key q (by omega) (isP_iff.2 h1) (Nat.mod_eq_zero_of_dvd h2)
    simpa using this
theorem rt41 : Rt 41 6 := by
  refine ⟨by decide, by decide, (lookB_good (by decide) fq41).1 (by decide), ?_⟩
  intro h h1 h2 hg
  have hl := (lookB_good (by decide) fq41).2 hg
  have key : ∀ x, x < 6 → 1 ≤ x → lookB 41 x [2, 5] = false := by decide
  rw [key h h2 h1] at hl; cases hl
theorem fac360 : Nt.Fac 360 [2, 2, 2, 3, 3, 5] := by
  refine ⟨by decide, ?_, by decide⟩
  intro x hx
  have : x = 2 ∨ x = 3 ∨ x = 5 := by simp at hx; omega
  rcases this with rfl | rfl | rfl
  · exact isP_iff.1 (by decide)
  · exact isP_iff.1 (by decide)
  · exact isP_iff.1 (by decide)
theorem ivOk37 : ivOk 3 7 := ⟨by decide, by decide⟩
theorem ivf37 : ivf 3 7 = 5 := by decide
theorem jn2335 : jn 2 3 3 5 = 8 := by decide
theorem prB97 : prB 97 = true := by decide
theorem gcI12 : gcI (-12) 18 = 6 := by
  unfold gcI
  rw [show Nat.gcd (-12 : Int).natAbs (18 : Int).natAbs = 6 by decide]
  unfold wrap64; omega
theorem pw3 : pw 3 200 13 = 9 := by decide
end Go.Proofs.YtkgecgkjmikihabDoor
