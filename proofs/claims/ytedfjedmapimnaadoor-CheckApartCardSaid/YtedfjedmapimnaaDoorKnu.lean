/-
  Plain mathematics of the division of two words by one (Knuth's way, as math/bits has it). No condition; nothing of the program.
-/
namespace Go.Proofs.YtedfjedmapimnaaDoor.Kn
/-- the digit that is sought -/
def Q (u n y : Nat) : Nat := (u * 4294967296 + n) / y

theorem Q_lt {u n y : Nat} (hu : u < y) (hn : n < 4294967296) : Q u n y < 4294967296 := by
  unfold Q
  rw [Nat.div_lt_iff_lt_mul (by omega)]
  have : (u + 1) * 4294967296 ≤ y * 4294967296 := Nat.mul_le_mul_right _ hu
  rw [Nat.mul_comm 4294967296 y]; omega

theorem guess_ge {u n y a b : Nat} (hy : y = a * 4294967296 + b) (ha : 0 < a) (hn : n < 4294967296) : Q u n y ≤ u / a := by
  unfold Q
  have h1 : (u * 4294967296 + n) / y ≤ (u * 4294967296 + n) / (a * 4294967296) := Nat.div_le_div_left (by omega) (by omega)
  have h2 : (u * 4294967296 + n) / (a * 4294967296) = u / a := by
    rw [Nat.mul_comm a, ← Nat.div_div_eq_div_mul]
    congr 1
    omega
  omega

theorem guess_le {u y a b : Nat} (hy : y = a * 4294967296 + b) (ha : 2147483648 ≤ a) (hb : b < 4294967296) (hu : u < y) : u / a ≤ 4294967297 := by
  have : u < 4294967298 * a := by omega
  have := (Nat.div_lt_iff_lt_mul (by omega)).2 this
  omega

theorem test_iff {u n y a b q r : Nat} (hy : y = a * 4294967296 + b) (hy0 : 0 < y) (hu : u = q * a + r) : (4294967296 * r + n < q * b) ↔ Q u n y < q := by
  unfold Q
  rw [Nat.div_lt_iff_lt_mul hy0, hy, Nat.mul_add, hu, Nat.add_mul, Nat.mul_assoc]
  omega

theorem break_le {u n y a b q r : Nat} (hy : y = a * 4294967296 + b) (hy0 : 0 < y) (hb : b < 4294967296) (hu : u = q * a + r) (hq : q ≤ 4294967296) (hr : 4294967296 ≤ r) : q ≤ Q u n y := by
  apply Nat.le_of_not_lt
  rw [← test_iff hy hy0 hu]
  have h1 : q * b ≤ 4294967296 * b := Nat.mul_le_mul_right _ hq
  omega

/-- the rest that goes on -/
theorem rest_eq {u n y : Nat} : u * 4294967296 + n - Q u n y * y = (u * 4294967296 + n) % y := by
  have := Nat.div_add_mod (u * 4294967296 + n) y
  unfold Q
  rw [Nat.mul_comm ((u * 4294967296 + n) / y) y]; omega

/-- both digits make the rest by y -/
theorem two {u m n y : Nat} : (((u * 4294967296 + m) % y) * 4294967296 + n) % y = (u * 18446744073709551616 + m * 4294967296 + n) % y := by
  have e : u * 18446744073709551616 + m * 4294967296 + n = (u * 4294967296 + m) * 4294967296 + n := by omega
  rw [e, Nat.add_mod, Nat.mul_mod, Nat.mod_mod, ← Nat.mul_mod, ← Nat.add_mod]
theorem split_div (A B n y : Nat) (hy : 0 < y) : A / y * B + (A % y * B + n) / y = (A * B + n) / y := by
  have h := Nat.div_add_mod A y
  conv => rhs; rw [← h]
  rw [Nat.add_mul, Nat.mul_assoc, Nat.add_assoc, Nat.mul_add_div hy]
theorem twoQ {u m n y : Nat} (hy : 0 < y) : Q u m y * 4294967296 + Q ((u * 4294967296 + m) % y) n y = (u * 18446744073709551616 + m * 4294967296 + n) / y := by
  have e : u * 18446744073709551616 + m * 4294967296 + n = (u * 4294967296 + m) * 4294967296 + n := by omega
  unfold Q
  rw [e, split_div _ _ _ _ hy]
end Go.Proofs.YtedfjedmapimnaaDoor.Kn
