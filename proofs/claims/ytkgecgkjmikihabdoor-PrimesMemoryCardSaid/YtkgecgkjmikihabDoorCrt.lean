/-
  Plain mathematics of rests: inverses and the number that leaves two told rests are one; Euclid's way with its factors. No condition; nothing of the program.
-/
namespace Go.Proofs.YtkgecgkjmikihabDoor.Cr
theorem dvd_iff_mod (m a b : Nat) : (m : Int) ∣ (a : Int) - (b : Int) ↔ a % m = b % m := by
  rw [Int.dvd_iff_emod_eq_zero, ← Int.emod_eq_emod_iff_emod_sub_eq_zero]
  constructor
  · intro h
    have h1 : ((a % m : Nat) : Int) = ((b % m : Nat) : Int) := by rw [Int.natCast_emod, Int.natCast_emod]; exact h
    exact Int.ofNat_inj.1 h1
  · intro h
    rw [← Int.natCast_emod, ← Int.natCast_emod, h]

theorem cop_cancel {m a x y : Nat} (h : Nat.gcd a m = 1) (e : a * x % m = a * y % m) : x % m = y % m := by
  rw [← dvd_iff_mod] at e ⊢
  have e1 : (a : Int) * (x : Int) - (a : Int) * (y : Int) = (a : Int) * ((x : Int) - (y : Int)) := by rw [Int.mul_sub]
  rw [Int.natCast_mul, Int.natCast_mul, e1] at e
  have h1 : m ∣ a * ((x : Int) - (y : Int)).natAbs := by
    have := Int.ofNat_dvd_left.1 e
    rwa [Int.natAbs_mul, Int.natAbs_natCast] at this
  have h2 : Nat.Coprime m a := by rw [Nat.coprime_iff_gcd_eq_one, Nat.gcd_comm]; exact h
  exact Int.ofNat_dvd_left.2 (h2.dvd_of_dvd_mul_left h1)

theorem inv_unique {m a x y : Nat} (h : Nat.gcd a m = 1) (hx : x < m) (hy : y < m) (ex : a * x % m = 1 % m) (ey : a * y % m = 1 % m) : x = y := by
  have := cop_cancel h (ex.trans ey.symm)
  rwa [Nat.mod_eq_of_lt hx, Nat.mod_eq_of_lt hy] at this

theorem crt_unique {m n x y : Nat} (h : Nat.gcd m n = 1) (hx : x < m * n) (hy : y < m * n) (e1 : x % m = y % m) (e2 : x % n = y % n) : x = y := by
  rw [← dvd_iff_mod] at e1 e2
  have d1 := Int.ofNat_dvd_left.1 e1
  have d2 := Int.ofNat_dvd_left.1 e2
  have d3 : m * n ∣ ((x : Int) - (y : Int)).natAbs := Nat.Coprime.mul_dvd_of_dvd_of_dvd h d1 d2
  apply Classical.byContradiction
  intro hne
  have : m * n ≤ ((x : Int) - (y : Int)).natAbs := Nat.le_of_dvd (by omega) d3
  omega

/-- one step of Euclid's way with its factors -/
theorem step {m : Nat} {a s0 s1 s2 r0 r1 r2 q t : Int} (h0 : (m : Int) ∣ s0 * a - r0) (h1 : (m : Int) ∣ s1 * a - r1) (hr : r0 = q * r1 + r2) (hs : s2 + q * s1 = s0 + t * m) : (m : Int) ∣ s2 * a - r2 := by
  have e : s2 * a - r2 = (s0 * a - r0) - q * (s1 * a - r1) + t * a * m := by
    have : s2 = s0 + t * m - q * s1 := by omega
    rw [this, hr, Int.sub_mul, Int.add_mul, Int.mul_sub, Int.mul_assoc q s1 a, Int.mul_right_comm t m a]
    omega
  rw [e]
  exact Int.dvd_add (Int.dvd_sub h0 (Int.dvd_mul_of_dvd_right h1)) (Int.dvd_mul_left _ _)

def ls (a b m : Nat) : Nat := if b ≤ a then a - b else m - (b - a)
theorem ls_lt {a b m : Nat} (ha : a < m) : ls a b m < m := by unfold ls; split <;> omega
theorem ls_eq {a b m : Nat} (hb : b < m) : ∃ t : Int, (ls a b m : Int) + (b : Int) = (a : Int) + t * (m : Int) := by
  unfold ls
  by_cases h : b ≤ a
  · rw [if_pos h]; exact ⟨0, by omega⟩
  · rw [if_neg h]; exact ⟨1, by omega⟩
theorem ls_add {a b m : Nat} (hb : b < m) : (ls a b m + b) % m = a % m := by
  unfold ls
  by_cases h : b ≤ a
  · rw [if_pos h, Nat.sub_add_cancel h]
  · rw [if_neg h]
    have : m - (b - a) + b = a + m := by omega
    rw [this, Nat.add_mod_right]

/-- the joined number -/
theorem join_ok {a m b n v : Nat} (hm : 0 < m) (hn : 0 < n) (hv : m * v % n = 1 % n) :
    a % m + m * (ls (b % n) (a % m % n) n * v % n) < m * n ∧ (a % m + m * (ls (b % n) (a % m % n) n * v % n)) % m = a % m ∧ (a % m + m * (ls (b % n) (a % m % n) n * v % n)) % n = b % n := by
  have ha : a % m < m := Nat.mod_lt _ hm
  have hb : b % n < n := Nat.mod_lt _ hn
  have hr : a % m % n < n := Nat.mod_lt _ hn
  have hk : ls (b % n) (a % m % n) n * v % n < n := Nat.mod_lt _ hn
  refine ⟨?_, ?_, ?_⟩
  · calc a % m + m * (ls (b % n) (a % m % n) n * v % n) < m + m * (ls (b % n) (a % m % n) n * v % n) := by omega
      _ = m * (ls (b % n) (a % m % n) n * v % n + 1) := by rw [Nat.mul_add, Nat.mul_one, Nat.add_comm]
      _ ≤ m * n := Nat.mul_le_mul_left _ hk
  · rw [Nat.add_mul_mod_self_left, Nat.mod_mod]
  · have h1 := ls_add (a := b % n) hr
    generalize ls (b % n) (a % m % n) n = d at *
    have e1 : m * (d * v % n) % n = d % n := by
      rw [Nat.mul_mod, Nat.mod_mod, ← Nat.mul_mod, Nat.mul_left_comm, Nat.mul_mod, hv, ← Nat.mul_mod, Nat.mul_one]
    rw [Nat.add_mod, e1, ← Nat.add_mod (a % m), Nat.add_comm, Nat.add_mod, ← Nat.mod_mod (a % m), ← Nat.add_mod, h1, Nat.mod_mod]
end Go.Proofs.YtkgecgkjmikihabDoor.Cr
