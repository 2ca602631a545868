/-
  Contracts of the document's answers of layer 5: Inverse, Join.
-/
import Derived.Test.YtkgecgkjmikihabDoorRf5
namespace Go.Proofs.YtkgecgkjmikihabDoor
open Flo Go.RowKit Go.Lib

/-- what Euclid's way with its factors keeps -/
def Euc (a m p q s t : Nat) : Prop := q < p ∧ p ≤ m ∧ s < m ∧ t < m ∧ Nat.gcd p q = 1 ∧ (m : Int) ∣ (s : Int) * (a : Int) - (p : Int) ∧ (m : Int) ∣ (t : Int) * (a : Int) - (q : Int)
theorem euc_start {a m : Nat} (hm : 0 < m) (h : Nat.gcd (a % m) m = 1) : Euc a m m (a % m) 0 (1 % m) := by
  refine ⟨Nat.mod_lt _ hm, Nat.le_refl _, hm, Nat.mod_lt _ hm, by rw [Nat.gcd_comm]; exact h, ?_, ?_⟩
  · rw [Int.natCast_zero, Int.zero_mul, Int.zero_sub]; exact Int.dvd_neg.2 (Int.dvd_refl _)
  · rw [← Int.natCast_mul, Cr.dvd_iff_mod, Nat.mod_mul_mod, Nat.one_mul, Nat.mod_mod]
theorem euc_step {a m p q s t : Nat} (h : Euc a m p q s t) (hq : 0 < q) : Euc a m q (p % q) t (Cr.ls s (mm (p / q) t m) m) := by
  obtain ⟨h1, h2, h3, h4, h5, h6, h7⟩ := h
  have m0 : 0 < m := by omega
  have hz : mm (p / q) t m = p / q * t % m := mm_pos m0
  have hzl : p / q * t % m < m := Nat.mod_lt _ m0
  rw [hz]
  refine ⟨Nat.mod_lt _ hq, by omega, h4, Cr.ls_lt h3, ?_, h7, ?_⟩
  · rw [Nat.gcd_comm q, ← Nat.gcd_rec, Nat.gcd_comm]; exact h5
  · obtain ⟨t1, ht1⟩ := Cr.ls_eq (a := s) hzl
    have hd := Nat.div_add_mod (p / q * t) m
    have hd' : ((p / q * t : Nat) : Int) = (m : Int) * ((p / q * t / m : Nat) : Int) + ((p / q * t % m : Nat) : Int) := by
      rw [← Int.natCast_mul, ← Int.natCast_add, hd]
    refine Cr.step (q := ((p / q : Nat) : Int)) (t := t1 + ((p / q * t / m : Nat) : Int)) h6 h7 ?_ ?_
    · have := Nat.div_add_mod p q
      rw [← Int.natCast_mul, ← Int.natCast_add]
      congr 1
      rw [Nat.mul_comm]; exact this.symm
    · rw [← Int.natCast_mul, hd', Int.add_mul, Int.mul_comm (m : Int)]
      omega
theorem euc_end {a m p s t : Nat} (h : Euc a m p 0 s t) : Iv a m s := by
  obtain ⟨h1, h2, h3, h4, h5, h6, h7⟩ := h
  rw [Nat.gcd_zero_right] at h5
  subst h5
  refine ⟨h3, ?_⟩
  rw [← Cr.dvd_iff_mod, Int.natCast_mul, Int.mul_comm]
  exact h6
/-- that number, looked for -/
def ivf (a m : Nat) : Nat := ((List.range m).find? fun x => a * x % m == 1 % m).getD 0
theorem ivf_of {a m x : Nat} (h : ivOk a m) (hx : Iv a m x) : ivf a m = x := by
  unfold ivf
  cases hf : (List.range m).find? fun x => a * x % m == 1 % m with
  | none =>
    have := List.find?_eq_none.1 hf x (List.mem_range.2 hx.1)
    exact absurd (beq_iff_eq.2 hx.2) this
  | some y =>
    have h1 := List.find?_some hf
    have h2 := List.mem_range.1 (List.mem_of_find?_eq_some hf)
    exact Iv.eq h ⟨h2, beq_iff_eq.1 h1⟩ hx
theorem Iv_ex {a m : Nat} (hm : 0 < m) (h : Nat.gcd (a % m) m = 1) : Iv a m (ivf a m) := by
  have key : ∀ n p q s t : Nat, q ≤ n → Euc a m p q s t → ∃ x, Iv a m x := by
    intro n
    induction n with
    | zero =>
      intro p q s t hq he
      have : q = 0 := by omega
      subst this
      exact ⟨s, euc_end he⟩
    | succ n ih =>
      intro p q s t hq he
      rcases Nat.eq_zero_or_pos q with h0 | h0
      · subst h0; exact ⟨s, euc_end he⟩
      · exact ih _ _ _ _ (by have := Nat.mod_lt p h0; omega) (euc_step he h0)
  obtain ⟨x, hx⟩ := key _ _ _ _ _ (Nat.le_refl _) (euc_start hm h)
  rw [ivf_of ⟨by omega, h⟩ hx]; exact hx

/-- the number that leaves a modulo m and b modulo n, as the document reckons it -/
def jn (a m b n : Nat) : Nat := a % m + m * mm (Cr.ls (b % n) (a % m % n) n) (ivf (m % n) n) n
theorem jn_ok {a m b n : Nat} (hm : 0 < m) (hn : 0 < n) (h : Nat.gcd m n = 1) : jn a m b n < m * n ∧ jn a m b n % m = a % m ∧ jn a m b n % n = b % n := by
  unfold jn
  rw [mm_pos hn]
  refine Cr.join_ok hm hn ?_
  have hg : Nat.gcd (m % n % n) n = 1 := by rw [Nat.mod_mod, Nat.gcd_comm, Nat.gcd_comm n, ← Nat.gcd_rec, Nat.gcd_comm]; exact h
  have := (Iv_ex hn hg).2
  rwa [Nat.mod_mul_mod] at this
theorem jn_eq {a m b n x : Nat} (hm : 0 < m) (hn : 0 < n) (h : Nat.gcd m n = 1) (h1 : x < m * n) (h2 : x % m = a % m) (h3 : x % n = b % n) : x = jn a m b n := by
  obtain ⟨j1, j2, j3⟩ := jn_ok (a := a) (b := b) hm hn h
  exact Cr.crt_unique h h1 j1 (h2.trans j2.symm) (h3.trans j3.symm)
end Go.Proofs.YtkgecgkjmikihabDoor
