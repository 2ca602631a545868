/-
  The program's nearestSize: the nearest float's size.
-/
import Derived.Test.YtmfnjmgdindlaaaRnd
namespace Go.Proofs.Ytmfnjmgdindlaaa
open Flo Go.RowKit
theorem ns_quot {n d A B : Nat} (hn : 0 < n) (hd : 0 < d) (h : bitLen n + A = bitLen d + B + 55) : 2 ^ 54 ≤ n * 2 ^ A / (d * 2 ^ B) ∧ n * 2 ^ A / (d * 2 ^ B) < 2 ^ 56 := by
  have pA : 0 < 2 ^ A := Nat.pow_pos (by decide)
  have pB : 0 < 2 ^ B := Nat.pow_pos (by decide)
  have hb : 0 < d * 2 ^ B := Nat.mul_pos hd pB
  have n1 := bitLen_lo hn
  have n2 := bitLen_hi n
  have d1 := bitLen_lo hd
  have d2 := bitLen_hi d
  have n3 := bitLen_pos hn
  have d3 := bitLen_pos hd
  constructor
  · rw [Nat.le_div_iff_mul_le hb]
    calc 2 ^ 54 * (d * 2 ^ B) ≤ 2 ^ 54 * (2 ^ bitLen d * 2 ^ B) := Nat.mul_le_mul_left _ (Nat.mul_le_mul_right _ (Nat.le_of_lt d2))
      _ = 2 ^ (bitLen n - 1) * 2 ^ A := by rw [← Nat.pow_add, ← Nat.pow_add, ← Nat.pow_add]; congr 1; omega
      _ ≤ n * 2 ^ A := Nat.mul_le_mul_right _ n1
  · rw [Nat.div_lt_iff_lt_mul hb]
    calc n * 2 ^ A < 2 ^ bitLen n * 2 ^ A := Nat.mul_lt_mul_of_pos_right n2 pA
      _ = 2 ^ 56 * (2 ^ (bitLen d - 1) * 2 ^ B) := by rw [← Nat.pow_add, ← Nat.pow_add, ← Nat.pow_add]; congr 1; omega
      _ ≤ 2 ^ 56 * (d * 2 ^ B) := Nat.mul_le_mul_left _ (Nat.mul_le_mul_right _ d1)
theorem or_one' (q : Nat) (h : q < 18446744073709551616) : bits .or .u64 (q : Int) 1 = ((q / 2 * 2 + 1 : Nat) : Int) := by
  rw [show (1 : Int) = ((1 : Nat) : Int) from rfl, bits_or_u64_nat _ _ h (by omega)]
  congr 1
  have h1 := Nat.two_pow_add_eq_or_of_lt (i := 1) (b := 1) (by omega) (q / 2)
  rw [Nat.pow_one] at h1
  rw [Nat.mul_comm (q / 2)]
  rcases Nat.mod_two_eq_zero_or_one q with h2 | h2
  · have e : 2 * (q / 2) = q := by omega
    rw [e] at h1 ⊢
    exact h1.symm
  · have e : q = 2 * (q / 2) + 1 := by omega
    rw [h1] at e
    rw [e, Nat.or_assoc, Nat.or_self, ← e, h1]
    exact e
/-- what nearestSize rounds, and to what -/
theorem ns_fin {n d A B q' : Nat} {p : Int} (hn : 0 < n) (hd : 0 < d) (hp : p = (bitLen n : Int) - bitLen d - 55) (hA : (A : Int) = max (-p) 0) (hB : (B : Int) = max p 0)
    (hq : q' = if n * 2 ^ A % (d * 2 ^ B) = 0 then n * 2 ^ A / (d * 2 ^ B) else n * 2 ^ A / (d * 2 ^ B) / 2 * 2 + 1) (h1 : -1137 ≤ p) :
    ∃ l drop E : Nat, l = bitLen q' ∧ q' < 2 ^ 56 ∧ 55 ≤ l ∧ l ≤ 56 ∧ (drop : Int) = max ((l : Int) - 53) (-1074 - p) ∧ (E : Int) = p + drop + 1074 ∧ Rd.Near n d (E * 2 ^ 52 + Rd.rnd q' drop) := by
  obtain ⟨q1, q2⟩ := ns_quot hn hd (show bitLen n + A = bitLen d + B + 55 by omega)
  have r1 : 2 ^ 54 ≤ q' := by rw [hq]; split <;> omega
  have r2 : q' < 2 ^ 56 := by rw [hq]; split <;> omega
  have l2 : bitLen q' ≤ 56 := bitLen_lt r2
  have l1 : 55 ≤ bitLen q' := by
    apply Nat.le_of_not_lt
    intro h
    have h3 := bitLen_hi q'
    have h4 : 2 ^ bitLen q' ≤ 2 ^ 54 := Nat.pow_le_pow_right (by decide) (by omega)
    omega
  obtain ⟨drop, hdr⟩ : ∃ drop : Nat, (drop : Int) = max ((bitLen q' : Int) - 53) (-1074 - p) := ⟨(max ((bitLen q' : Int) - 53) (-1074 - p)).toNat, by omega⟩
  obtain ⟨E, hE⟩ : ∃ E : Nat, (E : Int) = p + drop + 1074 := ⟨(p + drop + 1074).toNat, by omega⟩
  refine ⟨bitLen q', drop, E, rfl, r2, l1, l2, hdr, hE, ?_⟩
  obtain ⟨k, rfl⟩ : ∃ k, drop = k + 2 := ⟨drop - 2, by omega⟩
  refine Rd.near_mark (A := A) (B := B) hd (by omega) hq ?_ ?_
  · exact Nat.lt_of_lt_of_le (bitLen_hi q') (Nat.pow_le_pow_right (by decide) (by omega))
  · by_cases h0 : E = 0
    · exact .inl h0
    · right
      refine Nat.le_trans ?_ (bitLen_lo (show 0 < q' by omega))
      exact Nat.pow_le_pow_right (by decide) (by omega)
theorem nw_zero_iff (n : Nat) : Wd.nw W64 n = 0 ↔ n = 0 := ⟨nl_nil, fun h => by rw [h]; exact Wd.nw_zero _⟩
end Go.Proofs.Ytmfnjmgdindlaaa
