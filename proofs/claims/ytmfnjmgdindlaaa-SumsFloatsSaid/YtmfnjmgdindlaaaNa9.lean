/-
  timbrenat: Nearest.
-/
import Derived.Test.YtmfnjmgdindlaaaNa8
namespace Go.Proofs.Ytmfnjmgdindlaaa
open Flo Go.RowKit
theorem nm_ar {Q H D low r m : Nat} {more : Bool} (hD : 0 < D) (hH : 0 < H) (hr : r < D) (hmore : more = true ↔ r ≠ 0) (hlow : low < 2 * H)
    (hm : m = Q + if H < low ∨ (low = H ∧ (more = true ∨ Q % 2 = 1)) then 1 else 0) :
    (m = 0 ∨ (2 * m - 1) * (2 * H) * D < 2 * ((Q * (2 * H) + low) * D + r) ∨ ((2 * m - 1) * (2 * H) * D = 2 * ((Q * (2 * H) + low) * D + r) ∧ m % 2 = 0)) ∧
    (2 * ((Q * (2 * H) + low) * D + r) < (2 * m + 1) * (2 * H) * D ∨ ((2 * m + 1) * (2 * H) * D = 2 * ((Q * (2 * H) + low) * D + r) ∧ m % 2 = 0)) := by
  have hb : 0 < H * D := Nat.mul_pos hH hD
  have e0 : (Q * (2 * H) + low) * D = 2 * (Q * (H * D)) + low * D := by
    rw [Nat.add_mul, Nat.mul_left_comm Q 2 H, Nat.mul_assoc 2, Nat.mul_assoc Q]
  have e1 : (2 * Q + 1) * (2 * H) * D = 4 * (Q * (H * D)) + 2 * (H * D) := by
    rw [Nat.add_mul, Nat.add_mul, Nat.one_mul, Nat.mul_assoc 2 H D]
    have : 2 * Q * (2 * H) * D = 4 * (Q * (H * D)) := by
      rw [show 2 * Q * (2 * H) * D = (2 * 2) * (Q * (H * D)) by ac_rfl]
    rw [this]
  have e2 : 0 < Q → (2 * Q - 1) * (2 * H) * D + 2 * (H * D) = 4 * (Q * (H * D)) := by
    intro hq
    obtain ⟨Q', rfl⟩ : ∃ Q', Q = Q' + 1 := ⟨Q - 1, by omega⟩
    rw [show 2 * (Q' + 1) - 1 = 2 * Q' + 1 by omega, Nat.add_mul, Nat.add_mul, Nat.one_mul, Nat.mul_assoc 2 H D, Nat.add_mul Q' 1, Nat.one_mul]
    have : 2 * Q' * (2 * H) * D = 4 * (Q' * (H * D)) := by
      rw [show 2 * Q' * (2 * H) * D = (2 * 2) * (Q' * (H * D)) by ac_rfl]
    rw [this]
    omega
  have e3 : (2 * (Q + 1) + 1) * (2 * H) * D = 4 * (Q * (H * D)) + 6 * (H * D) := by
    rw [show 2 * (Q + 1) + 1 = 2 * Q + 3 by omega, Nat.add_mul, Nat.add_mul]
    have h1 : 2 * Q * (2 * H) * D = 4 * (Q * (H * D)) := by
      rw [show 2 * Q * (2 * H) * D = (2 * 2) * (Q * (H * D)) by ac_rfl]
    have h2 : 3 * (2 * H) * D = 6 * (H * D) := by
      rw [show 3 * (2 * H) * D = (3 * 2) * (H * D) by ac_rfl]
    rw [h1, h2]
  have c2 : (low + 1) * D ≤ 2 * H * D := Nat.mul_le_mul_right D hlow
  rw [Nat.add_mul, Nat.one_mul, Nat.mul_assoc] at c2
  rw [e0]
  split at hm
  · rename_i hc
    subst hm
    rw [show 2 * (Q + 1) - 1 = 2 * Q + 1 by omega, e1, e3]
    rcases hc with hc | ⟨hc, hc2⟩
    · have c3 : (H + 1) * D ≤ low * D := Nat.mul_le_mul_right D hc
      rw [Nat.add_mul, Nat.one_mul] at c3
      exact ⟨.inr (.inl (by omega)), .inl (by omega)⟩
    · subst hc
      refine ⟨?_, .inl (by omega)⟩
      right
      by_cases h0 : r = 0
      · right
        rcases hc2 with h1 | h1
        · exact absurd h0 (hmore.1 h1)
        · exact ⟨by omega, by omega⟩
      · left; omega
  · rename_i hc
    have hm' : m = Q := by omega
    subst hm'
    rw [e1]
    constructor
    · by_cases h0 : m = 0
      · exact .inl h0
      · right; left
        have := e2 (by omega)
        omega
    · by_cases h1 : low < H
      · have c3 : (low + 1) * D ≤ H * D := Nat.mul_le_mul_right D h1
        rw [Nat.add_mul, Nat.one_mul] at c3
        left; omega
      · have h2 : low = H := by omega
        subst h2
        right
        have h3 : r = 0 := by
          apply Nat.eq_zero_of_not_pos
          intro h4
          exact hc (.inr ⟨rfl, .inl (hmore.2 (by omega))⟩)
        have h4 : m % 2 = 0 := by
          rcases Nat.mod_two_eq_zero_or_one m with h5 | h5
          · exact h5
          · exact absurd (.inr ⟨rfl, .inr h5⟩) hc
        exact ⟨by omega, h4⟩
theorem near_more {n d A B E k : Nat} {more : Bool} (hd : 0 < d) (hE : E + A = k + 1 + B + 1074) (hmore : more = true ↔ n * 2 ^ A % (d * 2 ^ B) ≠ 0)
    (h1 : n * 2 ^ A / (d * 2 ^ B) < 2 ^ 53 * 2 ^ (k + 1)) (h2 : E = 0 ∨ 2 ^ 52 * 2 ^ (k + 1) ≤ n * 2 ^ A / (d * 2 ^ B)) : Rd.Near n d (E * 2 ^ 52 + rnm (n * 2 ^ A / (d * 2 ^ B)) (k + 1) more) := by
  have hD : 0 < d * 2 ^ B := Nat.mul_pos hd (Nat.pow_pos (by decide))
  have hN := Nat.div_add_mod (n * 2 ^ A) (d * 2 ^ B)
  have hr := Nat.mod_lt (n * 2 ^ A) hD
  have hk : 0 < 2 ^ k := Nat.pow_pos (by decide)
  have hk1 : 2 ^ (k + 1) = 2 * 2 ^ k := by rw [Nat.pow_succ, Nat.mul_comm]
  have hrn : rnm (n * 2 ^ A / (d * 2 ^ B)) (k + 1) more = n * 2 ^ A / (d * 2 ^ B) / 2 ^ (k + 1) + if 2 ^ k < n * 2 ^ A / (d * 2 ^ B) % 2 ^ (k + 1) ∨ (n * 2 ^ A / (d * 2 ^ B) % 2 ^ (k + 1) = 2 ^ k ∧ (more = true ∨ n * 2 ^ A / (d * 2 ^ B) / 2 ^ (k + 1) % 2 = 1)) then 1 else 0 := by
    unfold rnm; rw [Nat.add_sub_cancel]
  generalize hr' : n * 2 ^ A % (d * 2 ^ B) = r at *
  generalize hq' : n * 2 ^ A / (d * 2 ^ B) = q at *
  have hq := Nat.div_add_mod q (2 ^ (k + 1))
  have hlow := Nat.mod_lt q (show 0 < 2 ^ (k + 1) by omega)
  have hQ : q / 2 ^ (k + 1) < 2 ^ 53 := by rw [Nat.div_lt_iff_lt_mul (by omega)]; exact h1
  have hQ2 : E = 0 ∨ 2 ^ 52 ≤ q / 2 ^ (k + 1) := by
    rcases h2 with h | h
    · exact .inl h
    · exact .inr ((Nat.le_div_iff_mul_le (by omega)).2 h)
  have hmm : rnm q (k + 1) more ≤ q / 2 ^ (k + 1) + 1 := by rw [hrn]; split <;> omega
  have hmm2 : q / 2 ^ (k + 1) ≤ rnm q (k + 1) more := by rw [hrn]; omega
  generalize hQ' : q / 2 ^ (k + 1) = Q at *
  generalize hl' : q % 2 ^ (k + 1) = low at *
  generalize rnm q (k + 1) more = m at *
  have hqe : q = Q * (2 * 2 ^ k) + low := by rw [← hq, hk1, Nat.mul_comm]
  have hNe : n * 2 ^ A = (Q * (2 * 2 ^ k) + low) * (d * 2 ^ B) + r := by rw [← hN, ← hqe, Nat.mul_comm]
  have key := nm_ar (Q := Q) (H := 2 ^ k) (D := d * 2 ^ B) (low := low) (r := r) (m := m) (more := more) hD hk hr hmore (by omega) hrn
  rw [← hk1] at key hNe
  rw [← hNe] at key
  refine Rd.near_of (A := A) (B := B) hE (by omega) (by omega) ?_ hd key.1 key.2
  rcases h2 with h | h
  · exact .inl h
  · right
    have h3 := Nat.mul_le_mul_right (d * 2 ^ B) h
    have h4 : q * (d * 2 ^ B) ≤ n * 2 ^ A := by rw [← hN, Nat.mul_comm]; omega
    omega
/-- how far to drop -/
theorem nr_drop {q : Nat} {e : Int} (he1 : -1076 ≤ e) (hq : q < 72057594037927936) (hc : 18014398509481984 ≤ q ∨ e = -1076) :
    ∃ n0 dr E : Nat, max 0 (-1074 - e) = (n0 : Int) ∧ n0 ≤ dr ∧ 1 ≤ dr ∧ dr ≤ 3 ∧ (∀ j, n0 ≤ j → j < dr → 9007199254740992 ≤ q / 2 ^ j) ∧ q / 2 ^ dr < 9007199254740992 ∧ (E : Int) = e + dr + 1074 ∧ (E = 0 ∨ 4503599627370496 ≤ q / 2 ^ dr) := by
  by_cases h : q < 36028797018963968
  · refine ⟨(max 0 (-1074 - e)).toNat, 2, (e + 1076).toNat, by omega, by omega, by omega, by omega, ?_, by show q / 4 < _; omega, by omega, ?_⟩
    · intro j h1 h2
      have : j = 0 ∨ j = 1 := by omega
      rcases this with rfl | rfl
      · show _ ≤ q / 1; omega
      · show _ ≤ q / 2; omega
    · show _ ∨ _ ≤ q / 4; omega
  · refine ⟨(max 0 (-1074 - e)).toNat, 3, (e + 1077).toNat, by omega, by omega, by omega, by omega, ?_, by show q / 8 < _; omega, by omega, ?_⟩
    · intro j h1 h2
      have : j = 0 ∨ j = 1 ∨ j = 2 := by omega
      rcases this with rfl | rfl | rfl
      · show _ ≤ q / 1; omega
      · show _ ≤ q / 2; omega
      · show _ ≤ q / 4; omega
    · right; show _ ≤ q / 8; omega
/-- what rounded gives is nearest -/
theorem nround_c {n d A B : Nat} {e : Int} {more : Bool} (w : World) (hd : 0 < d) (he : e = (B : Int) - (A : Int)) (he1 : -1076 ≤ e) (he2 : e ≤ 100000) (hmore : more = true ↔ n * 2 ^ A % (d * 2 ^ B) ≠ 0)
    (hq : n * 2 ^ A / (d * 2 ^ B) < 72057594037927936) (hc : 18014398509481984 ≤ n * 2 ^ A / (d * 2 ^ B) ∨ e = -1076) :
    Calls Try.prog 53 #[.int .u64 ((n * 2 ^ A / (d * 2 ^ B) : Nat) : Int), .int .i64 e, .bool more] w fun e w' => ∃ s, e = .returned (nres s) ∧ Rd.Near n d s ∧ w = w' := by
  obtain ⟨n0, dr, E, g1, g2, g3, g4, g5, g6, g7, g8⟩ := nr_drop he1 hq hc
  refine (nround_n (n * 2 ^ A / (d * 2 ^ B)) n0 dr E e more w g1 g2 g3 (by omega) he1 he2 hq g5 g6 g7 g8).mono ?_
  rintro e' w' ⟨rfl, rfl⟩
  refine ⟨_, rfl, ?_, rfl⟩
  obtain ⟨k, rfl⟩ : ∃ k, dr = k + 1 := ⟨dr - 1, by omega⟩
  have hp : 0 < 2 ^ (k + 1) := Nat.pow_pos (by decide)
  refine near_more hd (by omega) hmore ?_ ?_
  · exact (Nat.div_lt_iff_lt_mul hp).1 g6
  · rcases g8 with h | h
    · exact .inl h
    · exact .inr ((Nat.le_div_iff_mul_le hp).1 h)
end Go.Proofs.Ytmfnjmgdindlaaa
