/-
  What a decimal is read as: the size, or that it is too great. Plain.
-/
import Derived.Test.YtmfnjmgdindlaaaRdm
import Derived.KernelRfl
namespace Go.Proofs.Ytmfnjmgdindlaaa.Rd
/-- the size of the infinity -/
def inf : Nat := 9218868437227405312
theorem c1 : 2 ^ 1 * U ≤ 10 ^ 324 := by
  rw [← U_add]
  exact Nat.le_of_ble_eq_true (by kernel_rfl)
theorem c2 : 10 ^ 324 ≤ 2 ^ 1077 := Nat.le_of_ble_eq_true (by kernel_rfl)
theorem c3 : 10 ^ 309 ≤ 2 ^ 1027 := Nat.le_of_ble_eq_true (by kernel_rfl)
theorem c4 : 2 ^ 1024 ≤ 10 ^ 309 := Nat.le_of_ble_eq_true (by kernel_rfl)
theorem M_zero : M 0 = 1 := by unfold M V; simp
theorem pw (a b x : Nat) (h : a + b = x + 1074) : 2 ^ a * 2 ^ b = 2 ^ x * U := by rw [← Nat.pow_add, h, U_add]
theorem V_inf (x : Nat) (hx : x = 1024) : V inf = 2 ^ x * U := by
  have h := V_of 2046 (2 ^ 52) (by decide) (.inr (Nat.le_refl _))
  have e : 2046 * 2 ^ 52 + 2 ^ 52 = inf := by decide
  rw [e] at h
  exact h.trans (pw 52 2046 x (by omega))
theorem c4' (x y : Nat) (hx : x = 1024) (hy : y = 309) : 2 ^ x ≤ 10 ^ y := by subst hx; subst hy; exact c4
/-- the number is at the border to the infinity, or beyond -/
def Big (n d : Nat) : Prop := M (inf - 1) * d ≤ n * (2 * U)
theorem near_big {n d t : Nat} (h : Near n d t) (ht : inf ≤ t) : Big n d := by
  unfold Big
  have h0 : t ≠ 0 := by unfold inf at ht; omega
  have h1 : M (inf - 1) ≤ M (t - 1) := M_mono (by omega)
  have h2 := Nat.mul_le_mul_right d h1
  rcases h.1 with h3 | h3 | h3
  · exact absurd h3 h0
  · omega
  · omega
theorem near_small {n d t : Nat} (h : Near n d t) (ht : t < inf) (hd : 0 < d) : ¬ Big n d := by
  unfold Big
  intro hb
  have h1 : M t ≤ M (inf - 1) := M_mono (by omega)
  have h2 := Nat.mul_le_mul_right d h1
  rcases h.2 with h3 | ⟨h3, h4⟩
  · omega
  · have h5 : M (inf - 1) ≤ M t := Nat.le_of_mul_le_mul_right (show M (inf - 1) * d ≤ M t * d by omega) hd
    have h6 : t = inf - 1 := by
      rcases Nat.lt_or_ge t (inf - 1) with h7 | h7
      · have := M_smono h7; omega
      · omega
    rw [h6] at h4
    revert h4; decide
/-- numerator and denominator of D x 10^p -/
def num (D : Nat) (p : Int) : Nat := D * 10 ^ p.toNat
def den (p : Int) : Nat := 10 ^ (-p).toNat
theorem den_pos (p : Int) : 0 < den p := Nat.pow_pos (by decide)
/-- D x 10^p is read as s; where s isn't below the infinity it is too great -/
def Sp (D : Nat) (p : Int) (s : Nat) : Prop :=
  (D = 0 ∧ s = 0) ∨ (0 < D ∧ ((s < inf ∧ Near (num D p) (den p) s) ∨ (inf ≤ s ∧ Big (num D p) (den p))))
theorem big_mono {n d n' d' : Nat} (h : Big n d) (hd : 0 < d) (hle : n * d' ≤ n' * d) : Big n' d' := by
  unfold Big at *
  have h1 := Nat.mul_le_mul_right d' h
  have h2 := Nat.mul_le_mul_right (2 * U) hle
  apply Nat.le_of_mul_le_mul_right _ hd
  have e1 : n * (2 * U) * d' = n * d' * (2 * U) := ac3 _ _ _
  have e2 : n' * (2 * U) * d = n' * d * (2 * U) := ac3 _ _ _
  have e3 : M (inf - 1) * d' * d = M (inf - 1) * d * d' := ac3 _ _ _
  omega
theorem Sp.mono {D D' s s' : Nat} {p p' : Int} (h : Sp D p s) (h' : Sp D' p' s') (hle : num D p * den p' ≤ num D' p' * den p) (hs : s' < inf) : s < inf ∧ s ≤ s' := by
  rcases h with ⟨_, rfl⟩ | ⟨h0, h⟩
  · exact ⟨by decide, Nat.zero_le _⟩
  · have hn : 0 < num D p := Nat.mul_pos h0 (Nat.pow_pos (by decide))
    have hp : 0 < num D p * den p' := Nat.mul_pos hn (den_pos p')
    have hD' : 0 < D' := by
      apply Nat.pos_of_ne_zero
      intro e
      rw [e] at hle
      have : num 0 p' = 0 := Nat.zero_mul _
      rw [this, Nat.zero_mul] at hle
      omega
    rcases h' with ⟨e, _⟩ | ⟨_, h'⟩
    · omega
    · rcases h' with ⟨_, h'⟩ | ⟨e, _⟩
      · rcases h with ⟨h1, h2⟩ | ⟨h1, h2⟩
        · exact ⟨h1, h2.mono h' (den_pos p) (den_pos p') hle⟩
        · exact absurd (big_mono h2 (den_pos p) hle) (near_small h' hs (den_pos p'))
      · omega
theorem Sp.uniq {D s s' : Nat} {p : Int} (h : Sp D p s) (h' : Sp D p s') : (s < inf ∧ s = s') ∨ (inf ≤ s ∧ inf ≤ s') := by
  by_cases h1 : s' < inf
  · obtain ⟨h2, h3⟩ := h.mono h' (Nat.le_refl _) h1
    obtain ⟨_, h4⟩ := h'.mono h (Nat.le_refl _) h2
    exact .inl ⟨h2, by omega⟩
  · by_cases h2 : s < inf
    · obtain ⟨h3, _⟩ := h'.mono h (Nat.le_refl _) h2
      exact absurd h3 h1
    · exact .inr ⟨by omega, by omega⟩
theorem sp_zero (p : Int) : Sp 0 p 0 := .inl ⟨rfl, rfl⟩
theorem sp_near {D s : Nat} {p : Int} (h0 : 0 < D) (h : Near (num D p) (den p) s) : Sp D p s := by
  right
  refine ⟨h0, ?_⟩
  by_cases hs : s < inf
  · exact .inl ⟨hs, h⟩
  · exact .inr ⟨by omega, near_big h (by omega)⟩
theorem sp_tiny {D L : Nat} {p : Int} (h0 : 0 < D) (h : D < 10 ^ L) (hp : (L : Int) + p ≤ -324) : Sp D p 0 := by
  refine sp_near h0 ⟨.inl rfl, .inl ?_⟩
  rw [M_zero, Nat.one_mul]
  unfold num den
  rw [show p.toNat = 0 by omega, Nat.pow_zero, Nat.mul_one]
  obtain ⟨r, hr⟩ : ∃ r, (-p).toNat = L + 324 + r := ⟨(-p).toNat - (L + 324), by omega⟩
  rw [hr, Nat.pow_add, Nat.pow_add]
  have h1 := c1
  rw [Nat.pow_one] at h1
  have hp0 : 0 < 10 ^ r := Nat.pow_pos (by decide)
  calc D * (2 * U) < 10 ^ L * (2 * U) := Nat.mul_lt_mul_of_pos_right h (by have := U_pos; omega)
    _ ≤ 10 ^ L * 10 ^ 324 := Nat.mul_le_mul_left _ h1
    _ ≤ 10 ^ L * 10 ^ 324 * 10 ^ r := Nat.le_mul_of_pos_right _ hp0
theorem val_ge {D L c : Nat} {p : Int} (h : 10 ^ L ≤ D) (hp : (c : Int) ≤ (L : Int) + p) : den p * 10 ^ c ≤ num D p := by
  unfold num den
  rw [← Nat.pow_add]
  refine Nat.le_trans ?_ (Nat.mul_le_mul_right _ h)
  rw [← Nat.pow_add]
  exact Nat.pow_le_pow_right (by decide) (by omega)
theorem val_lt {D L c : Nat} {p : Int} (h : D < 10 ^ L) (hp : (L : Int) + p ≤ (c : Int)) : num D p ≤ den p * 10 ^ c := by
  unfold num den
  rw [← Nat.pow_add]
  refine Nat.le_trans (Nat.mul_le_mul_right _ (Nat.le_of_lt h)) ?_
  rw [← Nat.pow_add]
  exact Nat.pow_le_pow_right (by decide) (by omega)
theorem val_ge' {D L c : Nat} {p : Int} (h : 10 ^ L ≤ D) (hp : -(c : Int) ≤ (L : Int) + p) : den p ≤ num D p * 10 ^ c := by
  unfold num den
  refine Nat.le_trans ?_ (Nat.mul_le_mul_right _ (Nat.mul_le_mul_right _ h))
  rw [← Nat.pow_add, ← Nat.pow_add]
  exact Nat.pow_le_pow_right (by decide) (by omega)
theorem sp_big {D L s : Nat} {p : Int} (h : 10 ^ L ≤ D) (hp : 309 ≤ (L : Int) + p) (hs : inf ≤ s) : Sp D p s := by
  have h0 : 0 < D := Nat.lt_of_lt_of_le (Nat.pow_pos (by decide)) h
  refine .inr ⟨h0, .inr ⟨hs, ?_⟩⟩
  obtain ⟨y, hy⟩ : ∃ y, y = 309 := ⟨_, rfl⟩
  have h1 := val_ge (c := y) (p := p) h (by omega)
  unfold Big
  obtain ⟨x, hx⟩ : ∃ x, x = 1024 := ⟨_, rfl⟩
  have h2 : M (inf - 1) ≤ 2 * (2 ^ x * U) := by
    unfold M
    rw [show inf - 1 + 1 = inf by decide, V_inf x hx]
    have := V_mono (show inf - 1 ≤ inf by omega)
    rw [V_inf x hx] at this
    omega
  have h3 : 2 ^ x * U ≤ 10 ^ y * U := Nat.mul_le_mul_right _ (c4' x y hx hy)
  have h4 : M (inf - 1) ≤ 10 ^ y * (2 * U) := by
    have e : 10 ^ y * (2 * U) = 2 * (10 ^ y * U) := by generalize 10 ^ y = t; generalize U = u; ac_rfl
    rw [e]
    generalize 10 ^ y * U = x at h3 ⊢
    generalize 2 ^ x * U = y at h2 h3
    omega
  refine Nat.le_trans (Nat.mul_le_mul_right (den p) h4) ?_
  have e2 : 10 ^ y * (2 * U) * den p = den p * 10 ^ y * (2 * U) := by generalize 10 ^ y = t; generalize U = u; ac_rfl
  rw [e2]
  exact Nat.mul_le_mul_right _ h1
end Go.Proofs.Ytmfnjmgdindlaaa.Rd
