/-
  Varints read. Plain.
-/
import Derived.Test.YtedfjedmapimnaaDoorPkm
namespace Go.Proofs.YtedfjedmapimnaaDoor.Pk
/-- what stands at a place: a number and how many bytes it takes; or the error's place in the list (0: too short, 1: no varint) -/
def rv : Nat → Nat → List Nat → Except Nat (Nat × Nat)
  | _, _, [] => .error 0
  | i, x, b :: l => if i = 9 ∧ 1 < b then .error 1 else if b < 128 then (if b = 0 ∧ 0 < i then .error 1 else .ok (x + b % 128 * 128 ^ i, i + 1)) else rv (i + 1) (x + b % 128 * 128 ^ i) l
theorem rv_nil (i x : Nat) : rv i x [] = .error 0 := rfl
theorem rv_nine {i x b : Nat} {l : List Nat} (h : i = 9) (hb : 1 < b) : rv i x (b :: l) = .error 1 := by
  show (if _ then _ else _) = _; rw [if_pos ⟨h, hb⟩]
theorem rv_zero {i x b : Nat} {l : List Nat} (h : ¬ (i = 9 ∧ 1 < b)) (hb : b = 0) (hi : 0 < i) : rv i x (b :: l) = .error 1 := by
  show (if _ then _ else _) = _; rw [if_neg h, if_pos (by omega), if_pos ⟨hb, hi⟩]
theorem rv_last {i x b : Nat} {l : List Nat} (h : ¬ (i = 9 ∧ 1 < b)) (hb : b < 128) (hi : ¬ (b = 0 ∧ 0 < i)) : rv i x (b :: l) = .ok (x + b % 128 * 128 ^ i, i + 1) := by
  show (if _ then _ else _) = _; rw [if_neg h, if_pos hb, if_neg hi]
theorem rv_more {i x b : Nat} {l : List Nat} (h : ¬ (i = 9 ∧ 1 < b)) (hb : ¬ b < 128) : rv i x (b :: l) = rv (i + 1) (x + b % 128 * 128 ^ i) l := by
  show (if _ then _ else _) = _; rw [if_neg h, if_neg hb]
theorem rv_ok : ∀ (l : List Nat) (i x0 x n : Nat), i ≤ 9 → x0 < 128 ^ i → (∀ b ∈ l, b < 256) → rv i x0 l = .ok (x, n) →
    ∃ y m, x = x0 + 128 ^ i * y ∧ n = i + m ∧ vi y = l.take m ∧ m ≤ l.length ∧ 0 < m ∧ (i = 0 ∨ 0 < y) ∧ x < 18446744073709551616
  | [], i, x0, x, n, _, _, _, h => by cases h
  | b :: l, i, x0, x, n, hi, hx, hl, h => by
    have hb := hl b List.mem_cons_self
    by_cases h1 : i = 9 ∧ 1 < b
    · rw [rv_nine h1.1 h1.2] at h; cases h
    · by_cases h2 : b < 128
      · by_cases h3 : b = 0 ∧ 0 < i
        · rw [rv_zero h1 h3.1 h3.2] at h; cases h
        · rw [rv_last h1 h2 h3] at h
          cases h
          refine ⟨b, 1, ?_, rfl, by rw [vi_small h2]; rfl, by simp, by decide, ?_, ?_⟩
          · rw [Nat.mod_eq_of_lt h2, Nat.mul_comm]
          · omega
          · rw [Nat.mod_eq_of_lt h2]
            have e9 : (128 : Nat) ^ 9 = 9223372036854775808 := by decide
            by_cases h9 : i = 9
            · subst h9
              have : b * 128 ^ 9 ≤ 1 * 128 ^ 9 := Nat.mul_le_mul_right _ (by omega)
              omega
            · have h4 : 128 ^ (i + 1) ≤ 128 ^ 9 := Nat.pow_le_pow_right (by decide) (by omega)
              have h5 : b * 128 ^ i ≤ 127 * 128 ^ i := Nat.mul_le_mul_right _ (by omega)
              rw [Nat.pow_succ] at h4
              omega
      · rw [rv_more h1 h2] at h
        have h9 : i + 1 ≤ 9 := by omega
        have hx' : x0 + b % 128 * 128 ^ i < 128 ^ (i + 1) := by
          have h5 : b % 128 * 128 ^ i ≤ 127 * 128 ^ i := Nat.mul_le_mul_right _ (by omega)
          rw [Nat.pow_succ]; omega
        obtain ⟨y, m, e1, e2, e3, e4, e5, e6, e7⟩ := rv_ok l (i + 1) _ x n h9 hx' (fun c hc => hl c (List.mem_cons_of_mem _ hc)) h
        have hy : 0 < y := by omega
        refine ⟨b % 128 + 128 * y, m + 1, ?_, by omega, ?_, by simp; omega, by omega, .inr (by omega), e7⟩
        · rw [e1, Nat.pow_succ, Nat.mul_add, Nat.mul_comm (128 ^ i) (b % 128), Nat.mul_assoc, Nat.add_assoc]
        · rw [vi_big (by omega), show (b % 128 + 128 * y) % 128 + 128 = b by omega, show (b % 128 + 128 * y) / 128 = y by omega, e3]; rfl
theorem rv_read : ∀ (k y i x0 : Nat) (l : List Nat), y ≤ k → i ≤ 9 → (i = 0 ∨ 0 < y) → 128 ^ i * y < 18446744073709551616 → rv i x0 (vi y ++ l) = .ok (x0 + 128 ^ i * y, i + (vi y).length)
  | 0, y, i, x0, l, hk, hi, h0, hy => by
    have : y = 0 := by omega
    subst this
    have h1 : i = 0 := by omega
    subst h1
    rw [vi_small (by decide)]
    exact rv_last (l := l) (by omega) (by decide) (by omega)
  | k + 1, y, i, x0, l, hk, hi, h0, hy => by
    have h19 : i = 9 → y ≤ 1 := fun h => by subst h; have : (128 : Nat) ^ 9 = 9223372036854775808 := by decide
                                            rw [this] at hy; omega
    by_cases hs : y < 128
    · rw [vi_small hs, List.singleton_append, rv_last (by omega) hs (by omega), Nat.mod_eq_of_lt hs, Nat.mul_comm]
      rfl
    · rw [vi_big (by omega), List.cons_append, rv_more (by omega) (by omega)]
      have e1 : 128 ^ (i + 1) * (y / 128) ≤ 128 ^ i * y := by
        rw [Nat.pow_succ, Nat.mul_assoc]
        exact Nat.mul_le_mul_left _ (Nat.mul_div_le y 128)
      rw [rv_read k (y / 128) (i + 1) _ l (by omega) (by omega) (.inr (by omega)) (by omega), List.length_cons]
      have e2 : (y % 128 + 128) % 128 = y % 128 := by omega
      have e3 : x0 + (y % 128 + 128) % 128 * 128 ^ i + 128 ^ (i + 1) * (y / 128) = x0 + 128 ^ i * y := by
        rw [e2, Nat.pow_succ, Nat.mul_assoc, Nat.mul_comm (y % 128), Nat.add_assoc, ← Nat.mul_add, Nat.add_comm (y % 128), Nat.div_add_mod]
      rw [e3]
      congr 2
      omega
theorem rv_short : ∀ (k y i x0 m : Nat), y ≤ k → i ≤ 9 → 128 ^ i * y < 18446744073709551616 → m < (vi y).length → rv i x0 ((vi y).take m) = .error 0
  | 0, y, i, x0, m, hk, hi, hy, hm => by
    rw [vi_small (by omega)] at hm
    have : m = 0 := by simpa using hm
    subst this; rfl
  | k + 1, y, i, x0, m, hk, hi, hy, hm => by
    have h19 : i = 9 → y ≤ 1 := fun h => by subst h; have : (128 : Nat) ^ 9 = 9223372036854775808 := by decide
                                            rw [this] at hy; omega
    by_cases hs : y < 128
    · rw [vi_small hs] at hm
      have : m = 0 := by simpa using hm
      subst this; rfl
    · rw [vi_big (by omega)] at hm ⊢
      cases m with
      | zero => rfl
      | succ m =>
        rw [List.take_succ_cons, rv_more (by omega) (by omega)]
        have e1 : 128 ^ (i + 1) * (y / 128) ≤ 128 ^ i * y := by
          rw [Nat.pow_succ, Nat.mul_assoc]
          exact Nat.mul_le_mul_left _ (Nat.mul_div_le y 128)
        exact rv_short k (y / 128) (i + 1) _ m (by omega) (by omega) (by omega) (by simpa using hm)
/-- a number that is read and what is left of it -/
def ux (r : Except Nat (Nat × Nat)) : Nat := match r with | .ok (x, _) => x | .error _ => 0
def ud {α : Type} (r : Except Nat (α × Nat)) : Nat := match r with | .ok (_, n) => n | .error _ => 0
theorem rv_bd {bs : List Nat} (h : ∀ b ∈ bs, b < 256) (k : Nat) (hk : k ≤ bs.length) : ux (rv 0 0 (bs.drop k)) < 18446744073709551616 ∧ k + ud (rv 0 0 (bs.drop k)) ≤ bs.length := by
  cases hr : rv 0 0 (bs.drop k) with
  | error c => exact ⟨(by decide : 0 < 18446744073709551616), hk⟩
  | ok p =>
    obtain ⟨x, n⟩ := p
    obtain ⟨y, m, e1, e2, e3, e4, e5, e6, e7⟩ := rv_ok (bs.drop k) 0 0 x n (by decide) (by decide) (fun b hb => h b (List.mem_of_mem_drop hb)) hr
    refine ⟨e7, ?_⟩
    rw [List.length_drop] at e4
    show k + n ≤ _
    omega
end Go.Proofs.YtedfjedmapimnaaDoor.Pk
