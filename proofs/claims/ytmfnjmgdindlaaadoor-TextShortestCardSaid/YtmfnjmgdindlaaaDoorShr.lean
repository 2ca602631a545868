/-
  The shortest decimal of a float's size: the unit that leaves 18 digits; what the program looks for, step by step. Plain.
-/
import Derived.Test.YtmfnjmgdindlaaaDoorShq
namespace Go.Proofs.YtmfnjmgdindlaaaDoor.Rd
/-- the power of ten of a power of two -/
def tot (e : Int) : Int := e * 78913 / 262144
def totB (i : Nat) : Bool :=
  let e : Int := (i : Int) - 1074
  Nat.ble (10 ^ (tot e + 400).toNat * 2 ^ 1100) (2 ^ (e + 1100).toNat * 10 ^ 400) && Nat.blt (2 ^ (e + 1100).toNat * 10 ^ 400) (10 ^ (tot e + 1 + 400).toNat * 2 ^ 1100) && decide (-325 ≤ tot e) && decide (tot e ≤ 308)
def totAll : Nat → Bool
  | 0 => true
  | n + 1 => totB n && totAll n
theorem totAll_t : totAll 2098 = true := by decide +kernel
theorem totAll_at {n : Nat} (h : totAll n = true) : ∀ i, i < n → totB i = true := by
  induction n with
  | zero => intro i hi; omega
  | succ n ih =>
    unfold totAll at h
    rw [Bool.and_eq_true] at h
    intro i hi
    by_cases e : i = n
    · rw [e]; exact h.1
    · exact ih h.2 i (by omega)
theorem tot_ok {e : Int} (P Q : Nat) (hP : P = 1100) (hQ : Q = 400) (h1 : -1074 ≤ e) (h2 : e ≤ 1023) :
    gg Q (tot e) * 2 ^ P ≤ 2 ^ (e + P).toNat * 10 ^ Q ∧ 2 ^ (e + P).toNat * 10 ^ Q < gg Q (tot e + 1) * 2 ^ P ∧ -325 ≤ tot e ∧ tot e ≤ 308 := by
  have h := totAll_at totAll_t (e + 1074).toNat (by omega)
  unfold totB at h
  rw [show (((e + 1074).toNat : Nat) : Int) - 1074 = e by omega] at h
  simp only [Bool.and_eq_true, decide_eq_true_eq] at h
  obtain ⟨⟨⟨a, b⟩, c⟩, d⟩ := h
  subst hP hQ
  exact ⟨Nat.le_of_ble_eq_true a, Nat.le_of_ble_eq_true b, c, d⟩
/-- the first view has 18 digits or 19 -/
theorem view_bounds {m b : Nat} {p t : Int} (hb1 : 2 ^ (b - 1) ≤ m) (hb2 : m < 2 ^ b) (hb : 1 ≤ b) (h1 : -1074 ≤ p) (h2 : p + b - 1 ≤ 1023) (ht : t = tot (p + b - 1) - 17) :
    10 ^ 17 * sD (p - 2) t ≤ 4 * m * sU (p - 2) t ∧ 4 * m * sU (p - 2) t < 2 * 10 ^ 18 * sD (p - 2) t := by
  obtain ⟨P, hP⟩ : ∃ P, P = 1100 := ⟨_, rfl⟩
  obtain ⟨Q, hQ⟩ : ∃ Q, Q = 400 := ⟨_, rfl⟩
  obtain ⟨t1, t2, t3, t4⟩ := tot_ok (e := p + b - 1) P Q hP hQ (by omega) h2
  have s := sfg (P := P) (Q := Q) (e := p - 2) (t := t) (by omega) (by omega)
  have g1 : gg Q (tot (p + b - 1)) = 10 ^ 17 * gg Q t := by
    unfold gg; rw [← Nat.pow_add]; congr 1; omega
  have g2 : gg Q (tot (p + b - 1) + 1) = 10 ^ 18 * gg Q t := by
    unfold gg; rw [← Nat.pow_add]; congr 1; omega
  rw [g1] at t1
  rw [g2] at t2
  have f1 : 2 ^ (p + b - 1 + P).toNat = 2 ^ (b - 1) * 4 * 2 ^ (p - 2 + P).toNat := by
    rw [show (4 : Nat) = 2 ^ 2 from rfl, ← Nat.pow_add, ← Nat.pow_add]; congr 1; omega
  rw [f1] at t1 t2
  have m1 : 2 ^ b = 2 * 2 ^ (b - 1) := by
    obtain ⟨c, rfl⟩ : ∃ c, b = c + 1 := ⟨b - 1, by omega⟩
    rw [Nat.pow_succ, Nat.add_sub_cancel]; omega
  have hgp : 0 < gg Q t * 2 ^ P := Nat.mul_pos (gg_pos _ _) (Nat.two_pow_pos _)
  generalize sU (p - 2) t = a at *
  generalize hsd : sD (p - 2) t = d at *
  generalize gg Q t = g at *
  generalize 2 ^ P = f at *
  generalize 2 ^ (p - 2 + P).toNat = k at *
  generalize 10 ^ Q = h at *
  rw [m1] at hb2
  generalize 2 ^ (b - 1) = c at *
  clear m1 f1 g1 g2
  constructor
  · apply Nat.le_of_mul_le_mul_right _ hgp
    have e1 : 4 * m * a * (g * f) = 4 * m * (a * (g * f)) := Nat.mul_assoc _ _ _
    rw [e1, s]
    calc 10 ^ 17 * d * (g * f) = d * (10 ^ 17 * g * f) := by generalize 10 ^ 17 = z; ac_rfl
      _ ≤ d * (c * 4 * k * h) := Nat.mul_le_mul_left _ t1
      _ = 4 * c * (d * (k * h)) := by ac_rfl
      _ ≤ 4 * m * (d * (k * h)) := Nat.mul_le_mul_right _ (by omega)
  · apply Nat.lt_of_mul_lt_mul_right (a := g * f)
    have e1 : 4 * m * a * (g * f) = 4 * m * (a * (g * f)) := Nat.mul_assoc _ _ _
    rw [e1, s]
    have hd : 0 < d := by rw [← hsd]; exact sD_pos _ _
    calc 4 * m * (d * (k * h)) ≤ 4 * (2 * c) * (d * (k * h)) := Nat.mul_le_mul_right _ (by omega)
      _ = 2 * (d * (c * 4 * k * h)) := by ac_rfl
      _ < 2 * (d * (10 ^ 18 * g * f)) := by
        have := Nat.mul_lt_mul_of_pos_left t2 hd
        omega
      _ = 2 * 10 ^ 18 * d * (g * f) := by generalize 10 ^ 18 = z; ac_rfl
/-- the next unit -/
theorem next_unit (e t : Int) : sU e (t + 1) * (10 * sD e t) = sU e t * sD e (t + 1) := by
  unfold sU sD
  have h : 10 ^ (-(t + 1)).toNat * (10 * 10 ^ t.toNat) = 10 ^ (-t).toNat * 10 ^ (t + 1).toNat := by
    rw [show 10 * 10 ^ t.toNat = 10 ^ (1 + t.toNat) by rw [Nat.pow_add], ← Nat.pow_add, ← Nat.pow_add]; congr 1; omega
  generalize 10 ^ (-(t + 1)).toNat = a at *
  generalize 10 ^ t.toNat = b at *
  generalize 10 ^ (-t).toNat = c at *
  generalize 10 ^ (t + 1).toNat = d at *
  generalize 2 ^ e.toNat = f at *
  generalize 2 ^ (-e).toNat = g at *
  have e1 : a * f * (10 * (b * g)) = a * (10 * b) * (f * g) := by ac_rfl
  have e2 : c * f * (d * g) = c * d * (f * g) := by ac_rfl
  rw [e1, e2, h]
theorem next_whole (x : Nat) (e t : Int) : x * sU e (t + 1) / sD e (t + 1) = x * sU e t / sD e t / 10 := by
  rw [Nat.div_div_eq_div_mul]
  refine (div_ratio (sD_pos _ _) (Nat.mul_pos (sD_pos _ _) (by decide)) ?_).1
  have h := next_unit e t
  rw [Nat.mul_comm (sD e t) 10, Nat.mul_assoc x, h, Nat.mul_assoc]
/-- what a view's nearest tells -/
def nst (W : Nat) (X : Bool) (L H g : Nat) : Option Nat :=
  if L ≤ W / g * g then (if W / g * g + g ≤ H then (if nh W X g = true then some (W / g * g + g) else some (W / g * g)) else some (W / g * g))
  else if W / g * g + g ≤ H then some (W / g * g + g) else none
/-- the first one that is found -/
def Srt (W : Nat) (X : Bool) (L H n : Nat) : Prop := ∃ k, 1 ≤ k ∧ k ≤ 17 ∧ nst W X L H (10 ^ (18 - k)) = some n ∧ ∀ j, 1 ≤ j → j < k → nst W X L H (10 ^ (18 - j)) = none
theorem Srt.uniq {W : Nat} {X : Bool} {L H n n' : Nat} (h : Srt W X L H n) (h' : Srt W X L H n') : n = n' := by
  obtain ⟨k, a1, a2, a3, a4⟩ := h
  obtain ⟨l, b1, b2, b3, b4⟩ := h'
  rcases Nat.lt_trichotomy k l with c | c | c
  · rw [b4 k a1 c] at a3; cases a3
  · subst c; rw [a3] at b3; exact Option.some.inj b3
  · rw [a4 l b1 c] at b3; cases b3
theorem nst_none {W : Nat} {X : Bool} {L H g : Nat} (h : nst W X L H g = none) : ¬ L ≤ W / g * g ∧ ¬ W / g * g + g ≤ H := by
  unfold nst at h
  by_cases h1 : L ≤ W / g * g
  · rw [if_pos h1] at h
    by_cases h2 : W / g * g + g ≤ H
    · rw [if_pos h2] at h; split at h <;> cases h
    · rw [if_neg h2] at h; cases h
  · rw [if_neg h1] at h
    by_cases h2 : W / g * g + g ≤ H
    · rw [if_pos h2] at h; cases h
    · exact ⟨h1, h2⟩
theorem nst_bounds {W : Nat} {X : Bool} {L H g n : Nat} (h : nst W X L H g = some n) : n = W / g * g ∨ n = W / g * g + g := by
  unfold nst at h
  split at h
  · split at h
    · split at h
      · right; exact (Option.some.inj h).symm
      · left; exact (Option.some.inj h).symm
    · left; exact (Option.some.inj h).symm
  · split at h
    · right; exact (Option.some.inj h).symm
    · cases h
end Go.Proofs.YtmfnjmgdindlaaaDoor.Rd
