/-
  Floats by their sizes (bits without the sign), as whole numbers: what is nearest to n / d; it is one, and it grows. Plain.
-/
import Derived.Test.YtmfnjmgdindlaaaDoorQe
namespace Go.Proofs.YtmfnjmgdindlaaaDoor.Rd
/-- the value of a size, times 2^1074 (past the infinity the line goes on) -/
def V (s : Nat) : Nat := if s / 2 ^ 52 = 0 then s % 2 ^ 52 else (2 ^ 52 + s % 2 ^ 52) * 2 ^ (s / 2 ^ 52 - 1)
theorem V_of (E m : Nat) (h1 : m ≤ 2 ^ 53) (h2 : E = 0 ∨ 2 ^ 52 ≤ m) : V (E * 2 ^ 52 + m) = m * 2 ^ E := by
  unfold V
  by_cases hm : m < 2 ^ 52
  · have hE : E = 0 := by omega
    subst hE
    rw [if_pos (by omega)]
    simp
    omega
  · by_cases h3 : m = 2 ^ 53
    · subst h3
      have e1 : (E * 2 ^ 52 + 2 ^ 53) / 2 ^ 52 = E + 2 := by omega
      have e2 : (E * 2 ^ 52 + 2 ^ 53) % 2 ^ 52 = 0 := by omega
      rw [e1, e2, if_neg (by omega), show E + 2 - 1 = E + 1 by omega, Nat.pow_succ]
      omega
    · have e1 : (E * 2 ^ 52 + m) / 2 ^ 52 = E + 1 := by omega
      have e2 : (E * 2 ^ 52 + m) % 2 ^ 52 = m - 2 ^ 52 := by omega
      rw [e1, e2, if_neg (by omega), show E + 1 - 1 = E by omega, show 2 ^ 52 + (m - 2 ^ 52) = m by omega]
/-- every size is E, m -/
theorem split (s : Nat) : ∃ E m, s = E * 2 ^ 52 + m ∧ m < 2 ^ 53 ∧ (E = 0 ∨ 2 ^ 52 ≤ m) := by
  by_cases h : s < 2 ^ 53
  · exact ⟨0, s, by omega, h, .inl rfl⟩
  · exact ⟨s / 2 ^ 52 - 1, s % 2 ^ 52 + 2 ^ 52, by omega, by omega, .inr (by omega)⟩
theorem V_step (s : Nat) : ∃ E m, s = E * 2 ^ 52 + m ∧ m < 2 ^ 53 ∧ (E = 0 ∨ 2 ^ 52 ≤ m) ∧ V s = m * 2 ^ E ∧ V (s + 1) = (m + 1) * 2 ^ E := by
  obtain ⟨E, m, rfl, h1, h2⟩ := split s
  refine ⟨E, m, rfl, h1, h2, V_of E m (by omega) h2, ?_⟩
  rw [Nat.add_assoc]
  exact V_of E (m + 1) (by omega) (by omega)
theorem V_lt (s : Nat) : V s < V (s + 1) := by
  obtain ⟨E, m, _, _, _, e1, e2⟩ := V_step s
  rw [e1, e2, Nat.add_mul]
  have := Nat.pow_pos (n := E) (show 0 < 2 by omega)
  omega
theorem V_mono {s t : Nat} (h : s ≤ t) : V s ≤ V t := by
  induction t with
  | zero => rw [Nat.le_zero.1 h]; exact Nat.le_refl _
  | succ t ih =>
    by_cases h1 : s = t + 1
    · rw [h1]; exact Nat.le_refl _
    · exact Nat.le_of_lt (Nat.lt_of_le_of_lt (ih (by omega)) (V_lt t))
theorem V_smono {s t : Nat} (h : s < t) : V s < V t := Nat.lt_of_lt_of_le (V_lt s) (V_mono (show s + 1 ≤ t by omega))
theorem V_inj {s t : Nat} (h : V s = V t) : s = t := by
  rcases Nat.lt_trichotomy s t with h1 | h1 | h1
  · have := V_smono h1; omega
  · exact h1
  · have := V_smono h1; omega
theorem V_zero : V 0 = 0 := by simp [V]
/-- twice the middle between a size and the next one -/
def M (s : Nat) : Nat := V s + V (s + 1)
theorem M_smono {s t : Nat} (h : s < t) : M s < M t := by
  have h1 := V_smono h
  have h2 := V_smono (show s + 1 < t + 1 by omega)
  unfold M; omega
theorem M_mono {s t : Nat} (h : s ≤ t) : M s ≤ M t := by
  rcases Nat.lt_or_eq_of_le h with h1 | h1
  · exact Nat.le_of_lt (M_smono h1)
  · rw [h1]; exact Nat.le_refl _
/-- 2^1074, told by doublings -/
def pw2 : Nat → Nat
  | 0 => 1
  | n + 1 => 2 * pw2 n
theorem pw2_pos (n : Nat) : 0 < pw2 n := by
  induction n with
  | zero => exact Nat.one_pos
  | succ n ih => unfold pw2; omega
theorem pw2_add (k n : Nat) : 2 ^ (k + n) = 2 ^ k * pw2 n := by
  induction n with
  | zero => unfold pw2; rw [Nat.add_zero, Nat.mul_one]
  | succ n ih => unfold pw2; rw [← Nat.add_assoc, Nat.pow_succ, ih, Nat.mul_assoc, Nat.mul_comm (pw2 n) 2]
def U : Nat := pw2 1074
theorem U_add (k : Nat) : 2 ^ (k + 1074) = 2 ^ k * U := pw2_add k 1074
theorem U_pos : 0 < U := pw2_pos 1074
theorem ac1 (x d D B u E A : Nat) (h : E * A = D * B * u) : x * D * (d * B) * u = x * E * d * A := by
  have e1 : x * D * (d * B) * u = x * d * (D * B * u) := by ac_rfl
  have e2 : x * E * d * A = x * d * (E * A) := by ac_rfl
  rw [e1, e2, h]
theorem ac2 (n A u : Nat) : 2 * (n * A) * u = n * (2 * u) * A := by ac_rfl
theorem ac3 (n A u : Nat) : n * A * u = n * u * A := by ac_rfl
/-- s is the size that is nearest to n / d, a half to the even one -/
def Near (n d s : Nat) : Prop :=
  (s = 0 ∨ M (s - 1) * d < n * (2 * U) ∨ (M (s - 1) * d = n * (2 * U) ∧ s % 2 = 0)) ∧
  (n * (2 * U) < M s * d ∨ (M s * d = n * (2 * U) ∧ s % 2 = 0))
theorem Near.mono {n d s n' d' t : Nat} (h : Near n d s) (h' : Near n' d' t) (hd : 0 < d) (hd' : 0 < d') (hle : n * d' ≤ n' * d) : s ≤ t := by
  apply Nat.le_of_not_lt
  intro hlt
  have hs : s ≠ 0 := by omega
  have hM : M t ≤ M (s - 1) := M_mono (by omega)
  have a1 : M (s - 1) * d ≤ n * (2 * U) := by rcases h.1 with h1 | h1 | h1 <;> omega
  have a2 : n' * (2 * U) ≤ M t * d' := by rcases h'.2 with h1 | h1 <;> omega
  have b1 : M (s - 1) * d * d' ≤ n * (2 * U) * d' := Nat.mul_le_mul_right _ a1
  have b2 : n' * (2 * U) * d ≤ M t * d' * d := Nat.mul_le_mul_right _ a2
  have b3 : n * d' * (2 * U) ≤ n' * d * (2 * U) := Nat.mul_le_mul_right _ hle
  have b4 : M t * (d * d') ≤ M (s - 1) * (d * d') := Nat.mul_le_mul_right _ hM
  have c1 : n * (2 * U) * d' = n * d' * (2 * U) := by rw [Nat.mul_assoc, Nat.mul_comm ((2 * U)), ← Nat.mul_assoc]
  have c2 : n' * (2 * U) * d = n' * d * (2 * U) := by rw [Nat.mul_assoc, Nat.mul_comm ((2 * U)), ← Nat.mul_assoc]
  have c3 : M t * d' * d = M t * (d * d') := by rw [Nat.mul_assoc, Nat.mul_comm d']
  have c4 : M (s - 1) * d * d' = M (s - 1) * (d * d') := Nat.mul_assoc _ _ _
  rw [c1, c4] at b1
  rw [c2, c3] at b2
  have e1 : M t * (d * d') = M (s - 1) * (d * d') := by omega
  have hdd : 0 < d * d' := Nat.mul_pos hd hd'
  have e2 : M t = M (s - 1) := Nat.eq_of_mul_eq_mul_right hdd e1
  have e3 : t = s - 1 := by
    rcases Nat.lt_trichotomy t (s - 1) with h1 | h1 | h1
    · have := M_smono h1; omega
    · exact h1
    · have := M_smono h1; omega
  -- both are halves
  have f1 : M (s - 1) * d = n * (2 * U) := by
    apply Nat.eq_of_mul_eq_mul_right hd'
    rw [c4, c1]; omega
  have f2 : M t * d' = n' * (2 * U) := by
    apply Nat.eq_of_mul_eq_mul_right hd
    rw [c3, c2]; omega
  rcases h.1 with h1 | h1 | h1
  · omega
  · omega
  · rcases h'.2 with h2 | h2
    · omega
    · omega
theorem Near.uniq {n d s t : Nat} (h : Near n d s) (h' : Near n d t) (hd : 0 < d) : s = t :=
  Nat.le_antisymm (h.mono h' hd hd (Nat.le_refl _)) (h'.mono h hd hd (Nat.le_refl _))
theorem Near.scale {n d s : Nat} (k : Nat) (hk : 0 < k) : Near (n * k) (d * k) s ↔ Near n d s := by
  have e1 : ∀ x : Nat, x * (d * k) = x * d * k := fun x => by rw [Nat.mul_assoc]
  have e2 : n * k * (2 * U) = n * (2 * U) * k := by rw [Nat.mul_assoc, Nat.mul_comm k, ← Nat.mul_assoc]
  have lt : ∀ x y : Nat, x * k < y * k ↔ x < y := fun x y => ⟨fun h => Nat.lt_of_mul_lt_mul_right h, fun h => Nat.mul_lt_mul_of_pos_right h hk⟩
  have eq : ∀ x y : Nat, x * k = y * k ↔ x = y := fun x y => ⟨fun h => Nat.eq_of_mul_eq_mul_right hk h, fun h => by rw [h]⟩
  unfold Near
  rw [e1, e1, e2, lt, lt, eq, eq]
/-- from a rounding at 2^drop -/
theorem near_of {n d A B E drop m : Nat} (hE : E + A = drop + B + 1074) (h1 : m ≤ 2 ^ 53) (h2 : E = 0 ∨ 2 ^ 52 ≤ m)
    (hs : E = 0 ∨ 2 ^ 52 * 2 ^ drop * (d * 2 ^ B) ≤ n * 2 ^ A) (hd : 0 < d)
    (hl : m = 0 ∨ (2 * m - 1) * 2 ^ drop * (d * 2 ^ B) < 2 * (n * 2 ^ A) ∨ ((2 * m - 1) * 2 ^ drop * (d * 2 ^ B) = 2 * (n * 2 ^ A) ∧ m % 2 = 0))
    (hu : 2 * (n * 2 ^ A) < (2 * m + 1) * 2 ^ drop * (d * 2 ^ B) ∨ ((2 * m + 1) * 2 ^ drop * (d * 2 ^ B) = 2 * (n * 2 ^ A) ∧ m % 2 = 0)) :
    Near n d (E * 2 ^ 52 + m) := by
  have hA : 0 < 2 ^ A := Nat.pow_pos (by omega)
  have hEp : 0 < 2 ^ E := Nat.pow_pos (by omega)
  have e0 : 2 ^ E * 2 ^ A = 2 ^ drop * 2 ^ B * U := by rw [← Nat.pow_add, hE, U_add, Nat.pow_add]
  have e1 : ∀ x : Nat, x * 2 ^ drop * (d * 2 ^ B) * U = x * 2 ^ E * d * 2 ^ A := fun x => ac1 _ _ _ _ _ _ _ e0
  have e2 : 2 * (n * 2 ^ A) * U = n * (2 * U) * 2 ^ A := ac2 _ _ _
  have hp : 0 < U := U_pos
  have key : ∀ x : Nat, (2 * (n * 2 ^ A) < x * 2 ^ drop * (d * 2 ^ B) ↔ n * (2 * U) < x * 2 ^ E * d) ∧ (x * 2 ^ drop * (d * 2 ^ B) = 2 * (n * 2 ^ A) ↔ x * 2 ^ E * d = n * (2 * U)) ∧ (x * 2 ^ drop * (d * 2 ^ B) < 2 * (n * 2 ^ A) ↔ x * 2 ^ E * d < n * (2 * U)) := by
    intro x
    have l1 : ∀ y z : Nat, y * U < z * U ↔ y < z := fun y z => ⟨fun h => Nat.lt_of_mul_lt_mul_right h, fun h => Nat.mul_lt_mul_of_pos_right h hp⟩
    have l2 : ∀ y z : Nat, y * 2 ^ A < z * 2 ^ A ↔ y < z := fun y z => ⟨fun h => Nat.lt_of_mul_lt_mul_right h, fun h => Nat.mul_lt_mul_of_pos_right h hA⟩
    refine ⟨?_, ?_, ?_⟩
    · rw [← l1, e1, e2, l2]
    · constructor
      · intro h
        apply Nat.eq_of_mul_eq_mul_right hA
        rw [← e1, ← e2, h]
      · intro h
        apply Nat.eq_of_mul_eq_mul_right hp
        rw [e1, e2, h]
    · rw [← l1, e1, e2, l2]
  have hV : V (E * 2 ^ 52 + m) = m * 2 ^ E := V_of E m h1 h2
  have par : (E * 2 ^ 52 + m) % 2 = m % 2 := by omega
  have hV1 : (m + 1) * 2 ^ E ≤ V (E * 2 ^ 52 + m + 1) := by
    by_cases h3 : m < 2 ^ 53
    · rw [Nat.add_assoc, V_of E (m + 1) (by omega) (by omega)]; exact Nat.le_refl _
    · have h4 : m = 2 ^ 53 := by omega
      subst h4
      have : E * 2 ^ 52 + 2 ^ 53 + 1 = (E + 1) * 2 ^ 52 + (2 ^ 52 + 1) := by omega
      rw [this, V_of (E + 1) (2 ^ 52 + 1) (by omega) (by omega), show 2 ^ (E + 1) = 2 * 2 ^ E from by rw [Nat.pow_succ, Nat.mul_comm], ← Nat.mul_assoc]
      exact Nat.mul_le_mul_right _ (by omega)
  have hM : (2 * m + 1) * 2 ^ E ≤ M (E * 2 ^ 52 + m) := by
    unfold M
    rw [hV, show 2 * m + 1 = m + (m + 1) by omega, Nat.add_mul]
    omega
  constructor
  · by_cases hs0 : E * 2 ^ 52 + m = 0
    · exact .inl hs0
    · right
      rw [par]
      by_cases hlow : E = 0 ∨ 2 ^ 52 < m
      · have hm0 : m ≠ 0 := by omega
        have hV0 : V (E * 2 ^ 52 + m - 1) = (m - 1) * 2 ^ E := by
          rw [show E * 2 ^ 52 + m - 1 = E * 2 ^ 52 + (m - 1) by omega]
          exact V_of E (m - 1) (by omega) (by omega)
        have hMe : M (E * 2 ^ 52 + m - 1) = (2 * m - 1) * 2 ^ E := by
          unfold M
          rw [hV0, show E * 2 ^ 52 + m - 1 + 1 = E * 2 ^ 52 + m by omega, hV, ← Nat.add_mul]
          rw [show m - 1 + m = 2 * m - 1 by omega]
        rw [hMe]
        rcases hl with h | h | h
        · omega
        · left; exact (key _).2.2.1 h
        · right; exact ⟨(key _).2.1.1 h.1, h.2⟩
      · -- the lead bit alone
        left
        have hE0 : E ≠ 0 := by omega
        have hm : m = 2 ^ 52 := by omega
        subst hm
        have hle : 2 ^ 52 * 2 ^ E * d * 2 ≤ n * (2 * U) := by
          have h9 : 2 ^ 52 * 2 ^ drop * (d * 2 ^ B) ≤ n * 2 ^ A := by
            rcases hs with h | h
            · omega
            · exact h
          have h10 := Nat.mul_le_mul_right U h9
          rw [e1] at h10
          have h11 : n * 2 ^ A * U = n * U * 2 ^ A := ac3 _ _ _
          rw [h11] at h10
          have h12 := Nat.le_of_mul_le_mul_right h10 hA
          rw [Nat.mul_comm 2 U, ← Nat.mul_assoc]
          exact Nat.mul_le_mul_right 2 h12
        have hlt : M (E * 2 ^ 52 + 2 ^ 52 - 1) < 2 ^ 52 * 2 ^ E * 2 := by
          unfold M
          rw [show E * 2 ^ 52 + 2 ^ 52 - 1 + 1 = E * 2 ^ 52 + 2 ^ 52 by omega, hV]
          have := V_smono (show E * 2 ^ 52 + 2 ^ 52 - 1 < E * 2 ^ 52 + 2 ^ 52 by omega)
          rw [hV] at this
          omega
        have := Nat.mul_lt_mul_of_pos_right hlt hd
        have h13 : 2 ^ 52 * 2 ^ E * 2 * d = 2 ^ 52 * 2 ^ E * d * 2 := ac3 _ _ _
        omega
  · rw [par]
    rcases hu with h | h
    · left
      exact Nat.lt_of_lt_of_le ((key _).1.1 h) (Nat.mul_le_mul_right d hM)
    · have h9 := (key _).2.1.1 h.1
      have h10 := Nat.mul_le_mul_right d hM
      rcases Nat.lt_or_eq_of_le h10 with h11 | h11
      · left; omega
      · right; exact ⟨by omega, h.2⟩
/-- a mark for the rest, held against an even number -/
theorem mark {a b q' T : Nat} (hb : 0 < b) (hT : T % 2 = 0) (hq : q' = if a % b = 0 then a / b else a / b / 2 * 2 + 1) :
    (q' < T → a < T * b) ∧ (q' = T → a = T * b) ∧ (T < q' → T * b < a) := by
  have ha : a = a / b * b + a % b := by have := Nat.div_add_mod a b; rw [Nat.mul_comm] at this; omega
  have hr : a % b < b := Nat.mod_lt _ hb
  generalize a / b = q at *
  generalize a % b = r at *
  refine ⟨fun h => ?_, fun h => ?_, fun h => ?_⟩
  · have h1 : q + 1 ≤ T := by
      split at hq <;> omega
    have := Nat.mul_le_mul_right b h1
    rw [Nat.add_mul] at this
    omega
  · split at hq
    · rw [ha, ← h, hq]; omega
    · omega
  · split at hq
    · have h1 : T + 1 ≤ q := by omega
      have := Nat.mul_le_mul_right b h1
      rw [Nat.add_mul] at this
      omega
    · have h1 : T ≤ q := by omega
      have := Nat.mul_le_mul_right b h1
      omega
/-- rounded to the nearest, a half to the even one -/
def rnd (n drop : Nat) : Nat := n / 2 ^ drop + if 2 ^ (drop - 1) < n % 2 ^ drop ∨ (n % 2 ^ drop = 2 ^ (drop - 1) ∧ n / 2 ^ drop % 2 = 1) then 1 else 0
theorem rnd_spec (n k : Nat) : (rnd n (k + 1) = 0 ∨ (2 * rnd n (k + 1) - 1) * 2 ^ k < n ∨ ((2 * rnd n (k + 1) - 1) * 2 ^ k = n ∧ rnd n (k + 1) % 2 = 0)) ∧
    (n < (2 * rnd n (k + 1) + 1) * 2 ^ k ∨ ((2 * rnd n (k + 1) + 1) * 2 ^ k = n ∧ rnd n (k + 1) % 2 = 0)) := by
  unfold rnd
  have hp : 0 < 2 ^ k := Nat.pow_pos (by omega)
  rw [show k + 1 - 1 = k by omega, Nat.pow_succ]
  have hn : n = n / (2 ^ k * 2) * (2 ^ k * 2) + n % (2 ^ k * 2) := by have := Nat.div_add_mod n (2 ^ k * 2); rw [Nat.mul_comm] at this; omega
  have hr : n % (2 ^ k * 2) < 2 ^ k * 2 := Nat.mod_lt _ (by omega)
  generalize n / (2 ^ k * 2) = w at *
  generalize n % (2 ^ k * 2) = r at *
  generalize 2 ^ k = H at *
  have ew : w * (H * 2) = 2 * (w * H) := by ac_rfl
  split
  · rename_i h
    have e1 : (2 * (w + 1) - 1) * H = 2 * (w * H) + H := by
      rw [show 2 * (w + 1) - 1 = 2 * w + 1 by omega, Nat.add_mul, Nat.mul_assoc]; omega
    have e2 : (2 * (w + 1) + 1) * H = 2 * (w * H) + 3 * H := by
      rw [show 2 * (w + 1) + 1 = 2 * w + 3 by omega, Nat.add_mul, Nat.mul_assoc]
    rw [e1, e2]
    rcases h with h | ⟨h, h'⟩
    · exact ⟨.inr (.inl (by omega)), .inl (by omega)⟩
    · exact ⟨.inr (.inr ⟨by omega, by omega⟩), .inl (by omega)⟩
  · rename_i h
    have e2 : (2 * (w + 0) + 1) * H = 2 * (w * H) + H := by
      rw [show 2 * (w + 0) + 1 = 2 * w + 1 by omega, Nat.add_mul, Nat.mul_assoc]; omega
    constructor
    · by_cases hw : w = 0
      · left; omega
      · right; left
        have e1 : (2 * (w + 0) - 1) * H + H = 2 * (w * H) := by
          rw [← Nat.succ_mul, show (2 * (w + 0) - 1).succ = 2 * w by omega, Nat.mul_assoc]
        omega
    · rw [e2]
      by_cases h1 : r < H
      · left; omega
      · right
        have : r = H := by omega
        exact ⟨by omega, by omega⟩
theorem rnd_le (n drop : Nat) : rnd n drop ≤ n / 2 ^ drop + 1 := by unfold rnd; split <;> omega
theorem le_rnd (n drop : Nat) : n / 2 ^ drop ≤ rnd n drop := by unfold rnd; split <;> omega
/-- the program's way: a quotient with a mark, rounded -/
theorem near_mark {n d A B E k q' : Nat} (hd : 0 < d) (hE : E + A = k + 2 + B + 1074)
    (hq : q' = if n * 2 ^ A % (d * 2 ^ B) = 0 then n * 2 ^ A / (d * 2 ^ B) else n * 2 ^ A / (d * 2 ^ B) / 2 * 2 + 1)
    (h1 : q' < 2 ^ (k + 2 + 53)) (h2 : E = 0 ∨ 2 ^ (k + 2 + 52) ≤ q') : Near n d (E * 2 ^ 52 + rnd q' (k + 2)) := by
  have hb : 0 < d * 2 ^ B := Nat.mul_pos hd (Nat.pow_pos (by omega))
  have hk : 0 < 2 ^ (k + 2) := Nat.pow_pos (by omega)
  have hm1 : q' / 2 ^ (k + 2) < 2 ^ 53 := by
    rw [Nat.div_lt_iff_lt_mul hk, ← Nat.pow_add]
    rw [show 53 + (k + 2) = k + 2 + 53 by omega]; exact h1
  have hm := rnd_le q' (k + 2)
  have hm' := le_rnd q' (k + 2)
  have hsp := rnd_spec q' (k + 1)
  have pe : 2 ^ (k + 1 + 1) = 2 * 2 ^ (k + 1) := by rw [Nat.pow_succ, Nat.mul_comm]
  have pe1 : 2 ^ (k + 1) = 2 * 2 ^ k := by rw [Nat.pow_succ, Nat.mul_comm]
  have ev : ∀ x : Nat, x * 2 ^ (k + 1) % 2 = 0 := fun x => by rw [pe1, Nat.mul_left_comm]; omega
  have mk : ∀ x : Nat, x * 2 ^ (k + 2) * (d * 2 ^ B) = 2 * (x * 2 ^ (k + 1) * (d * 2 ^ B)) := fun x => by rw [show k + 2 = k + 1 + 1 from rfl, pe]; ac_rfl
  refine near_of hE (by omega) ?_ ?_ hd ?_ ?_
  · rcases h2 with h | h
    · exact .inl h
    · right
      have : 2 ^ 52 ≤ q' / 2 ^ (k + 2) := by
        rw [Nat.le_div_iff_mul_le hk, ← Nat.pow_add, show 52 + (k + 2) = k + 2 + 52 by omega]; exact h
      omega
  · rcases h2 with h | h
    · exact .inl h
    · right
      have hT := mark (a := n * 2 ^ A) (b := d * 2 ^ B) (q' := q') (T := 2 ^ 52 * 2 ^ (k + 2)) hb (by rw [show k + 2 = k + 1 + 1 from rfl, pe, Nat.mul_left_comm]; omega) hq
      rw [← Nat.pow_add, show 52 + (k + 2) = k + 2 + 52 by omega] at hT ⊢
      rcases Nat.lt_or_eq_of_le h with h9 | h9
      · exact Nat.le_of_lt (hT.2.2 h9)
      · exact Nat.le_of_eq (hT.2.1 h9.symm).symm
  · rcases hsp.1 with h | h | h
    · exact .inl h
    · right; left
      rw [mk]
      have := (mark hb (ev (2 * rnd q' (k + 2) - 1)) hq).2.2 h
      omega
    · right; right
      rw [mk]
      have := (mark hb (ev (2 * rnd q' (k + 2) - 1)) hq).2.1 h.1.symm
      exact ⟨by omega, h.2⟩
  · rcases hsp.2 with h | h
    · left
      rw [mk]
      have := (mark hb (ev (2 * rnd q' (k + 2) + 1)) hq).1 h
      omega
    · right
      rw [mk]
      have := (mark hb (ev (2 * rnd q' (k + 2) + 1)) hq).2.1 h.1.symm
      exact ⟨by omega, h.2⟩
end Go.Proofs.YtmfnjmgdindlaaaDoor.Rd
/-
  The program's roundings: rounded, roundedSize.
-/
namespace Go.Proofs.YtmfnjmgdindlaaaDoor
open Flo Go.RowKit
theorem and_mod (n h d : Nat) (hn : n < 18446744073709551616) (hd : d < 63) (hh : h = 2 ^ d) : bits .and .u64 (n : Int) (2 * (h : Int) - 1) = ((n % 2 ^ (d + 1) : Nat) : Int) := by
  have hp : 0 < 2 ^ d := Nat.pow_pos (by decide)
  have hp2 : 2 ^ d ≤ 2 ^ 62 := Nat.pow_le_pow_right (by decide) (by omega)
  have e : 2 * (h : Int) - 1 = ((2 ^ (d + 1) - 1 : Nat) : Int) := by
    rw [hh, Nat.pow_succ]; omega
  rw [e, bits_and_u64_nat _ _ hn (by rw [Nat.pow_succ]; omega), Nat.and_two_pow_sub_one_eq_mod]
set_option maxRecDepth 100000 in
set_option maxHeartbeats 400000 in
theorem rounded_c (n d : Nat) (w : World) (hn : n < 18446744073709551616) (hd : d < 63) :
    Calls Tryd.prog 80 #[.int .u64 n, .int .i64 ((d : Int) + 1)] w fun e w' => e = .returned (.int .u64 (Rd.rnd n (d + 1) : Nat)) ∧ w = w' := by
  obtain ⟨h, hh⟩ : ∃ h : Nat, h = 2 ^ d := ⟨_, rfl⟩
  have hp2 : 2 ^ d ≤ 2 ^ 62 := Nat.pow_le_pow_right (by decide) (by omega)
  have hh63 : h ≤ 4611686018427387904 := by rw [hh]; exact hp2
  have hh0 : 0 < h := by rw [hh]; exact Nat.pow_pos (by decide)
  have f1 : IntKind.u64.wrap (2 ^ d) = (h : Int) := by
    rw [hh, show (2 : Int) ^ d = ((2 ^ d : Nat) : Int) by simp]
    exact wrapId _ (by omega)
  have f3 := and_mod n h d hn hd hh
  have f4 : (n : Int) / 2 ^ (d + 1) = ((n / 2 ^ (d + 1) : Nat) : Int) := by simp
  have hrd : Hid (Rd.rnd n (d + 1) = n / 2 ^ (d + 1) + if h < n % 2 ^ (d + 1) ∨ (n % 2 ^ (d + 1) = h ∧ n / 2 ^ (d + 1) % 2 = 1) then 1 else 0) := by
    show _ = _
    unfold Rd.rnd
    rw [Nat.add_sub_cancel, ← hh]
  have hq2 : n / 2 ^ (d + 1) < 9223372036854775808 := by
    rw [Nat.div_lt_iff_lt_mul (Nat.pow_pos (by decide)), Nat.pow_succ]
    have := Nat.pow_pos (n := d) (show 0 < 2 by decide)
    omega
  generalize n % 2 ^ (d + 1) = r at f3 hrd
  generalize n / 2 ^ (d + 1) = q at f4 hrd hq2
  have hrH : Hid (h = 2 ^ d) := hh
  clear hh hp2
  by_cases c1 : h < r
  · have c1' : (h : Int) < (r : Int) := by omega
    go_enter Tryd.func80, Tryd.ntmps80
    go_wp2
    go_ret
    refine ⟨ret_int ?_, rfl⟩
    rw [hrd.out, if_pos (.inl c1)]
    omega
  · have c1' : decide ((h : Int) < (r : Int)) = false := decide_eq_false (by omega)
    by_cases c2 : r = h
    · have c2' : ((r : Int) == (h : Int)) = true := beq_iff_eq.2 (by omega)
      have c2H : Hid (r = h) := c2
      clear c2
      by_cases c3 : q % 2 = 1
      · have c3' : ((q : Int) % 2 == 1) = true := beq_iff_eq.2 (by omega)
        go_enter Tryd.func80, Tryd.ntmps80
        go_wp2
        go_ret
        refine ⟨ret_int ?_, rfl⟩
        rw [hrd.out, if_pos (.inr ⟨c2H.out, c3⟩)]
        omega
      · have c3' : ((q : Int) % 2 == 1) = false := beq_eq_false_iff_ne.2 (by omega)
        go_enter Tryd.func80, Tryd.ntmps80
        go_wp2
        go_ret
        refine ⟨ret_int ?_, rfl⟩
        rw [hrd.out, if_neg (by have := c2H.out; rintro (h9 | h9) <;> omega)]
        omega
    · have c2' : ((r : Int) == (h : Int)) = false := beq_eq_false_iff_ne.2 (by omega)
      go_enter Tryd.func80, Tryd.ntmps80
      go_wp2
      go_ret
      refine ⟨ret_int ?_, rfl⟩
      rw [hrd.out, if_neg (by rintro (h9 | h9) <;> omega)]
      omega
set_option maxRecDepth 100000 in
set_option maxHeartbeats 400000 in
theorem roundedSize_c (q l drop E : Nat) (p : Int) (w : World) (hq : Hid (q < 2 ^ 56)) (hl : Hid (l = bitLen q)) (hl1 : 55 ≤ l) (hl2 : l ≤ 56) (hp1 : -1137 ≤ p) (hp2 : p ≤ 1200) (hdrop : (drop : Int) = max ((l : Int) - 53) (-1074 - p)) (hE : (E : Int) = p + drop + 1074) :
    Calls Tryd.prog 60 #[.int .u64 q, .int .i64 p] w fun e w' => e = .returned (.int .u64 ((E * 2 ^ 52 + Rd.rnd q drop : Nat) : Int)) ∧ w = w' := by
  have hq0 : Hid (q < 18446744073709551616) := Nat.lt_of_lt_of_le hq.out (by decide)
  have hlen : Hid (Calls Tryd.prog 40 #[.int .u64 q] w fun e w' => e = .returned (.int .i64 (l : Nat)) ∧ w = w') := by
    have := len64_c (q : Int) w (by omega) (by have := hq0.out; omega)
    rw [Int.toNat_natCast, ← hl.out] at this
    exact this
  have hm : Rd.rnd q drop ≤ 2 ^ 54 := by
    refine Nat.le_trans (Rd.rnd_le _ _) ?_
    have h1 : q / 2 ^ drop ≤ q / 2 ^ 2 := Nat.div_le_div_left (Nat.pow_le_pow_right (by decide) (by omega)) (by decide)
    have := hq.out
    omega
  obtain ⟨d, hd⟩ : ∃ d : Nat, drop = d + 1 := ⟨drop - 1, by omega⟩
  subst hd
  have hrd : Hid (Calls Tryd.prog 80 #[.int .u64 q, .int .i64 ((d : Int) + 1)] w fun e w' => e = .returned (.int .u64 (Rd.rnd q (d + 1) : Nat)) ∧ w = w') := rounded_c q d w hq0.out (by omega)
  generalize Rd.rnd q (d + 1) = m at hm hrd
  have hEl : E ≤ 2400 := by omega
  have hEI : p + ((d : Int) + 1) + 1074 = (E : Int) := by omega
  by_cases hc : (l : Int) - 53 < -1074 - p
  · have e1 : -1074 - p = (d : Int) + 1 := by omega
    go_enter Tryd.func60, Tryd.ntmps60
    go_wp2_with fail
    refine hlen.out.mono ?_
    rintro e w' ⟨rfl, rfl⟩
    go_wp2_with fail
    refine hrd.out.mono ?_
    rintro e w' ⟨rfl, rfl⟩
    go_wp2
    go_ret
    refine ⟨ret_int ?_, rfl⟩
    rw [show (2 : Nat) ^ 52 = 4503599627370496 from rfl] at *
    have hmm : m ≤ 18014398509481984 := hm
    first | omega | (simp only [IntKind.wrap_u64]; omega)
  · have e1 : (l : Int) - 53 = (d : Int) + 1 := by omega
    have hc' : ¬ ((d : Int) + 1 < -1074 - p) := by omega
    go_enter Tryd.func60, Tryd.ntmps60
    go_wp2_with fail
    refine hlen.out.mono ?_
    rintro e w' ⟨rfl, rfl⟩
    go_wp2_with fail
    refine hrd.out.mono ?_
    rintro e w' ⟨rfl, rfl⟩
    go_wp2
    go_ret
    refine ⟨ret_int ?_, rfl⟩
    rw [show (2 : Nat) ^ 52 = 4503599627370496 from rfl] at *
    have hmm : m ≤ 18014398509481984 := hm
    first | omega | (simp only [IntKind.wrap_u64]; omega)
end Go.Proofs.YtmfnjmgdindlaaaDoor
/-
  The program's nearestSize: the nearest float's size.
-/
namespace Go.Proofs.YtmfnjmgdindlaaaDoor
open Flo Go.RowKit
theorem ns_quot {n d A B : Nat} (hn : 0 < n) (hd : 0 < d) (h : bitLen n + A = bitLen d + B + 55) : 2 ^ 54 ≤ n * 2 ^ A / (d * 2 ^ B) ∧ n * 2 ^ A / (d * 2 ^ B) < 2 ^ 56 := by
  have pA : 0 < 2 ^ A := Nat.pow_pos (by decide)
  have pB : 0 < 2 ^ B := Nat.pow_pos (by decide)
  have hb : 0 < d * 2 ^ B := Nat.mul_pos hd pB
  have n1 := bitLen_lo hn
  have n2 := bitLen_hi n
  have d1 := bitLen_lo hd
  have d2 := bitLen_hi d
  have n3 := bitLen_pos hn
  have d3 := bitLen_pos hd
  constructor
  · rw [Nat.le_div_iff_mul_le hb]
    calc 2 ^ 54 * (d * 2 ^ B) ≤ 2 ^ 54 * (2 ^ bitLen d * 2 ^ B) := Nat.mul_le_mul_left _ (Nat.mul_le_mul_right _ (Nat.le_of_lt d2))
      _ = 2 ^ (bitLen n - 1) * 2 ^ A := by rw [← Nat.pow_add, ← Nat.pow_add, ← Nat.pow_add]; congr 1; omega
      _ ≤ n * 2 ^ A := Nat.mul_le_mul_right _ n1
  · rw [Nat.div_lt_iff_lt_mul hb]
    calc n * 2 ^ A < 2 ^ bitLen n * 2 ^ A := Nat.mul_lt_mul_of_pos_right n2 pA
      _ = 2 ^ 56 * (2 ^ (bitLen d - 1) * 2 ^ B) := by rw [← Nat.pow_add, ← Nat.pow_add, ← Nat.pow_add]; congr 1; omega
      _ ≤ 2 ^ 56 * (d * 2 ^ B) := Nat.mul_le_mul_left _ (Nat.mul_le_mul_right _ d1)
theorem or_one' (q : Nat) (h : q < 18446744073709551616) : bits .or .u64 (q : Int) 1 = ((q / 2 * 2 + 1 : Nat) : Int) := by
  rw [show (1 : Int) = ((1 : Nat) : Int) from rfl, bits_or_u64_nat _ _ h (by omega)]
  congr 1
  have h1 := Nat.two_pow_add_eq_or_of_lt (i := 1) (b := 1) (by omega) (q / 2)
  rw [Nat.pow_one] at h1
  rw [Nat.mul_comm (q / 2)]
  rcases Nat.mod_two_eq_zero_or_one q with h2 | h2
  · have e : 2 * (q / 2) = q := by omega
    rw [e] at h1 ⊢
    exact h1.symm
  · have e : q = 2 * (q / 2) + 1 := by omega
    rw [h1] at e
    rw [e, Nat.or_assoc, Nat.or_self, ← e, h1]
    exact e
/-- what nearestSize rounds, and to what -/
theorem ns_fin {n d A B q' : Nat} {p : Int} (hn : 0 < n) (hd : 0 < d) (hp : p = (bitLen n : Int) - bitLen d - 55) (hA : (A : Int) = max (-p) 0) (hB : (B : Int) = max p 0)
    (hq : q' = if n * 2 ^ A % (d * 2 ^ B) = 0 then n * 2 ^ A / (d * 2 ^ B) else n * 2 ^ A / (d * 2 ^ B) / 2 * 2 + 1) (h1 : -1137 ≤ p) :
    ∃ l drop E : Nat, l = bitLen q' ∧ q' < 2 ^ 56 ∧ 55 ≤ l ∧ l ≤ 56 ∧ (drop : Int) = max ((l : Int) - 53) (-1074 - p) ∧ (E : Int) = p + drop + 1074 ∧ Rd.Near n d (E * 2 ^ 52 + Rd.rnd q' drop) := by
  obtain ⟨q1, q2⟩ := ns_quot hn hd (show bitLen n + A = bitLen d + B + 55 by omega)
  have r1 : 2 ^ 54 ≤ q' := by rw [hq]; split <;> omega
  have r2 : q' < 2 ^ 56 := by rw [hq]; split <;> omega
  have l2 : bitLen q' ≤ 56 := bitLen_lt r2
  have l1 : 55 ≤ bitLen q' := by
    apply Nat.le_of_not_lt
    intro h
    have h3 := bitLen_hi q'
    have h4 : 2 ^ bitLen q' ≤ 2 ^ 54 := Nat.pow_le_pow_right (by decide) (by omega)
    omega
  obtain ⟨drop, hdr⟩ : ∃ drop : Nat, (drop : Int) = max ((bitLen q' : Int) - 53) (-1074 - p) := ⟨(max ((bitLen q' : Int) - 53) (-1074 - p)).toNat, by omega⟩
  obtain ⟨E, hE⟩ : ∃ E : Nat, (E : Int) = p + drop + 1074 := ⟨(p + drop + 1074).toNat, by omega⟩
  refine ⟨bitLen q', drop, E, rfl, r2, l1, l2, hdr, hE, ?_⟩
  obtain ⟨k, rfl⟩ : ∃ k, drop = k + 2 := ⟨drop - 2, by omega⟩
  refine Rd.near_mark (A := A) (B := B) hd (by omega) hq ?_ ?_
  · exact Nat.lt_of_lt_of_le (bitLen_hi q') (Nat.pow_le_pow_right (by decide) (by omega))
  · by_cases h0 : E = 0
    · exact .inl h0
    · right
      refine Nat.le_trans ?_ (bitLen_lo (show 0 < q' by omega))
      exact Nat.pow_le_pow_right (by decide) (by omega)
theorem nw_zero_iff (n : Nat) : Wd.nw W64 n = 0 ↔ n = 0 := ⟨nl_nil, fun h => by rw [h]; exact Wd.nw_zero _⟩
set_option maxRecDepth 100000 in
set_option maxHeartbeats 400000 in
theorem nearestSize_a (B C n d : Nat) (u v : Value) (w : World) (hu : Nl w B u n) (hv : Nl w C v d) (hn : Hid (0 < n)) (hd : Hid (0 < d)) (hn1 : Wd.nw W64 n ≤ 2000) (hd1 : Wd.nw W64 d ≤ 2000) (h1 : bitLen d ≤ bitLen n + 1082) (h2 : bitLen n ≤ bitLen d + 1255) (hcase : bitLen n < bitLen d + 55) :
    Calls Tryd.prog 38 #[u, v] w fun e w' => ∃ s : Nat, e = .returned (.int .u64 (s : Int)) ∧ Rd.Near n d s ∧ Below w.heap.size w w' := by
  have hlN := bitLen_nw n
  have hlD := bitLen_nw d
  have hlu : Hid (Calls Tryd.prog 57 #[u] w fun e w' => e = .returned (.int .i64 (bitLen n : Nat)) ∧ w = w') := length_c B n u w hu (by omega)
  have hlv : Hid (Calls Tryd.prog 57 #[v] w fun e w' => e = .returned (.int .i64 (bitLen d : Nat)) ∧ w = w') := length_c C d v w hv (by omega)
  have hB1 : bitLen n ≤ 128000 := by omega
  have hB2 : bitLen d ≤ 128000 := by omega
  obtain ⟨p, hp⟩ : ∃ p : Int, (bitLen n : Int) - (bitLen d : Int) - 55 = p := ⟨_, rfl⟩
  obtain ⟨a, ha⟩ : ∃ a : Nat, -p = (a : Int) := ⟨(-p).toNat, by omega⟩
  have hal : a ≤ 1137 := by omega
  have hp0 : ¬ (0 < p) := by omega
  have ha0 : 0 < a := by omega
  have hq1 : Hid (n * 2 ^ a / (d * 2 ^ 0) < 18446744073709551616) := Nat.lt_trans (ns_quot hn.out hd.out (by omega)).2 (by decide)
  have hkA : Hid (Wd.nw W64 (n * 2 ^ a) ≤ 15000) := ov_nw (k := 15000) (by omega)
  have hkB : Hid (Wd.nw W64 (d * 2 ^ 0) ≤ 15000) := ov_nw (k := 15000) (by omega)
  have hfin : Hid (∀ q' : Nat, q' = (if n * 2 ^ a % (d * 2 ^ 0) = 0 then n * 2 ^ a / (d * 2 ^ 0) else n * 2 ^ a / (d * 2 ^ 0) / 2 * 2 + 1) → ∃ l drop E : Nat, l = bitLen q' ∧ q' < 2 ^ 56 ∧ 55 ≤ l ∧ l ≤ 56 ∧ (drop : Int) = max ((l : Int) - 53) (-1074 - p) ∧ (E : Int) = p + drop + 1074 ∧ Rd.Near n d (E * 2 ^ 52 + Rd.rnd q' drop)) := fun q' hq => ns_fin hn.out hd.out hp.symm (by omega) (by omega) hq (by omega)
  clear hlN hlD h1 h2 hcase
  generalize bitLen n = lN at *
  generalize bitLen d = lD at *
  go_enter Tryd.func38, Tryd.ntmps38
  go_wp2_with fail
  refine hlu.out.mono ?_
  rintro e w' ⟨rfl, rfl⟩
  go_wp2_with fail
  refine hlv.out.mono ?_
  rintro e w' ⟨rfl, rfl⟩
  clear hlu hlv
  go_wp2_with fail
  refine (doubled_c B n a u w hu (by omega) (by omega)).mono ?_
  rintro e w1 ⟨u1, rfl, hu1, hb1⟩
  have hv1 : Hid (Nl w1 C v d) := Row.under hv hb1
  go_wp2_with fail
  refine (doubled_z C d  v w1 hv1.out (by omega)).mono ?_
  rintro e w2 ⟨v2, rfl, hv2, hb2⟩
  have hu2 : Hid (Nl w2 w.heap.size u1 (n * 2 ^ a)) := Row.under hu1 hb2
  have hvH : Hid (Nl w2 w1.heap.size v2 (d * 2 ^ 0)) := hv2
  have hbw2 : Hid (Below w.heap.size w w2) := hb1.trans (hb2.mono hb1.size)
  clear hv1 hv2 hu1 hb1 hb2
  go_wp2_with fail
  refine (over_c w.heap.size w1.heap.size (n * 2 ^ a) (d * 2 ^ 0) 15000 u1 v2 w2 hu2.out hvH.out (Nat.mul_pos hd.out (Nat.pow_pos (by decide))) hq1.out (by decide) hkA.out hkB.out).mono ?_
  rintro e w3 ⟨r3, rfl, hr3, hb3⟩
  have hbw3 : Hid (Below w.heap.size w w3) := hbw2.out.trans (hb3.mono hbw2.out.size)
  obtain ⟨ao, cap, rfl⟩ := Row.slice hr3
  have hz := nw_zero_iff (n * 2 ^ a % (d * 2 ^ 0))
  have hfin2 := hfin.out _ rfl
  have hq1' := hq1.out
  clear hr3 hb3 hu2 hvH hbw2 hfin hq1 hkA hkB hu hv
  generalize n * 2 ^ a % (d * 2 ^ 0) = R at *
  generalize n * 2 ^ a / (d * 2 ^ 0) = q at *
  by_cases h0 : R = 0
  · have hz0 : Wd.nw W64 R = 0 := hz.2 h0
    rw [if_pos h0] at hfin2
    obtain ⟨l, drop, E, g1, g2, g3, g4, g5, g6, g7⟩ := hfin2
    have gN : Hid (Rd.Near n d (E * 2 ^ 52 + Rd.rnd q drop)) := g7
    have gR : Hid (Calls Tryd.prog 60 #[.int .u64 q, .int .i64 p] w3 fun e w' => e = .returned (.int .u64 ((E * 2 ^ 52 + Rd.rnd q drop : Nat) : Int)) ∧ w3 = w') := roundedSize_c q l drop E p w3 g2 g1 g3 g4 (by omega) (by omega) g5 g6
    clear g1 g2 g3 g4 g5 g6 g7 hz h0
    go_wp2_with fail
    refine gR.out.mono ?_
    rintro e w' ⟨rfl, rfl⟩
    go_wp2
    go_ret
    exact ⟨_, rfl, gN.out, hbw3.out⟩
  · have hz0 : 0 < Wd.nw W64 R := Nat.pos_of_ne_zero fun h => h0 (hz.1 h)
    rw [if_neg h0] at hfin2
    have hor := or_one' q hq1'
    obtain ⟨l, drop, E, g1, g2, g3, g4, g5, g6, g7⟩ := hfin2
    generalize q / 2 * 2 + 1 = q' at *
    have gN : Hid (Rd.Near n d (E * 2 ^ 52 + Rd.rnd q' drop)) := g7
    have gR : Hid (Calls Tryd.prog 60 #[.int .u64 q', .int .i64 p] w3 fun e w' => e = .returned (.int .u64 ((E * 2 ^ 52 + Rd.rnd q' drop : Nat) : Int)) ∧ w3 = w') := roundedSize_c q' l drop E p w3 g2 g1 g3 g4 (by omega) (by omega) g5 g6
    clear g1 g2 g3 g4 g5 g6 g7 hz h0
    go_wp2_with fail
    refine gR.out.mono ?_
    rintro e w' ⟨rfl, rfl⟩
    go_wp2
    go_ret
    exact ⟨_, rfl, gN.out, hbw3.out⟩
set_option maxRecDepth 100000 in
set_option maxHeartbeats 400000 in
theorem nearestSize_b (B C n d : Nat) (u v : Value) (w : World) (hu : Nl w B u n) (hv : Nl w C v d) (hn : Hid (0 < n)) (hd : Hid (0 < d)) (hn1 : Wd.nw W64 n ≤ 2000) (hd1 : Wd.nw W64 d ≤ 2000) (h1 : bitLen d ≤ bitLen n + 1082) (h2 : bitLen n ≤ bitLen d + 1255) (hcase : bitLen d + 55 < bitLen n) :
    Calls Tryd.prog 38 #[u, v] w fun e w' => ∃ s : Nat, e = .returned (.int .u64 (s : Int)) ∧ Rd.Near n d s ∧ Below w.heap.size w w' := by
  have hlN := bitLen_nw n
  have hlD := bitLen_nw d
  have hlu : Hid (Calls Tryd.prog 57 #[u] w fun e w' => e = .returned (.int .i64 (bitLen n : Nat)) ∧ w = w') := length_c B n u w hu (by omega)
  have hlv : Hid (Calls Tryd.prog 57 #[v] w fun e w' => e = .returned (.int .i64 (bitLen d : Nat)) ∧ w = w') := length_c C d v w hv (by omega)
  have hB1 : bitLen n ≤ 128000 := by omega
  have hB2 : bitLen d ≤ 128000 := by omega
  obtain ⟨b, hp⟩ : ∃ b : Nat, (bitLen n : Int) - (bitLen d : Int) - 55 = (b : Int) := ⟨((bitLen n : Int) - (bitLen d : Int) - 55).toNat, by omega⟩
  have hbl : b ≤ 1200 := by omega
  have hb0 : 0 < b := by omega
  have hq1 : Hid (n * 2 ^ 0 / (d * 2 ^ b) < 18446744073709551616) := Nat.lt_trans (ns_quot hn.out hd.out (by omega)).2 (by decide)
  have hkA : Hid (Wd.nw W64 (n * 2 ^ 0) ≤ 15000) := ov_nw (k := 15000) (by omega)
  have hkB : Hid (Wd.nw W64 (d * 2 ^ b) ≤ 15000) := ov_nw (k := 15000) (by omega)
  have hfin : Hid (∀ q' : Nat, q' = (if n * 2 ^ 0 % (d * 2 ^ b) = 0 then n * 2 ^ 0 / (d * 2 ^ b) else n * 2 ^ 0 / (d * 2 ^ b) / 2 * 2 + 1) → ∃ l drop E : Nat, l = bitLen q' ∧ q' < 2 ^ 56 ∧ 55 ≤ l ∧ l ≤ 56 ∧ (drop : Int) = max ((l : Int) - 53) (-1074 - (b : Int)) ∧ (E : Int) = (b : Int) + drop + 1074 ∧ Rd.Near n d (E * 2 ^ 52 + Rd.rnd q' drop)) := fun q' hq => ns_fin hn.out hd.out hp.symm (by omega) (by omega) hq (by omega)
  clear hlN hlD h1 h2 hcase
  generalize bitLen n = lN at *
  generalize bitLen d = lD at *
  go_enter Tryd.func38, Tryd.ntmps38
  go_wp2_with fail
  refine hlu.out.mono ?_
  rintro e w' ⟨rfl, rfl⟩
  go_wp2_with fail
  refine hlv.out.mono ?_
  rintro e w' ⟨rfl, rfl⟩
  clear hlu hlv
  go_wp2_with fail
  refine (doubled_z B n  u w hu (by omega)).mono ?_
  rintro e w1 ⟨u1, rfl, hu1, hb1⟩
  have hv1 : Hid (Nl w1 C v d) := Row.under hv hb1
  go_wp2_with fail
  refine (doubled_c C d b v w1 hv1.out (by omega) (by omega)).mono ?_
  rintro e w2 ⟨v2, rfl, hv2, hb2⟩
  have hu2 : Hid (Nl w2 w.heap.size u1 (n * 2 ^ 0)) := Row.under hu1 hb2
  have hvH : Hid (Nl w2 w1.heap.size v2 (d * 2 ^ b)) := hv2
  have hbw2 : Hid (Below w.heap.size w w2) := hb1.trans (hb2.mono hb1.size)
  clear hv1 hv2 hu1 hb1 hb2
  go_wp2_with fail
  refine (over_c w.heap.size w1.heap.size (n * 2 ^ 0) (d * 2 ^ b) 15000 u1 v2 w2 hu2.out hvH.out (Nat.mul_pos hd.out (Nat.pow_pos (by decide))) hq1.out (by decide) hkA.out hkB.out).mono ?_
  rintro e w3 ⟨r3, rfl, hr3, hb3⟩
  have hbw3 : Hid (Below w.heap.size w w3) := hbw2.out.trans (hb3.mono hbw2.out.size)
  obtain ⟨ao, cap, rfl⟩ := Row.slice hr3
  have hz := nw_zero_iff (n * 2 ^ 0 % (d * 2 ^ b))
  have hfin2 := hfin.out _ rfl
  have hq1' := hq1.out
  clear hr3 hb3 hu2 hvH hbw2 hfin hq1 hkA hkB hu hv
  generalize n * 2 ^ 0 % (d * 2 ^ b) = R at *
  generalize n * 2 ^ 0 / (d * 2 ^ b) = q at *
  by_cases h0 : R = 0
  · have hz0 : Wd.nw W64 R = 0 := hz.2 h0
    rw [if_pos h0] at hfin2
    obtain ⟨l, drop, E, g1, g2, g3, g4, g5, g6, g7⟩ := hfin2
    have gN : Hid (Rd.Near n d (E * 2 ^ 52 + Rd.rnd q drop)) := g7
    have gR : Hid (Calls Tryd.prog 60 #[.int .u64 q, .int .i64 (b : Int)] w3 fun e w' => e = .returned (.int .u64 ((E * 2 ^ 52 + Rd.rnd q drop : Nat) : Int)) ∧ w3 = w') := roundedSize_c q l drop E (b : Int) w3 g2 g1 g3 g4 (by omega) (by omega) g5 g6
    clear g1 g2 g3 g4 g5 g6 g7 hz h0
    go_wp2_with fail
    refine gR.out.mono ?_
    rintro e w' ⟨rfl, rfl⟩
    go_wp2
    go_ret
    exact ⟨_, rfl, gN.out, hbw3.out⟩
  · have hz0 : 0 < Wd.nw W64 R := Nat.pos_of_ne_zero fun h => h0 (hz.1 h)
    rw [if_neg h0] at hfin2
    have hor := or_one' q hq1'
    obtain ⟨l, drop, E, g1, g2, g3, g4, g5, g6, g7⟩ := hfin2
    generalize q / 2 * 2 + 1 = q' at *
    have gN : Hid (Rd.Near n d (E * 2 ^ 52 + Rd.rnd q' drop)) := g7
    have gR : Hid (Calls Tryd.prog 60 #[.int .u64 q', .int .i64 (b : Int)] w3 fun e w' => e = .returned (.int .u64 ((E * 2 ^ 52 + Rd.rnd q' drop : Nat) : Int)) ∧ w3 = w') := roundedSize_c q' l drop E (b : Int) w3 g2 g1 g3 g4 (by omega) (by omega) g5 g6
    clear g1 g2 g3 g4 g5 g6 g7 hz h0
    go_wp2_with fail
    refine gR.out.mono ?_
    rintro e w' ⟨rfl, rfl⟩
    go_wp2
    go_ret
    exact ⟨_, rfl, gN.out, hbw3.out⟩
set_option maxRecDepth 100000 in
set_option maxHeartbeats 400000 in
theorem nearestSize_z (B C n d : Nat) (u v : Value) (w : World) (hu : Nl w B u n) (hv : Nl w C v d) (hn : Hid (0 < n)) (hd : Hid (0 < d)) (hn1 : Wd.nw W64 n ≤ 2000) (hd1 : Wd.nw W64 d ≤ 2000) (hcase : bitLen n = bitLen d + 55) :
    Calls Tryd.prog 38 #[u, v] w fun e w' => ∃ s : Nat, e = .returned (.int .u64 (s : Int)) ∧ Rd.Near n d s ∧ Below w.heap.size w w' := by
  have hlN := bitLen_nw n
  have hlD := bitLen_nw d
  have hlu : Hid (Calls Tryd.prog 57 #[u] w fun e w' => e = .returned (.int .i64 (bitLen n : Nat)) ∧ w = w') := length_c B n u w hu (by omega)
  have hlv : Hid (Calls Tryd.prog 57 #[v] w fun e w' => e = .returned (.int .i64 (bitLen d : Nat)) ∧ w = w') := length_c C d v w hv (by omega)
  have hB1 : bitLen n ≤ 128000 := by omega
  have hB2 : bitLen d ≤ 128000 := by omega
  have hp : (bitLen n : Int) - (bitLen d : Int) - 55 = 0 := by omega
  have hq1 : Hid (n * 2 ^ 0 / (d * 2 ^ 0) < 18446744073709551616) := Nat.lt_trans (ns_quot hn.out hd.out (by omega)).2 (by decide)
  have hkA : Hid (Wd.nw W64 (n * 2 ^ 0) ≤ 15000) := ov_nw (k := 15000) (by omega)
  have hkB : Hid (Wd.nw W64 (d * 2 ^ 0) ≤ 15000) := ov_nw (k := 15000) (by omega)
  have hfin : Hid (∀ q' : Nat, q' = (if n * 2 ^ 0 % (d * 2 ^ 0) = 0 then n * 2 ^ 0 / (d * 2 ^ 0) else n * 2 ^ 0 / (d * 2 ^ 0) / 2 * 2 + 1) → ∃ l drop E : Nat, l = bitLen q' ∧ q' < 2 ^ 56 ∧ 55 ≤ l ∧ l ≤ 56 ∧ (drop : Int) = max ((l : Int) - 53) (-1074 - (0 : Int)) ∧ (E : Int) = (0 : Int) + drop + 1074 ∧ Rd.Near n d (E * 2 ^ 52 + Rd.rnd q' drop)) := fun q' hq => ns_fin hn.out hd.out hp.symm (by omega) (by omega) hq (by omega)
  clear hlN hlD hcase
  generalize bitLen n = lN at *
  generalize bitLen d = lD at *
  go_enter Tryd.func38, Tryd.ntmps38
  go_wp2_with fail
  refine hlu.out.mono ?_
  rintro e w' ⟨rfl, rfl⟩
  go_wp2_with fail
  refine hlv.out.mono ?_
  rintro e w' ⟨rfl, rfl⟩
  clear hlu hlv
  go_wp2_with fail
  refine (doubled_z B n  u w hu (by omega)).mono ?_
  rintro e w1 ⟨u1, rfl, hu1, hb1⟩
  have hv1 : Hid (Nl w1 C v d) := Row.under hv hb1
  go_wp2_with fail
  refine (doubled_z C d v w1 hv1.out (by omega)).mono ?_
  rintro e w2 ⟨v2, rfl, hv2, hb2⟩
  have hu2 : Hid (Nl w2 w.heap.size u1 (n * 2 ^ 0)) := Row.under hu1 hb2
  have hvH : Hid (Nl w2 w1.heap.size v2 (d * 2 ^ 0)) := hv2
  have hbw2 : Hid (Below w.heap.size w w2) := hb1.trans (hb2.mono hb1.size)
  clear hv1 hv2 hu1 hb1 hb2
  go_wp2_with fail
  refine (over_c w.heap.size w1.heap.size (n * 2 ^ 0) (d * 2 ^ 0) 15000 u1 v2 w2 hu2.out hvH.out (Nat.mul_pos hd.out (Nat.pow_pos (by decide))) hq1.out (by decide) hkA.out hkB.out).mono ?_
  rintro e w3 ⟨r3, rfl, hr3, hb3⟩
  have hbw3 : Hid (Below w.heap.size w w3) := hbw2.out.trans (hb3.mono hbw2.out.size)
  obtain ⟨ao, cap, rfl⟩ := Row.slice hr3
  have hz := nw_zero_iff (n * 2 ^ 0 % (d * 2 ^ 0))
  have hfin2 := hfin.out _ rfl
  have hq1' := hq1.out
  clear hr3 hb3 hu2 hvH hbw2 hfin hq1 hkA hkB hu hv
  generalize n * 2 ^ 0 % (d * 2 ^ 0) = R at *
  generalize n * 2 ^ 0 / (d * 2 ^ 0) = q at *
  by_cases h0 : R = 0
  · have hz0 : Wd.nw W64 R = 0 := hz.2 h0
    rw [if_pos h0] at hfin2
    obtain ⟨l, drop, E, g1, g2, g3, g4, g5, g6, g7⟩ := hfin2
    have gN : Hid (Rd.Near n d (E * 2 ^ 52 + Rd.rnd q drop)) := g7
    have gR : Hid (Calls Tryd.prog 60 #[.int .u64 q, .int .i64 0] w3 fun e w' => e = .returned (.int .u64 ((E * 2 ^ 52 + Rd.rnd q drop : Nat) : Int)) ∧ w3 = w') := roundedSize_c q l drop E (0 : Int) w3 g2 g1 g3 g4 (by omega) (by omega) g5 g6
    clear g1 g2 g3 g4 g5 g6 g7 hz h0
    go_wp2_with fail
    refine gR.out.mono ?_
    rintro e w' ⟨rfl, rfl⟩
    go_wp2
    go_ret
    exact ⟨_, rfl, gN.out, hbw3.out⟩
  · have hz0 : 0 < Wd.nw W64 R := Nat.pos_of_ne_zero fun h => h0 (hz.1 h)
    rw [if_neg h0] at hfin2
    have hor := or_one' q hq1'
    obtain ⟨l, drop, E, g1, g2, g3, g4, g5, g6, g7⟩ := hfin2
    generalize q / 2 * 2 + 1 = q' at *
    have gN : Hid (Rd.Near n d (E * 2 ^ 52 + Rd.rnd q' drop)) := g7
    have gR : Hid (Calls Tryd.prog 60 #[.int .u64 q', .int .i64 0] w3 fun e w' => e = .returned (.int .u64 ((E * 2 ^ 52 + Rd.rnd q' drop : Nat) : Int)) ∧ w3 = w') := roundedSize_c q' l drop E (0 : Int) w3 g2 g1 g3 g4 (by omega) (by omega) g5 g6
    clear g1 g2 g3 g4 g5 g6 g7 hz h0
    go_wp2_with fail
    refine gR.out.mono ?_
    rintro e w' ⟨rfl, rfl⟩
    go_wp2
    go_ret
    exact ⟨_, rfl, gN.out, hbw3.out⟩
theorem nearestSize_c (B C n d : Nat) (u v : Value) (w : World) (hu : Nl w B u n) (hv : Nl w C v d) (hn : 0 < n) (hd : 0 < d) (hn1 : Wd.nw W64 n ≤ 2000) (hd1 : Wd.nw W64 d ≤ 2000) (h1 : bitLen d ≤ bitLen n + 1082) (h2 : bitLen n ≤ bitLen d + 1255) :
    Calls Tryd.prog 38 #[u, v] w fun e w' => ∃ s : Nat, e = .returned (.int .u64 (s : Int)) ∧ Rd.Near n d s ∧ Below w.heap.size w w' := by
  by_cases h : bitLen n < bitLen d + 55
  · exact nearestSize_a B C n d u v w hu hv hn hd hn1 hd1 h1 h2 h
  · by_cases h' : bitLen d + 55 < bitLen n
    · exact nearestSize_b B C n d u v w hu hv hn hd hn1 hd1 h1 h2 h'
    · exact nearestSize_z B C n d u v w hu hv hn hd hn1 hd1 (by omega)
end Go.Proofs.YtmfnjmgdindlaaaDoor
