/-
  What a decimal is read as: the size, or that it is too great. Plain.
-/
import Derived.Test.YtmdnmhbfdceliaaGreatDoorQf
import Derived.KernelRfl
namespace Go.Proofs.YtmdnmhbfdceliaaGreatDoor.Rd
/-- the size of the infinity -/
def inf : Nat := 9218868437227405312
theorem c1 : 2 ^ 1 * U ≤ 10 ^ 324 := by
  rw [← U_add]
  exact Nat.le_of_ble_eq_true (by kernel_rfl)
theorem c2 : 10 ^ 324 ≤ 2 ^ 1077 := Nat.le_of_ble_eq_true (by kernel_rfl)
theorem c3 : 10 ^ 309 ≤ 2 ^ 1027 := Nat.le_of_ble_eq_true (by kernel_rfl)
theorem c4 : 2 ^ 1024 ≤ 10 ^ 309 := Nat.le_of_ble_eq_true (by kernel_rfl)
theorem M_zero : M 0 = 1 := by unfold M V; simp
theorem pw (a b x : Nat) (h : a + b = x + 1074) : 2 ^ a * 2 ^ b = 2 ^ x * U := by rw [← Nat.pow_add, h, U_add]
theorem V_inf (x : Nat) (hx : x = 1024) : V inf = 2 ^ x * U := by
  have h := V_of 2046 (2 ^ 52) (by decide) (.inr (Nat.le_refl _))
  have e : 2046 * 2 ^ 52 + 2 ^ 52 = inf := by decide
  rw [e] at h
  exact h.trans (pw 52 2046 x (by omega))
theorem c4' (x y : Nat) (hx : x = 1024) (hy : y = 309) : 2 ^ x ≤ 10 ^ y := by subst hx; subst hy; exact c4
/-- the number is at the border to the infinity, or beyond -/
def Big (n d : Nat) : Prop := M (inf - 1) * d ≤ n * (2 * U)
theorem near_big {n d t : Nat} (h : Near n d t) (ht : inf ≤ t) : Big n d := by
  unfold Big
  have h0 : t ≠ 0 := by unfold inf at ht; omega
  have h1 : M (inf - 1) ≤ M (t - 1) := M_mono (by omega)
  have h2 := Nat.mul_le_mul_right d h1
  rcases h.1 with h3 | h3 | h3
  · exact absurd h3 h0
  · omega
  · omega
theorem near_small {n d t : Nat} (h : Near n d t) (ht : t < inf) (hd : 0 < d) : ¬ Big n d := by
  unfold Big
  intro hb
  have h1 : M t ≤ M (inf - 1) := M_mono (by omega)
  have h2 := Nat.mul_le_mul_right d h1
  rcases h.2 with h3 | ⟨h3, h4⟩
  · omega
  · have h5 : M (inf - 1) ≤ M t := Nat.le_of_mul_le_mul_right (show M (inf - 1) * d ≤ M t * d by omega) hd
    have h6 : t = inf - 1 := by
      rcases Nat.lt_or_ge t (inf - 1) with h7 | h7
      · have := M_smono h7; omega
      · omega
    rw [h6] at h4
    revert h4; decide
/-- numerator and denominator of D x 10^p -/
def num (D : Nat) (p : Int) : Nat := D * 10 ^ p.toNat
def den (p : Int) : Nat := 10 ^ (-p).toNat
theorem den_pos (p : Int) : 0 < den p := Nat.pow_pos (by decide)
/-- D x 10^p is read as s; where s isn't below the infinity it is too great -/
def Sp (D : Nat) (p : Int) (s : Nat) : Prop :=
  (D = 0 ∧ s = 0) ∨ (0 < D ∧ ((s < inf ∧ Near (num D p) (den p) s) ∨ (inf ≤ s ∧ Big (num D p) (den p))))
theorem big_mono {n d n' d' : Nat} (h : Big n d) (hd : 0 < d) (hle : n * d' ≤ n' * d) : Big n' d' := by
  unfold Big at *
  have h1 := Nat.mul_le_mul_right d' h
  have h2 := Nat.mul_le_mul_right (2 * U) hle
  apply Nat.le_of_mul_le_mul_right _ hd
  have e1 : n * (2 * U) * d' = n * d' * (2 * U) := ac3 _ _ _
  have e2 : n' * (2 * U) * d = n' * d * (2 * U) := ac3 _ _ _
  have e3 : M (inf - 1) * d' * d = M (inf - 1) * d * d' := ac3 _ _ _
  omega
theorem Sp.mono {D D' s s' : Nat} {p p' : Int} (h : Sp D p s) (h' : Sp D' p' s') (hle : num D p * den p' ≤ num D' p' * den p) (hs : s' < inf) : s < inf ∧ s ≤ s' := by
  rcases h with ⟨_, rfl⟩ | ⟨h0, h⟩
  · exact ⟨by decide, Nat.zero_le _⟩
  · have hn : 0 < num D p := Nat.mul_pos h0 (Nat.pow_pos (by decide))
    have hp : 0 < num D p * den p' := Nat.mul_pos hn (den_pos p')
    have hD' : 0 < D' := by
      apply Nat.pos_of_ne_zero
      intro e
      rw [e] at hle
      have : num 0 p' = 0 := Nat.zero_mul _
      rw [this, Nat.zero_mul] at hle
      omega
    rcases h' with ⟨e, _⟩ | ⟨_, h'⟩
    · omega
    · rcases h' with ⟨_, h'⟩ | ⟨e, _⟩
      · rcases h with ⟨h1, h2⟩ | ⟨h1, h2⟩
        · exact ⟨h1, h2.mono h' (den_pos p) (den_pos p') hle⟩
        · exact absurd (big_mono h2 (den_pos p) hle) (near_small h' hs (den_pos p'))
      · omega
theorem Sp.uniq {D s s' : Nat} {p : Int} (h : Sp D p s) (h' : Sp D p s') : (s < inf ∧ s = s') ∨ (inf ≤ s ∧ inf ≤ s') := by
  by_cases h1 : s' < inf
  · obtain ⟨h2, h3⟩ := h.mono h' (Nat.le_refl _) h1
    obtain ⟨_, h4⟩ := h'.mono h (Nat.le_refl _) h2
    exact .inl ⟨h2, by omega⟩
  · by_cases h2 : s < inf
    · obtain ⟨h3, _⟩ := h'.mono h (Nat.le_refl _) h2
      exact absurd h3 h1
    · exact .inr ⟨by omega, by omega⟩
theorem sp_zero (p : Int) : Sp 0 p 0 := .inl ⟨rfl, rfl⟩
theorem sp_near {D s : Nat} {p : Int} (h0 : 0 < D) (h : Near (num D p) (den p) s) : Sp D p s := by
  right
  refine ⟨h0, ?_⟩
  by_cases hs : s < inf
  · exact .inl ⟨hs, h⟩
  · exact .inr ⟨by omega, near_big h (by omega)⟩
theorem sp_tiny {D L : Nat} {p : Int} (h0 : 0 < D) (h : D < 10 ^ L) (hp : (L : Int) + p ≤ -324) : Sp D p 0 := by
  refine sp_near h0 ⟨.inl rfl, .inl ?_⟩
  rw [M_zero, Nat.one_mul]
  unfold num den
  rw [show p.toNat = 0 by omega, Nat.pow_zero, Nat.mul_one]
  obtain ⟨r, hr⟩ : ∃ r, (-p).toNat = L + 324 + r := ⟨(-p).toNat - (L + 324), by omega⟩
  rw [hr, Nat.pow_add, Nat.pow_add]
  have h1 := c1
  rw [Nat.pow_one] at h1
  have hp0 : 0 < 10 ^ r := Nat.pow_pos (by decide)
  calc D * (2 * U) < 10 ^ L * (2 * U) := Nat.mul_lt_mul_of_pos_right h (by have := U_pos; omega)
    _ ≤ 10 ^ L * 10 ^ 324 := Nat.mul_le_mul_left _ h1
    _ ≤ 10 ^ L * 10 ^ 324 * 10 ^ r := Nat.le_mul_of_pos_right _ hp0
theorem val_ge {D L c : Nat} {p : Int} (h : 10 ^ L ≤ D) (hp : (c : Int) ≤ (L : Int) + p) : den p * 10 ^ c ≤ num D p := by
  unfold num den
  rw [← Nat.pow_add]
  refine Nat.le_trans ?_ (Nat.mul_le_mul_right _ h)
  rw [← Nat.pow_add]
  exact Nat.pow_le_pow_right (by decide) (by omega)
theorem val_lt {D L c : Nat} {p : Int} (h : D < 10 ^ L) (hp : (L : Int) + p ≤ (c : Int)) : num D p ≤ den p * 10 ^ c := by
  unfold num den
  rw [← Nat.pow_add]
  refine Nat.le_trans (Nat.mul_le_mul_right _ (Nat.le_of_lt h)) ?_
  rw [← Nat.pow_add]
  exact Nat.pow_le_pow_right (by decide) (by omega)
theorem val_ge' {D L c : Nat} {p : Int} (h : 10 ^ L ≤ D) (hp : -(c : Int) ≤ (L : Int) + p) : den p ≤ num D p * 10 ^ c := by
  unfold num den
  refine Nat.le_trans ?_ (Nat.mul_le_mul_right _ (Nat.mul_le_mul_right _ h))
  rw [← Nat.pow_add, ← Nat.pow_add]
  exact Nat.pow_le_pow_right (by decide) (by omega)
theorem sp_big {D L s : Nat} {p : Int} (h : 10 ^ L ≤ D) (hp : 309 ≤ (L : Int) + p) (hs : inf ≤ s) : Sp D p s := by
  have h0 : 0 < D := Nat.lt_of_lt_of_le (Nat.pow_pos (by decide)) h
  refine .inr ⟨h0, .inr ⟨hs, ?_⟩⟩
  obtain ⟨y, hy⟩ : ∃ y, y = 309 := ⟨_, rfl⟩
  have h1 := val_ge (c := y) (p := p) h (by omega)
  unfold Big
  obtain ⟨x, hx⟩ : ∃ x, x = 1024 := ⟨_, rfl⟩
  have h2 : M (inf - 1) ≤ 2 * (2 ^ x * U) := by
    unfold M
    rw [show inf - 1 + 1 = inf by decide, V_inf x hx]
    have := V_mono (show inf - 1 ≤ inf by omega)
    rw [V_inf x hx] at this
    omega
  have h3 : 2 ^ x * U ≤ 10 ^ y * U := Nat.mul_le_mul_right _ (c4' x y hx hy)
  have h4 : M (inf - 1) ≤ 10 ^ y * (2 * U) := by
    have e : 10 ^ y * (2 * U) = 2 * (10 ^ y * U) := by generalize 10 ^ y = t; generalize U = u; ac_rfl
    rw [e]
    generalize 10 ^ y * U = x at h3 ⊢
    generalize 2 ^ x * U = y at h2 h3
    omega
  refine Nat.le_trans (Nat.mul_le_mul_right (den p) h4) ?_
  have e2 : 10 ^ y * (2 * U) * den p = den p * 10 ^ y * (2 * U) := by generalize 10 ^ y = t; generalize U = u; ac_rfl
  rw [e2]
  exact Nat.mul_le_mul_right _ h1
end Go.Proofs.YtmdnmhbfdceliaaGreatDoor.Rd
/-
  The shortest decimal of a float's size: what is read as it lies between two borders without a gap; in units of which it has 18 digits, one of 17 is always found. Plain.
-/
namespace Go.Proofs.YtmdnmhbfdceliaaGreatDoor.Rd
/-- what is nearest hangs on the quotient alone -/
theorem near_ratio {n d n' d' s : Nat} (hd : 0 < d) (hd' : 0 < d') (h : n * d' = n' * d) : Near n d s ↔ Near n' d' s := by
  have e1 := Near.scale (n := n) (d := d) (s := s) d' hd'
  have e2 := Near.scale (n := n') (d := d') (s := s) d hd
  rw [h, Nat.mul_comm d d'] at e1
  exact e1.symm.trans e2
/-- quarters of the last digit: the borders below and above -/
def bot (E m : Nat) : Nat := if m = 2 ^ 52 ∧ 0 < E then 4 * m - 1 else 4 * m - 2
def top (m : Nat) : Nat := 4 * m + 2
theorem M_top (E m : Nat) (h1 : m < 2 ^ 53) (h2 : E = 0 ∨ 2 ^ 52 ≤ m) : 2 * M (E * 2 ^ 52 + m) = top m * 2 ^ E := by
  unfold M top
  rw [V_of E m (by omega) h2, Nat.add_assoc, V_of E (m + 1) (by omega) (by omega), ← Nat.add_mul, ← Nat.mul_assoc]
  congr 1
  omega
theorem M_bot (E m : Nat) (h0 : 0 < m) (h1 : m < 2 ^ 53) (h2 : E = 0 ∨ 2 ^ 52 ≤ m) : 2 * M (E * 2 ^ 52 + m - 1) = bot E m * 2 ^ E := by
  unfold M bot
  rw [show E * 2 ^ 52 + m - 1 + 1 = E * 2 ^ 52 + m by omega, V_of E m (by omega) h2]
  by_cases hc : m = 2 ^ 52 ∧ 0 < E
  · rw [if_pos hc]
    obtain ⟨hm, hE⟩ := hc
    obtain ⟨F, rfl⟩ : ∃ F, E = F + 1 := ⟨E - 1, by omega⟩
    have e : (F + 1) * 2 ^ 52 + m - 1 = F * 2 ^ 52 + (2 ^ 53 - 1) := by omega
    rw [e, V_of F (2 ^ 53 - 1) (by omega) (by omega), hm, show 2 ^ (F + 1) = 2 * 2 ^ F by rw [Nat.pow_succ, Nat.mul_comm]]
    generalize 2 ^ F = f
    omega
  · rw [if_neg hc]
    have e : E * 2 ^ 52 + m - 1 = E * 2 ^ 52 + (m - 1) := by omega
    rw [e, V_of E (m - 1) (by omega) (by omega), ← Nat.add_mul, ← Nat.mul_assoc]
    congr 1
    omega
/-- from units of 2^e to units of 10^t -/
def sU (e t : Int) : Nat := 10 ^ (-t).toNat * 2 ^ e.toNat
def sD (e t : Int) : Nat := 10 ^ t.toNat * 2 ^ (-e).toNat
theorem sU_pos (e t : Int) : 0 < sU e t := Nat.mul_pos (Nat.pow_pos (by decide)) (Nat.two_pow_pos _)
theorem sD_pos (e t : Int) : 0 < sD e t := Nat.mul_pos (Nat.pow_pos (by decide)) (Nat.two_pow_pos _)
theorem s_eq (E : Nat) (t : Int) : sU ((E : Int) - 1076) t * (10 ^ t.toNat * (4 * U)) = sD ((E : Int) - 1076) t * (2 ^ E * 10 ^ (-t).toNat) := by
  unfold sU sD
  have h : 2 ^ ((E : Int) - 1076).toNat * (4 * U) = 2 ^ (-((E : Int) - 1076)).toNat * 2 ^ E := by
    have hu : ∀ T, T = 1074 → 4 * U = 2 ^ (2 + T) := by
      intro T hT
      have e : U = pw2 T := by rw [hT]; delta U; exact Eq.refl _
      rw [e, pw2_add 2 T]
    obtain ⟨T, hT⟩ : ∃ T, T = 1074 := ⟨_, rfl⟩
    rw [hu T hT, ← Nat.pow_add, ← Nat.pow_add, show ((E : Int) - 1076).toNat + (2 + T) = (-((E : Int) - 1076)).toNat + E by omega]
  generalize 10 ^ (-t).toNat = a
  generalize 10 ^ t.toNat = b
  generalize 2 ^ ((E : Int) - 1076).toNat = c at h ⊢
  generalize 2 ^ (-((E : Int) - 1076)).toNat = d at h ⊢
  generalize 2 ^ E = f at h ⊢
  generalize 4 * U = g at h ⊢
  have e1 : a * c * (b * g) = a * b * (c * g) := by ac_rfl
  have e2 : b * d * (f * a) = a * b * (d * f) := by ac_rfl
  rw [e1, e2, h]
/-- how n units stand to x quarters -/
theorem s_cmp (E : Nat) (t : Int) (n x : Nat) : (x * sU ((E : Int) - 1076) t < n * sD ((E : Int) - 1076) t ↔ x * 2 ^ E * den t < num n t * (4 * U)) ∧
    (x * sU ((E : Int) - 1076) t = n * sD ((E : Int) - 1076) t ↔ x * 2 ^ E * den t = num n t * (4 * U)) ∧ (n * sD ((E : Int) - 1076) t < x * sU ((E : Int) - 1076) t ↔ num n t * (4 * U) < x * 2 ^ E * den t) := by
  have h := s_eq E t
  unfold num den
  have p1 := sU_pos ((E : Int) - 1076) t
  have p2 : 0 < 10 ^ t.toNat * (4 * U) := Nat.mul_pos (Nat.pow_pos (by decide)) (by have := U_pos; omega)
  have p3 := sD_pos ((E : Int) - 1076) t
  generalize sU ((E : Int) - 1076) t = a at *
  generalize sD ((E : Int) - 1076) t = b at *
  have e1 : x * 2 ^ E * 10 ^ (-t).toNat * b = x * a * (10 ^ t.toNat * (4 * U)) := by
    rw [Nat.mul_assoc x a, h]
    generalize 2 ^ E = p
    generalize 10 ^ (-t).toNat = q
    ac_rfl
  have e2 : n * 10 ^ t.toNat * (4 * U) * b = n * b * (10 ^ t.toNat * (4 * U)) := by
    generalize 4 * U = p
    generalize 10 ^ t.toNat = q
    ac_rfl
  have L : ∀ y z k : Nat, 0 < k → (y * k < z * k ↔ y < z) := fun y z k hk => ⟨fun h => Nat.lt_of_mul_lt_mul_right h, fun h => Nat.mul_lt_mul_of_pos_right h hk⟩
  refine ⟨?_, ?_, ?_⟩
  · rw [← L _ _ _ p2, ← e1, ← e2, L _ _ _ p3]
  · constructor
    · intro hh
      apply Nat.eq_of_mul_eq_mul_right p3
      rw [e1, e2, hh]
    · intro hh
      apply Nat.eq_of_mul_eq_mul_right p2
      rw [← e1, ← e2, hh]
  · rw [← L _ _ _ p2, ← e1, ← e2, L _ _ _ p3]
/-- n x 10^t is read as the size, in whole numbers -/
theorem near_units {E m n : Nat} {t : Int} (h0 : 0 < m) (h1 : m < 2 ^ 53) (h2 : E = 0 ∨ 2 ^ 52 ≤ m) :
    Near (num n t) (den t) (E * 2 ^ 52 + m) ↔
    (bot E m * sU ((E : Int) - 1076) t < n * sD ((E : Int) - 1076) t ∨ (bot E m * sU ((E : Int) - 1076) t = n * sD ((E : Int) - 1076) t ∧ m % 2 = 0)) ∧
    (n * sD ((E : Int) - 1076) t < top m * sU ((E : Int) - 1076) t ∨ (top m * sU ((E : Int) - 1076) t = n * sD ((E : Int) - 1076) t ∧ m % 2 = 0)) := by
  have c1 := s_cmp E t n (bot E m)
  have c2 := s_cmp E t n (top m)
  rw [c1.1, c1.2.1, c2.2.2, c2.2.1]
  have b := M_bot E m h0 h1 h2
  have tt := M_top E m h1 h2
  rw [← b, ← tt]
  unfold Near
  have par : (E * 2 ^ 52 + m) % 2 = m % 2 := by omega
  have hz : E * 2 ^ 52 + m ≠ 0 := by omega
  rw [par]
  have r1 : ∀ x : Nat, 2 * x * den t = 2 * (x * den t) := fun x => Nat.mul_assoc ..
  have r2 : num n t * (4 * U) = 2 * (num n t * (2 * U)) := by
    rw [show 4 * U = 2 * (2 * U) by omega]
    generalize 2 * U = p
    generalize num n t = q
    ac_rfl
  rw [r1, r1, r2]
  generalize M (E * 2 ^ 52 + m - 1) * den t = A
  generalize M (E * 2 ^ 52 + m) * den t = B
  generalize num n t * (2 * U) = C
  constructor
  · rintro ⟨ha, hb⟩
    refine ⟨?_, ?_⟩
    · rcases ha with ha | ha | ha
      · exact absurd ha hz
      · left; omega
      · right; omega
    · rcases hb with hb | hb
      · left; omega
      · right; omega
  · rintro ⟨ha, hb⟩
    refine ⟨?_, ?_⟩
    · rcases ha with ha | ha
      · right; left; omega
      · right; right; omega
    · rcases hb with hb | hb
      · left; omega
      · right; omega
/-- the least and the greatest number of units that is read as the size -/
def lea (x a b m : Nat) : Nat := x * a / b + if x * a % b ≠ 0 ∨ m % 2 = 1 then 1 else 0
def mos (x a b m : Nat) : Nat := x * a / b - if x * a % b = 0 ∧ m % 2 = 1 then 1 else 0
theorem lea_iff {x a b m n : Nat} (hb : 0 < b) : lea x a b m ≤ n ↔ (x * a < n * b ∨ (x * a = n * b ∧ m % 2 = 0)) := by
  unfold lea
  have hd := Nat.div_add_mod (x * a) b
  have hr := Nat.mod_lt (x * a) hb
  generalize x * a = y at *
  generalize y / b = q at *
  generalize y % b = r at *
  have key : ∀ k : Nat, (q + 1 ≤ k → y < k * b) ∧ (k ≤ q → k * b ≤ y - r) := fun k => ⟨fun h => by
      have := Nat.mul_le_mul_right b h
      rw [Nat.add_mul, Nat.mul_comm q b] at this
      omega, fun h => by
      have := Nat.mul_le_mul_right b h
      rw [Nat.mul_comm q b] at this
      omega⟩
  rw [Nat.mul_comm b q] at hd
  by_cases hc : r ≠ 0 ∨ m % 2 = 1
  · rw [if_pos hc]
    constructor
    · intro h; left; exact (key n).1 h
    · rintro (h | ⟨h, h'⟩)
      · apply Nat.lt_of_not_le
        intro hle
        have := (key n).2 hle
        omega
      · have hr0 : r ≠ 0 := by omega
        exfalso
        by_cases hle : n ≤ q
        · have := (key n).2 hle; omega
        · have := (key n).1 (by omega); omega
  · rw [if_neg hc]
    have hr0 : r = 0 := by omega
    have hm : m % 2 = 0 := by omega
    constructor
    · intro h
      rcases Nat.lt_or_eq_of_le h with h' | h'
      · left; exact (key n).1 (by omega)
      · right; refine ⟨?_, hm⟩; rw [← h', Nat.add_zero]; omega
    · rintro (h | ⟨h, _⟩)
      · apply Nat.le_of_not_lt
        intro hlt
        have := (key n).2 (by omega)
        omega
      · apply Nat.le_of_not_lt
        intro hlt
        have h2 : n * b < q * b := Nat.mul_lt_mul_of_pos_right (by omega) hb
        omega
theorem mos_iff {x a b m n : Nat} (hb : 0 < b) (hx : b ≤ x * a) : n ≤ mos x a b m ↔ (n * b < x * a ∨ (x * a = n * b ∧ m % 2 = 0)) := by
  unfold mos
  have hd := Nat.div_add_mod (x * a) b
  have hr := Nat.mod_lt (x * a) hb
  have hq : 1 ≤ x * a / b := (Nat.one_le_div_iff hb).2 hx
  generalize x * a = y at *
  generalize y / b = q at *
  generalize y % b = r at *
  have key : ∀ k : Nat, (q + 1 ≤ k → y < k * b) ∧ (k ≤ q → k * b ≤ y - r) := fun k => ⟨fun h => by
      have := Nat.mul_le_mul_right b h
      rw [Nat.add_mul, Nat.mul_comm q b] at this
      omega, fun h => by
      have := Nat.mul_le_mul_right b h
      rw [Nat.mul_comm q b] at this
      omega⟩
  rw [Nat.mul_comm b q] at hd
  by_cases hc : r = 0 ∧ m % 2 = 1
  · rw [if_pos hc]
    constructor
    · intro h
      left
      have h2 : n * b < q * b := Nat.mul_lt_mul_of_pos_right (by omega) hb
      omega
    · rintro (h | ⟨h, h'⟩)
      · have : ¬ q ≤ n := fun hle => by
          have := Nat.mul_le_mul_right b hle
          omega
        omega
      · omega
  · rw [if_neg hc]
    constructor
    · intro h
      have h1 := (key n).2 (by omega)
      by_cases he : y = n * b
      · right
        refine ⟨he, ?_⟩
        omega
      · left; omega
    · rintro (h | ⟨h, _⟩)
      · apply Nat.le_of_not_lt
        intro hlt
        have := (key n).1 (by omega)
        omega
      · apply Nat.le_of_not_lt
        intro hlt
        have := (key n).1 (by omega)
        omega
theorem near_view {E m n : Nat} {t : Int} (h0 : 0 < m) (h1 : m < 2 ^ 53) (h2 : E = 0 ∨ 2 ^ 52 ≤ m) (hx : sD ((E : Int) - 1076) t ≤ top m * sU ((E : Int) - 1076) t) :
    Near (num n t) (den t) (E * 2 ^ 52 + m) ↔ lea (bot E m) (sU ((E : Int) - 1076) t) (sD ((E : Int) - 1076) t) m ≤ n ∧ n ≤ mos (top m) (sU ((E : Int) - 1076) t) (sD ((E : Int) - 1076) t) m := by
  rw [near_units h0 h1 h2, lea_iff (sD_pos _ _), mos_iff (sD_pos _ _) hx]
/-- of 17 digits one is always found -/
theorem found17 {E m a b W : Nat} (h0 : 0 < m) (h1 : m < 2 ^ 53) (hb : 0 < b) (hW : W = 4 * m * a / b) (hW1 : 100000000000000000 ≤ W) :
    lea (bot E m) a b m ≤ W / 10 * 10 ∨ W / 10 * 10 + 10 ≤ mos (top m) a b m := by
  have hwb : W * b ≤ 4 * m * a := by rw [hW]; exact Nat.div_mul_le_self _ _
  have hx : b ≤ top m * a := by
    have h3 : 4 * m * a ≤ top m * a := Nat.mul_le_mul_right _ (by unfold top; omega)
    have h4 : 1 * b ≤ W * b := Nat.mul_le_mul_right _ (by omega)
    omega
  apply Classical.byContradiction
  intro hc
  rw [not_or] at hc
  obtain ⟨c1, c2⟩ := hc
  rw [lea_iff hb] at c1
  rw [mos_iff hb hx] at c2
  have d1 : W / 10 * 10 * b ≤ bot E m * a := by
    apply Nat.le_of_not_lt; intro h; exact c1 (Or.inl h)
  have d2 : top m * a ≤ (W / 10 * 10 + 10) * b := by
    apply Nat.le_of_not_lt; intro h; exact c2 (Or.inl h)
  -- the borders are farther apart than ten units
  have d3 : (top m - bot E m) * a ≤ 10 * b := by
    rw [Nat.sub_mul]
    rw [Nat.add_mul] at d2
    omega
  have d4 : 4 * m ≤ (top m - bot E m) * 9007199254740992 := by
    unfold top bot
    split
    · rename_i h; omega
    · omega
  have d5 : 4 * m * a ≤ (top m - bot E m) * a * 9007199254740992 := by
    have := Nat.mul_le_mul_right a d4
    rw [Nat.mul_right_comm (top m - bot E m)] at this
    exact this
  have d6 := Nat.mul_le_mul_right 9007199254740992 d3
  have d7 : 100000000000000000 * b ≤ W * b := Nat.mul_le_mul_right _ hW1
  omega
end Go.Proofs.YtmdnmhbfdceliaaGreatDoor.Rd
