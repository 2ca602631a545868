/-
  The shortest decimal of a float's size: what is read as it lies between two borders without a gap; in units of which it has 18 digits, one of 17 is always found. Plain.
-/
import Derived.Test.YtmfnjmgdindlaaaDoorQi
namespace Go.Proofs.YtmfnjmgdindlaaaDoor.Rd
/-- what is nearest hangs on the quotient alone -/
theorem near_ratio {n d n' d' s : Nat} (hd : 0 < d) (hd' : 0 < d') (h : n * d' = n' * d) : Near n d s ↔ Near n' d' s := by
  have e1 := Near.scale (n := n) (d := d) (s := s) d' hd'
  have e2 := Near.scale (n := n') (d := d') (s := s) d hd
  rw [h, Nat.mul_comm d d'] at e1
  exact e1.symm.trans e2
/-- quarters of the last digit: the borders below and above -/
def bot (E m : Nat) : Nat := if m = 2 ^ 52 ∧ 0 < E then 4 * m - 1 else 4 * m - 2
def top (m : Nat) : Nat := 4 * m + 2
theorem M_top (E m : Nat) (h1 : m < 2 ^ 53) (h2 : E = 0 ∨ 2 ^ 52 ≤ m) : 2 * M (E * 2 ^ 52 + m) = top m * 2 ^ E := by
  unfold M top
  rw [V_of E m (by omega) h2, Nat.add_assoc, V_of E (m + 1) (by omega) (by omega), ← Nat.add_mul, ← Nat.mul_assoc]
  congr 1
  omega
theorem M_bot (E m : Nat) (h0 : 0 < m) (h1 : m < 2 ^ 53) (h2 : E = 0 ∨ 2 ^ 52 ≤ m) : 2 * M (E * 2 ^ 52 + m - 1) = bot E m * 2 ^ E := by
  unfold M bot
  rw [show E * 2 ^ 52 + m - 1 + 1 = E * 2 ^ 52 + m by omega, V_of E m (by omega) h2]
  by_cases hc : m = 2 ^ 52 ∧ 0 < E
  · rw [if_pos hc]
    obtain ⟨hm, hE⟩ := hc
    obtain ⟨F, rfl⟩ : ∃ F, E = F + 1 := ⟨E - 1, by omega⟩
    have e : (F + 1) * 2 ^ 52 + m - 1 = F * 2 ^ 52 + (2 ^ 53 - 1) := by omega
    rw [e, V_of F (2 ^ 53 - 1) (by omega) (by omega), hm, show 2 ^ (F + 1) = 2 * 2 ^ F by rw [Nat.pow_succ, Nat.mul_comm]]
    generalize 2 ^ F = f
    omega
  · rw [if_neg hc]
    have e : E * 2 ^ 52 + m - 1 = E * 2 ^ 52 + (m - 1) := by omega
    rw [e, V_of E (m - 1) (by omega) (by omega), ← Nat.add_mul, ← Nat.mul_assoc]
    congr 1
    omega
/-- from units of 2^e to units of 10^t -/
def sU (e t : Int) : Nat := 10 ^ (-t).toNat * 2 ^ e.toNat
def sD (e t : Int) : Nat := 10 ^ t.toNat * 2 ^ (-e).toNat
theorem sU_pos (e t : Int) : 0 < sU e t := Nat.mul_pos (Nat.pow_pos (by decide)) (Nat.two_pow_pos _)
theorem sD_pos (e t : Int) : 0 < sD e t := Nat.mul_pos (Nat.pow_pos (by decide)) (Nat.two_pow_pos _)
theorem s_eq (E : Nat) (t : Int) : sU ((E : Int) - 1076) t * (10 ^ t.toNat * (4 * U)) = sD ((E : Int) - 1076) t * (2 ^ E * 10 ^ (-t).toNat) := by
  unfold sU sD
  have h : 2 ^ ((E : Int) - 1076).toNat * (4 * U) = 2 ^ (-((E : Int) - 1076)).toNat * 2 ^ E := by
    have hu : ∀ T, T = 1074 → 4 * U = 2 ^ (2 + T) := by
      intro T hT
      have e : U = pw2 T := by rw [hT]; delta U; exact Eq.refl _
      rw [e, pw2_add 2 T]
    obtain ⟨T, hT⟩ : ∃ T, T = 1074 := ⟨_, rfl⟩
    rw [hu T hT, ← Nat.pow_add, ← Nat.pow_add, show ((E : Int) - 1076).toNat + (2 + T) = (-((E : Int) - 1076)).toNat + E by omega]
  generalize 10 ^ (-t).toNat = a
  generalize 10 ^ t.toNat = b
  generalize 2 ^ ((E : Int) - 1076).toNat = c at h ⊢
  generalize 2 ^ (-((E : Int) - 1076)).toNat = d at h ⊢
  generalize 2 ^ E = f at h ⊢
  generalize 4 * U = g at h ⊢
  have e1 : a * c * (b * g) = a * b * (c * g) := by ac_rfl
  have e2 : b * d * (f * a) = a * b * (d * f) := by ac_rfl
  rw [e1, e2, h]
/-- how n units stand to x quarters -/
theorem s_cmp (E : Nat) (t : Int) (n x : Nat) : (x * sU ((E : Int) - 1076) t < n * sD ((E : Int) - 1076) t ↔ x * 2 ^ E * den t < num n t * (4 * U)) ∧
    (x * sU ((E : Int) - 1076) t = n * sD ((E : Int) - 1076) t ↔ x * 2 ^ E * den t = num n t * (4 * U)) ∧ (n * sD ((E : Int) - 1076) t < x * sU ((E : Int) - 1076) t ↔ num n t * (4 * U) < x * 2 ^ E * den t) := by
  have h := s_eq E t
  unfold num den
  have p1 := sU_pos ((E : Int) - 1076) t
  have p2 : 0 < 10 ^ t.toNat * (4 * U) := Nat.mul_pos (Nat.pow_pos (by decide)) (by have := U_pos; omega)
  have p3 := sD_pos ((E : Int) - 1076) t
  generalize sU ((E : Int) - 1076) t = a at *
  generalize sD ((E : Int) - 1076) t = b at *
  have e1 : x * 2 ^ E * 10 ^ (-t).toNat * b = x * a * (10 ^ t.toNat * (4 * U)) := by
    rw [Nat.mul_assoc x a, h]
    generalize 2 ^ E = p
    generalize 10 ^ (-t).toNat = q
    ac_rfl
  have e2 : n * 10 ^ t.toNat * (4 * U) * b = n * b * (10 ^ t.toNat * (4 * U)) := by
    generalize 4 * U = p
    generalize 10 ^ t.toNat = q
    ac_rfl
  have L : ∀ y z k : Nat, 0 < k → (y * k < z * k ↔ y < z) := fun y z k hk => ⟨fun h => Nat.lt_of_mul_lt_mul_right h, fun h => Nat.mul_lt_mul_of_pos_right h hk⟩
  refine ⟨?_, ?_, ?_⟩
  · rw [← L _ _ _ p2, ← e1, ← e2, L _ _ _ p3]
  · constructor
    · intro hh
      apply Nat.eq_of_mul_eq_mul_right p3
      rw [e1, e2, hh]
    · intro hh
      apply Nat.eq_of_mul_eq_mul_right p2
      rw [← e1, ← e2, hh]
  · rw [← L _ _ _ p2, ← e1, ← e2, L _ _ _ p3]
/-- n x 10^t is read as the size, in whole numbers -/
theorem near_units {E m n : Nat} {t : Int} (h0 : 0 < m) (h1 : m < 2 ^ 53) (h2 : E = 0 ∨ 2 ^ 52 ≤ m) :
    Near (num n t) (den t) (E * 2 ^ 52 + m) ↔
    (bot E m * sU ((E : Int) - 1076) t < n * sD ((E : Int) - 1076) t ∨ (bot E m * sU ((E : Int) - 1076) t = n * sD ((E : Int) - 1076) t ∧ m % 2 = 0)) ∧
    (n * sD ((E : Int) - 1076) t < top m * sU ((E : Int) - 1076) t ∨ (top m * sU ((E : Int) - 1076) t = n * sD ((E : Int) - 1076) t ∧ m % 2 = 0)) := by
  have c1 := s_cmp E t n (bot E m)
  have c2 := s_cmp E t n (top m)
  rw [c1.1, c1.2.1, c2.2.2, c2.2.1]
  have b := M_bot E m h0 h1 h2
  have tt := M_top E m h1 h2
  rw [← b, ← tt]
  unfold Near
  have par : (E * 2 ^ 52 + m) % 2 = m % 2 := by omega
  have hz : E * 2 ^ 52 + m ≠ 0 := by omega
  rw [par]
  have r1 : ∀ x : Nat, 2 * x * den t = 2 * (x * den t) := fun x => Nat.mul_assoc ..
  have r2 : num n t * (4 * U) = 2 * (num n t * (2 * U)) := by
    rw [show 4 * U = 2 * (2 * U) by omega]
    generalize 2 * U = p
    generalize num n t = q
    ac_rfl
  rw [r1, r1, r2]
  generalize M (E * 2 ^ 52 + m - 1) * den t = A
  generalize M (E * 2 ^ 52 + m) * den t = B
  generalize num n t * (2 * U) = C
  constructor
  · rintro ⟨ha, hb⟩
    refine ⟨?_, ?_⟩
    · rcases ha with ha | ha | ha
      · exact absurd ha hz
      · left; omega
      · right; omega
    · rcases hb with hb | hb
      · left; omega
      · right; omega
  · rintro ⟨ha, hb⟩
    refine ⟨?_, ?_⟩
    · rcases ha with ha | ha
      · right; left; omega
      · right; right; omega
    · rcases hb with hb | hb
      · left; omega
      · right; omega
/-- the least and the greatest number of units that is read as the size -/
def lea (x a b m : Nat) : Nat := x * a / b + if x * a % b ≠ 0 ∨ m % 2 = 1 then 1 else 0
def mos (x a b m : Nat) : Nat := x * a / b - if x * a % b = 0 ∧ m % 2 = 1 then 1 else 0
theorem lea_iff {x a b m n : Nat} (hb : 0 < b) : lea x a b m ≤ n ↔ (x * a < n * b ∨ (x * a = n * b ∧ m % 2 = 0)) := by
  unfold lea
  have hd := Nat.div_add_mod (x * a) b
  have hr := Nat.mod_lt (x * a) hb
  generalize x * a = y at *
  generalize y / b = q at *
  generalize y % b = r at *
  have key : ∀ k : Nat, (q + 1 ≤ k → y < k * b) ∧ (k ≤ q → k * b ≤ y - r) := fun k => ⟨fun h => by
      have := Nat.mul_le_mul_right b h
      rw [Nat.add_mul, Nat.mul_comm q b] at this
      omega, fun h => by
      have := Nat.mul_le_mul_right b h
      rw [Nat.mul_comm q b] at this
      omega⟩
  rw [Nat.mul_comm b q] at hd
  by_cases hc : r ≠ 0 ∨ m % 2 = 1
  · rw [if_pos hc]
    constructor
    · intro h; left; exact (key n).1 h
    · rintro (h | ⟨h, h'⟩)
      · apply Nat.lt_of_not_le
        intro hle
        have := (key n).2 hle
        omega
      · have hr0 : r ≠ 0 := by omega
        exfalso
        by_cases hle : n ≤ q
        · have := (key n).2 hle; omega
        · have := (key n).1 (by omega); omega
  · rw [if_neg hc]
    have hr0 : r = 0 := by omega
    have hm : m % 2 = 0 := by omega
    constructor
    · intro h
      rcases Nat.lt_or_eq_of_le h with h' | h'
      · left; exact (key n).1 (by omega)
      · right; refine ⟨?_, hm⟩; rw [← h', Nat.add_zero]; omega
    · rintro (h | ⟨h, _⟩)
      · apply Nat.le_of_not_lt
        intro hlt
        have := (key n).2 (by omega)
        omega
      · apply Nat.le_of_not_lt
        intro hlt
        have h2 : n * b < q * b := Nat.mul_lt_mul_of_pos_right (by omega) hb
        omega
theorem mos_iff {x a b m n : Nat} (hb : 0 < b) (hx : b ≤ x * a) : n ≤ mos x a b m ↔ (n * b < x * a ∨ (x * a = n * b ∧ m % 2 = 0)) := by
  unfold mos
  have hd := Nat.div_add_mod (x * a) b
  have hr := Nat.mod_lt (x * a) hb
  have hq : 1 ≤ x * a / b := (Nat.one_le_div_iff hb).2 hx
  generalize x * a = y at *
  generalize y / b = q at *
  generalize y % b = r at *
  have key : ∀ k : Nat, (q + 1 ≤ k → y < k * b) ∧ (k ≤ q → k * b ≤ y - r) := fun k => ⟨fun h => by
      have := Nat.mul_le_mul_right b h
      rw [Nat.add_mul, Nat.mul_comm q b] at this
      omega, fun h => by
      have := Nat.mul_le_mul_right b h
      rw [Nat.mul_comm q b] at this
      omega⟩
  rw [Nat.mul_comm b q] at hd
  by_cases hc : r = 0 ∧ m % 2 = 1
  · rw [if_pos hc]
    constructor
    · intro h
      left
      have h2 : n * b < q * b := Nat.mul_lt_mul_of_pos_right (by omega) hb
      omega
    · rintro (h | ⟨h, h'⟩)
      · have : ¬ q ≤ n := fun hle => by
          have := Nat.mul_le_mul_right b hle
          omega
        omega
      · omega
  · rw [if_neg hc]
    constructor
    · intro h
      have h1 := (key n).2 (by omega)
      by_cases he : y = n * b
      · right
        refine ⟨he, ?_⟩
        omega
      · left; omega
    · rintro (h | ⟨h, _⟩)
      · apply Nat.le_of_not_lt
        intro hlt
        have := (key n).1 (by omega)
        omega
      · apply Nat.le_of_not_lt
        intro hlt
        have := (key n).1 (by omega)
        omega
theorem near_view {E m n : Nat} {t : Int} (h0 : 0 < m) (h1 : m < 2 ^ 53) (h2 : E = 0 ∨ 2 ^ 52 ≤ m) (hx : sD ((E : Int) - 1076) t ≤ top m * sU ((E : Int) - 1076) t) :
    Near (num n t) (den t) (E * 2 ^ 52 + m) ↔ lea (bot E m) (sU ((E : Int) - 1076) t) (sD ((E : Int) - 1076) t) m ≤ n ∧ n ≤ mos (top m) (sU ((E : Int) - 1076) t) (sD ((E : Int) - 1076) t) m := by
  rw [near_units h0 h1 h2, lea_iff (sD_pos _ _), mos_iff (sD_pos _ _) hx]
/-- of 17 digits one is always found -/
theorem found17 {E m a b W : Nat} (h0 : 0 < m) (h1 : m < 2 ^ 53) (hb : 0 < b) (hW : W = 4 * m * a / b) (hW1 : 100000000000000000 ≤ W) :
    lea (bot E m) a b m ≤ W / 10 * 10 ∨ W / 10 * 10 + 10 ≤ mos (top m) a b m := by
  have hwb : W * b ≤ 4 * m * a := by rw [hW]; exact Nat.div_mul_le_self _ _
  have hx : b ≤ top m * a := by
    have h3 : 4 * m * a ≤ top m * a := Nat.mul_le_mul_right _ (by unfold top; omega)
    have h4 : 1 * b ≤ W * b := Nat.mul_le_mul_right _ (by omega)
    omega
  apply Classical.byContradiction
  intro hc
  rw [not_or] at hc
  obtain ⟨c1, c2⟩ := hc
  rw [lea_iff hb] at c1
  rw [mos_iff hb hx] at c2
  have d1 : W / 10 * 10 * b ≤ bot E m * a := by
    apply Nat.le_of_not_lt; intro h; exact c1 (Or.inl h)
  have d2 : top m * a ≤ (W / 10 * 10 + 10) * b := by
    apply Nat.le_of_not_lt; intro h; exact c2 (Or.inl h)
  -- the borders are farther apart than ten units
  have d3 : (top m - bot E m) * a ≤ 10 * b := by
    rw [Nat.sub_mul]
    rw [Nat.add_mul] at d2
    omega
  have d4 : 4 * m ≤ (top m - bot E m) * 9007199254740992 := by
    unfold top bot
    split
    · rename_i h; omega
    · omega
  have d5 : 4 * m * a ≤ (top m - bot E m) * a * 9007199254740992 := by
    have := Nat.mul_le_mul_right a d4
    rw [Nat.mul_right_comm (top m - bot E m)] at this
    exact this
  have d6 := Nat.mul_le_mul_right 9007199254740992 d3
  have d7 : 100000000000000000 * b ≤ W * b := Nat.mul_le_mul_right _ hW1
  omega
end Go.Proofs.YtmfnjmgdindlaaaDoor.Rd
