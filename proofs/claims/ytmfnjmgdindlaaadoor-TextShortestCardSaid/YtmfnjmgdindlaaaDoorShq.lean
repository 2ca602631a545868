/-
  The shortest decimal of a float's size: the digits of its exact value, held against its 18 digits. Plain.
-/
import Derived.Test.YtmfnjmgdindlaaaDoorShp
namespace Go.Proofs.YtmfnjmgdindlaaaDoor.Rd
/-- a quotient hangs on the ratio alone -/
theorem div_ratio {a b c d : Nat} (hb : 0 < b) (hd : 0 < d) (h : a * d = c * b) : a / b = c / d ∧ (a % b = 0 ↔ c % d = 0) := by
  have e1 : a * d / (b * d) = a / b := Nat.mul_div_mul_right a b hd
  have e2 : c * b / (d * b) = c / d := Nat.mul_div_mul_right c d hb
  have e3 : a / b = c / d := by rw [← e1, ← e2, h, Nat.mul_comm b d]
  refine ⟨e3, ?_⟩
  have m1 : a * d % (b * d) = a % b * d := Nat.mul_mod_mul_right d a b
  have m2 : c * b % (d * b) = c % d * b := Nat.mul_mod_mul_right b c d
  have e : a % b * d = c % d * b := by rw [← m1, ← m2, h, Nat.mul_comm b d]
  constructor
  · intro h0
    rw [h0, Nat.zero_mul] at e
    rcases Nat.mul_eq_zero.1 e.symm with h1 | h1
    · exact h1
    · omega
  · intro h0
    rw [h0, Nat.zero_mul] at e
    rcases Nat.mul_eq_zero.1 e with h1 | h1
    · exact h1
    · omega
def gg (Q : Nat) (t : Int) : Nat := 10 ^ (t + Q).toNat
theorem gg_pos (Q : Nat) (t : Int) : 0 < gg Q t := Nat.pow_pos (by decide)
theorem sfg {P Q : Nat} {e t : Int} (he : -(P : Int) ≤ e) (ht : -(Q : Int) ≤ t) : sU e t * (gg Q t * 2 ^ P) = sD e t * (2 ^ (e + P).toNat * 10 ^ Q) := by
  unfold sU sD gg
  have h1 : 10 ^ (-t).toNat * 10 ^ (t + Q).toNat = 10 ^ t.toNat * 10 ^ Q := by rw [← Nat.pow_add, ← Nat.pow_add]; congr 1; omega
  have h2 : 2 ^ e.toNat * 2 ^ P = 2 ^ (-e).toNat * 2 ^ (e + P).toNat := by rw [← Nat.pow_add, ← Nat.pow_add]; congr 1; omega
  generalize 10 ^ (-t).toNat = a at *
  generalize 10 ^ (t + Q).toNat = b at *
  generalize 10 ^ t.toNat = c at *
  generalize 10 ^ Q = d at *
  generalize 2 ^ e.toNat = f at *
  generalize 2 ^ P = g at *
  generalize 2 ^ (-e).toNat = h at *
  generalize 2 ^ (e + P).toNat = k at *
  have e1 : a * f * (b * g) = (a * b) * (f * g) := by ac_rfl
  have e2 : c * h * (k * d) = (c * d) * (h * k) := by ac_rfl
  rw [e1, e2, h1, h2]
/-- the exact value: digits and the power of ten -/
def exA (m : Nat) (p : Int) : Nat := if 0 ≤ p then m * 2 ^ p.toNat else m * 5 ^ (-p).toNat
def exX (p : Int) : Int := if 0 ≤ p then 0 else p
theorem exval {m P Q : Nat} {p : Int} (hp : -(P : Int) ≤ p - 2) (hx : -(Q : Int) ≤ exX p) : 4 * m * (2 ^ (p - 2 + P).toNat * 10 ^ Q) = exA m p * (gg Q (exX p) * 2 ^ P) := by
  unfold exA gg
  unfold exX at *
  by_cases h : 0 ≤ p
  · rw [if_pos h, if_pos h, show ((0 : Int) + Q).toNat = Q by omega]
    have h2 : 4 * 2 ^ (p - 2 + P).toNat = 2 ^ p.toNat * 2 ^ P := by
      rw [show (4 : Nat) = 2 ^ 2 from rfl, ← Nat.pow_add, ← Nat.pow_add]; congr 1; omega
    generalize 10 ^ Q = d
    generalize 2 ^ (p - 2 + P).toNat = a at *
    generalize 2 ^ p.toNat = b at *
    generalize 2 ^ P = c at *
    have e1 : 4 * m * (a * d) = 4 * a * (m * d) := by ac_rfl
    have e2 : m * b * (d * c) = b * c * (m * d) := by ac_rfl
    rw [e1, e2, h2]
  · rw [if_neg h, if_neg h]
    rw [if_neg h] at hx
    have h2 : 4 * 2 ^ (p - 2 + P).toNat * 2 ^ (-p).toNat = 2 ^ P := by
      rw [show (4 : Nat) = 2 ^ 2 from rfl, ← Nat.pow_add, ← Nat.pow_add]; congr 1; omega
    have h3 : 10 ^ Q = 10 ^ (p + Q).toNat * (2 ^ (-p).toNat * 5 ^ (-p).toNat) := by
      rw [← Nat.mul_pow, ← Nat.pow_add]; congr 1; omega
    rw [h3, ← h2]
    generalize 10 ^ (p + Q).toNat = d
    generalize 2 ^ (p - 2 + P).toNat = a
    generalize 2 ^ (-p).toNat = b
    generalize 5 ^ (-p).toNat = c
    ac_rfl
theorem wh_eq {m P Q : Nat} {p t : Int} (hp : -(P : Int) ≤ p - 2) (hx : -(Q : Int) ≤ exX p) (ht : -(Q : Int) ≤ t) : 4 * m * sU (p - 2) t * gg Q t = exA m p * gg Q (exX p) * sD (p - 2) t := by
  have h1 := sfg hp ht
  have h2 := exval (m := m) hp hx
  have hP : 0 < 2 ^ P := Nat.two_pow_pos P
  apply Nat.eq_of_mul_eq_mul_right hP
  generalize sU (p - 2) t = a at *
  generalize sD (p - 2) t = b at *
  generalize gg Q t = c at *
  generalize gg Q (exX p) = d at *
  generalize 2 ^ P = f at *
  generalize 2 ^ (p - 2 + P).toNat = g at *
  generalize 10 ^ Q = h at *
  generalize exA m p = A at *
  have e1 : 4 * m * a * c * f = 4 * m * (a * (c * f)) := by ac_rfl
  have e2 : A * d * b * f = b * (A * (d * f)) := by ac_rfl
  rw [e1, e2, h1, ← h2]
  ac_rfl
theorem pow10_lt {a b : Nat} (h : 10 ^ a < 10 ^ b) : a < b := (Nat.pow_lt_pow_iff_right (by decide)).1 h
/-- the unit is the one that leaves 18 digits -/
theorem unit_eq {m P Q L : Nat} {p t : Int} (hp : -(P : Int) ≤ p - 2) (hx : -(Q : Int) ≤ exX p) (ht : -(Q : Int) ≤ t) (hL : 1 ≤ L) (hA1 : 10 ^ (L - 1) ≤ exA m p) (hA2 : exA m p < 10 ^ L)
    (h1 : 10 ^ 17 ≤ 4 * m * sU (p - 2) t / sD (p - 2) t) (h2 : 4 * m * sU (p - 2) t / sD (p - 2) t < 10 ^ 18) : t + 18 = exX p + L := by
  have e := (div_ratio (sD_pos (p - 2) t) (gg_pos Q t) (wh_eq (m := m) hp hx ht)).1
  rw [e] at h1 h2
  rw [Nat.le_div_iff_mul_le (gg_pos Q t)] at h1
  rw [Nat.div_lt_iff_lt_mul (gg_pos Q t)] at h2
  have g1 : exA m p * gg Q (exX p) < 10 ^ L * gg Q (exX p) := Nat.mul_lt_mul_of_pos_right hA2 (gg_pos _ _)
  have g2 : 10 ^ (L - 1) * gg Q (exX p) ≤ exA m p * gg Q (exX p) := Nat.mul_le_mul_right _ hA1
  unfold gg at *
  have k1 : 10 ^ (17 + (t + Q).toNat) < 10 ^ (L + (exX p + Q).toNat) := by
    rw [Nat.pow_add, Nat.pow_add]; omega
  have k2 : 10 ^ (L - 1 + (exX p + Q).toNat) < 10 ^ (18 + (t + Q).toNat) := by
    rw [Nat.pow_add, Nat.pow_add]; omega
  have k3 := pow10_lt k1
  have k4 := pow10_lt k2
  omega
theorem whole_of {m P Q L : Nat} {p t : Int} (hp : -(P : Int) ≤ p - 2) (hx : -(Q : Int) ≤ exX p) (ht : -(Q : Int) ≤ t) (hu : t + 18 = exX p + L) :
    (18 ≤ L → 4 * m * sU (p - 2) t / sD (p - 2) t = exA m p / 10 ^ (L - 18) ∧ (4 * m * sU (p - 2) t % sD (p - 2) t = 0 ↔ exA m p % 10 ^ (L - 18) = 0)) ∧
    (L ≤ 18 → 4 * m * sU (p - 2) t / sD (p - 2) t = exA m p * 10 ^ (18 - L) ∧ 4 * m * sU (p - 2) t % sD (p - 2) t = 0) := by
  have w := wh_eq (m := m) hp hx ht
  constructor
  · intro hL
    have e : gg Q t = gg Q (exX p) * 10 ^ (L - 18) := by
      unfold gg; rw [← Nat.pow_add]; congr 1; omega
    have w2 : 4 * m * sU (p - 2) t * 10 ^ (L - 18) = exA m p * sD (p - 2) t := by
      apply Nat.eq_of_mul_eq_mul_right (gg_pos Q (exX p))
      rw [e] at w
      have e1 : 4 * m * sU (p - 2) t * 10 ^ (L - 18) * gg Q (exX p) = 4 * m * sU (p - 2) t * (gg Q (exX p) * 10 ^ (L - 18)) := by
        generalize gg Q (exX p) = a; generalize 10 ^ (L - 18) = b; ac_rfl
      rw [e1, w]
      exact Nat.mul_right_comm _ _ _
    exact div_ratio (sD_pos _ _) (Nat.pow_pos (by decide)) w2
  · intro hL
    have e : gg Q (exX p) = gg Q t * 10 ^ (18 - L) := by
      unfold gg; rw [← Nat.pow_add]; congr 1; omega
    have w2 : 4 * m * sU (p - 2) t * 1 = exA m p * 10 ^ (18 - L) * sD (p - 2) t := by
      apply Nat.eq_of_mul_eq_mul_right (gg_pos Q t)
      rw [e] at w
      rw [Nat.mul_one, w]
      generalize gg Q t = a; generalize 10 ^ (18 - L) = b; ac_rfl
    have d := div_ratio (sD_pos _ _) (by decide : 0 < 1) w2
    rw [Nat.div_one, Nat.mod_one] at d
    exact ⟨d.1, d.2.2 rfl⟩
/-- nearer to the greater one, or as near and the even one -/
def nh (W : Nat) (X : Bool) (g : Nat) : Bool := if W % g = g / 2 ∧ X = true then W / g % 2 == 1 else decide (g / 2 ≤ W % g)
/-- the first k of the L digits of A -/
theorem lead {A L k : Nat} (hkL : k ≤ L) (hk : k ≤ 18) (W : Nat) (X : Bool) (hbig : 18 ≤ L → W = A / 10 ^ (L - 18) ∧ (X = true ↔ A % 10 ^ (L - 18) = 0)) (hsm : L ≤ 18 → W = A * 10 ^ (18 - L) ∧ X = true) :
    W / 10 ^ (18 - k) = A / 10 ^ (L - k) := by
  by_cases h : 18 ≤ L
  · rw [(hbig h).1, Nat.div_div_eq_div_mul, ← Nat.pow_add]
    congr 2
    omega
  · rw [(hsm (by omega)).1]
    have e : 10 ^ (18 - k) = 10 ^ (L - k) * 10 ^ (18 - L) := by rw [← Nat.pow_add]; congr 1; omega
    rw [e]
    exact Nat.mul_div_mul_right _ _ (Nat.pow_pos (by decide))
theorem nh_iff {A L k : Nat} (hkL : k < L) (hk : k < 18) (W : Nat) (X : Bool) (hbig : 18 ≤ L → W = A / 10 ^ (L - 18) ∧ (X = true ↔ A % 10 ^ (L - 18) = 0)) (hsm : L ≤ 18 → W = A * 10 ^ (18 - L) ∧ X = true) :
    nh W X (10 ^ (18 - k)) = true ↔ (10 ^ (L - k) < 2 * (A % 10 ^ (L - k)) ∨ (10 ^ (L - k) = 2 * (A % 10 ^ (L - k)) ∧ A / 10 ^ (L - k) % 2 = 1)) := by
  have hl := lead (Nat.le_of_lt hkL) (Nat.le_of_lt hk) W X hbig hsm
  unfold nh
  rw [hl]
  obtain ⟨j, hj⟩ : ∃ j, 18 - k = j + 1 := ⟨17 - k, by omega⟩
  have hev : 10 ^ (18 - k) = 2 * (5 * 10 ^ j) := by rw [hj, Nat.pow_succ]; omega
  by_cases h : 18 ≤ L
  · obtain ⟨hW, hX⟩ := hbig h
    have hc : 0 < 10 ^ (L - 18) := Nat.pow_pos (by decide)
    have e : 10 ^ (L - k) = 10 ^ (18 - k) * 10 ^ (L - 18) := by rw [← Nat.pow_add]; congr 1; omega
    have hm : A % 10 ^ (L - k) = W % 10 ^ (18 - k) * 10 ^ (L - 18) + A % 10 ^ (L - 18) := by
      rw [e, hW, Nat.mul_comm (10 ^ (18 - k)), Nat.mod_mul]
      rw [Nat.mul_comm (10 ^ (L - 18)) (A / 10 ^ (L - 18) % 10 ^ (18 - k))]
      omega
    have hr : A % 10 ^ (L - 18) < 10 ^ (L - 18) := Nat.mod_lt _ hc
    rw [hm, e]
    generalize A / (10 ^ (18 - k) * 10 ^ (L - 18)) = y
    generalize A % 10 ^ (L - 18) = r at *
    rw [hev]
    generalize W % (2 * (5 * 10 ^ j)) = q
    generalize 10 ^ (L - 18) = c at *
    rw [show 2 * (5 * 10 ^ j) / 2 = 5 * 10 ^ j by omega]
    generalize 5 * 10 ^ j = hh
    have k1 : 2 * hh * c = 2 * (hh * c) := Nat.mul_assoc ..
    rw [k1]
    have m1 : q < hh → q * c + c ≤ hh * c := fun hq => by
      have := Nat.mul_le_mul_right c (show q + 1 ≤ hh by omega)
      rw [Nat.add_mul, Nat.one_mul] at this; exact this
    have m2 : hh < q → hh * c + c ≤ q * c := fun hq => by
      have := Nat.mul_le_mul_right c (show hh + 1 ≤ q by omega)
      rw [Nat.add_mul, Nat.one_mul] at this; exact this
    have m3 : q = hh → q * c = hh * c := fun hq => by rw [hq]
    generalize q * c = qc at *
    generalize hh * c = hc2 at *
    by_cases hq : q = hh
    · have := m3 hq
      by_cases hX1 : X = true
      · have hr0 := hX.1 hX1
        rw [if_pos ⟨hq, hX1⟩, beq_iff_eq]
        omega
      · have hr0 : r ≠ 0 := fun e => hX1 (hX.2 e)
        rw [if_neg (fun e => hX1 e.2), decide_eq_true_eq]
        omega
    · rw [if_neg (fun e => hq e.1), decide_eq_true_eq]
      rcases Nat.lt_or_gt_of_ne hq with h1 | h1
      · have := m1 h1; omega
      · have := m2 h1; omega
  · obtain ⟨hW, hX⟩ := hsm (by omega)
    have hc : 0 < 10 ^ (18 - L) := Nat.pow_pos (by decide)
    have e : 10 ^ (18 - k) = 10 ^ (L - k) * 10 ^ (18 - L) := by rw [← Nat.pow_add]; congr 1; omega
    obtain ⟨i, hi⟩ : ∃ i, L - k = i + 1 := ⟨L - k - 1, by omega⟩
    have hev2 : 10 ^ (L - k) = 2 * (5 * 10 ^ i) := by rw [hi, Nat.pow_succ]; omega
    have hm : W % 10 ^ (18 - k) = A % 10 ^ (L - k) * 10 ^ (18 - L) := by
      rw [hW, e]; exact Nat.mul_mod_mul_right _ _ _
    have hh2 : 10 ^ (18 - k) / 2 = 5 * 10 ^ i * 10 ^ (18 - L) := by
      rw [e, hev2, Nat.mul_assoc]; omega
    rw [hm, hh2, hX]
    generalize A / 10 ^ (L - k) = y
    rw [hev2]
    generalize A % (2 * (5 * 10 ^ i)) = q
    generalize 5 * 10 ^ i = hh
    generalize 10 ^ (18 - L) = c at *
    have m0 : q * c = hh * c ↔ q = hh := ⟨fun h => Nat.eq_of_mul_eq_mul_right hc h, fun h => by rw [h]⟩
    have m1 : hh * c ≤ q * c ↔ hh ≤ q := Nat.mul_le_mul_right_iff hc
    by_cases hq : q = hh
    · rw [if_pos ⟨m0.2 hq, rfl⟩, beq_iff_eq]
      omega
    · rw [if_neg (fun e => hq (m0.1 e.1)), decide_eq_true_eq, m1]
      omega
end Go.Proofs.YtmfnjmgdindlaaaDoor.Rd
