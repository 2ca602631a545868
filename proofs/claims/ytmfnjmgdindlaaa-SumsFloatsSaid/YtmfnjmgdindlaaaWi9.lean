/-
  Plain mathematics of words of 64 bits: a shifted number added word by word, digits, what lies below a digit, the first digits, the rounding of package sums.
-/
import Derived.Test.YtmfnjmgdindlaaaNof
import Derived.Test.YtmfnjmgdindlaaaEx9
namespace Go.Proofs.Ytmfnjmgdindlaaa.Wi
open Go.Proofs.Ytmfnjmgdindlaaa (W64 W64_0 W64_2 wd64 W64_pow)

section add
variable (n Y i : Nat)
def X : Nat := Y * W64 ^ i
theorem X_low {j : Nat} (h : j < i) : Wd.wd W64 (X Y i) j = 0 := Wd.wd_shift_low W64_0 _ _ _ h
theorem X_at (t : Nat) : Wd.wd W64 (X Y i) (i + t) = Wd.wd W64 Y t := Wd.wd_shift W64_0 _ _ _
theorem X_mod {j : Nat} (h : j ≤ i) : X Y i % W64 ^ j = 0 := by
  unfold X
  rw [show i = (i - j) + j by omega, Nat.pow_add, ← Nat.mul_assoc, Nat.mul_mod_left]
theorem ca_low {j : Nat} (h : j ≤ i) : Wd.ca W64 n (X Y i) j = 0 := by
  unfold Wd.ca
  rw [X_mod Y i h, Nat.add_zero]
  exact Nat.div_eq_of_lt (Nat.mod_lt _ (Nat.pow_pos W64_0))
theorem ad_low {j : Nat} (h : j < i) : Wd.wd W64 (n + X Y i) j = Wd.wd W64 n j := by
  rw [Wd.ca_word W64_0, X_low Y i h, ca_low n Y i (by omega)]
  exact Nat.mod_eq_of_lt (Wd.wd_lt W64_0 _ _)
theorem ad_0 : Wd.wd W64 (n + X Y i) i = (Wd.wd W64 n i + Y % W64) % W64 ∧ Wd.ca W64 n (X Y i) (i + 1) = (Wd.wd W64 n i + Y % W64) / W64 := by
  have e : Wd.wd W64 (X Y i) i = Y % W64 := by
    have := X_at Y i 0
    rw [Nat.add_zero] at this
    rw [this]; unfold Wd.wd; rw [Nat.pow_zero, Nat.div_one]
  rw [Wd.ca_word W64_0, Wd.ca_succ W64_0, e, ca_low n Y i (Nat.le_refl _)]
  exact ⟨rfl, rfl⟩
theorem ad_1 (hY : Y < W64 * W64) : Wd.wd W64 (n + X Y i) (i + 1) = (Wd.wd W64 n (i + 1) + Y / W64 + Wd.ca W64 n (X Y i) (i + 1)) % W64 ∧
    Wd.ca W64 n (X Y i) (i + 2) = (Wd.wd W64 n (i + 1) + Y / W64 + Wd.ca W64 n (X Y i) (i + 1)) / W64 := by
  have e : Wd.wd W64 (X Y i) (i + 1) = Y / W64 := by
    rw [X_at Y i 1]; unfold Wd.wd; rw [Nat.pow_one]
    exact Nat.mod_eq_of_lt ((Nat.div_lt_iff_lt_mul W64_0).2 hY)
  rw [Wd.ca_word W64_0, show i + 2 = i + 1 + 1 from rfl, Wd.ca_succ W64_0 _ _ (i + 1), e]
  exact ⟨rfl, rfl⟩
theorem ad_2 (hY : Y < W64 * W64) {j : Nat} (h : i + 2 ≤ j) : Wd.wd W64 (n + X Y i) j = (Wd.wd W64 n j + Wd.ca W64 n (X Y i) j) % W64 ∧
    Wd.ca W64 n (X Y i) (j + 1) = (Wd.wd W64 n j + Wd.ca W64 n (X Y i) j) / W64 := by
  have e : Wd.wd W64 (X Y i) j = 0 := by
    rw [show j = i + (j - i) by omega, X_at Y i (j - i)]
    exact Wd.wd_big' W64_0 (i := 2) (by rw [Nat.pow_two]; exact hY) (by omega)
  have h1 := Wd.ca_word W64_0 n (X Y i) j
  have h2 := Wd.ca_succ W64_0 n (X Y i) j
  generalize Wd.wd W64 (X Y i) j = q at *
  subst e
  generalize Wd.wd W64 n j = a at *
  generalize Wd.ca W64 n (X Y i) j = c at *
  exact ⟨h1, h2⟩
theorem ad_z (hY : Y < W64 * W64) {j : Nat} (h : i + 2 ≤ j) (h0 : Wd.ca W64 n (X Y i) j = 0) : Wd.wd W64 (n + X Y i) j = Wd.wd W64 n j ∧ Wd.ca W64 n (X Y i) (j + 1) = 0 := by
  obtain ⟨h1, h2⟩ := ad_2 n Y i hY h
  have hl := Wd.wd_lt W64_0 n j
  generalize Wd.wd W64 n j = a at *
  generalize Wd.ca W64 n (X Y i) j = c at *
  subst h0
  exact ⟨h1.trans (Nat.mod_eq_of_lt hl), h2.trans (Nat.div_eq_of_lt hl)⟩
theorem ad_end (hY : Y < W64 * W64) {j : Nat} (h : i + 2 ≤ j) (h0 : Wd.ca W64 n (X Y i) j = 0) : ∀ t, Wd.ca W64 n (X Y i) (j + t) = 0
  | 0 => h0
  | t + 1 => (ad_z n Y i hY (j := j + t) (by omega) (ad_end hY h h0 t)).2
theorem ad_rest (hY : Y < W64 * W64) {j k : Nat} (h : i + 2 ≤ j) (h0 : Wd.ca W64 n (X Y i) j = 0) (hk : j ≤ k) : Wd.wd W64 (n + X Y i) k = Wd.wd W64 n k := by
  have := ad_end n Y i hY h h0 (k - j)
  rw [show j + (k - j) = k by omega] at this
  exact (ad_z n Y i hY (by omega) this).1
theorem ca_in {k j : Nat} (h : n + X Y i < W64 ^ k) (hc : Wd.ca W64 n (X Y i) j ≠ 0) : j < k := by
  apply Nat.lt_of_not_le
  intro hk
  apply hc
  unfold Wd.ca
  apply Nat.div_eq_of_lt
  have h1 := Nat.mod_le n (W64 ^ j)
  have h2 := Nat.mod_le (X Y i) (W64 ^ j)
  have h3 : W64 ^ k ≤ W64 ^ j := Nat.pow_le_pow_right W64_0 hk
  omega
/-- the words while it is added: those below c are done -/
def ad (c j : Nat) : Nat := if j < c then Wd.wd W64 (n + X Y i) j else Wd.wd W64 n j
end add
theorem shl_parts {m r : Nat} (hm : m < 9007199254740992) (hr : r < 64) : m * 2 ^ r < W64 * W64 ∧ m * 2 ^ r / W64 = m / 2 ^ (64 - r) := by
  have hp : 2 ^ r ≤ 2 ^ 63 := Nat.pow_le_pow_right (by decide) (by omega)
  have h1 : m * 2 ^ r ≤ 9007199254740992 * 2 ^ 63 := Nat.mul_le_mul (by omega) hp
  refine ⟨Nat.lt_of_le_of_lt h1 (by decide), ?_⟩
  rw [show W64 = 2 ^ (64 - r) * 2 ^ r by rw [← Nat.pow_add, show 64 - r + r = 64 by omega]; rfl, Nat.mul_div_mul_right _ _ (Nat.two_pow_pos r)]
theorem X_eq (m s : Nat) : X (m * 2 ^ (s % 64)) (s / 64) = m * 2 ^ s := by
  unfold X
  rw [W64_pow, Nat.mul_assoc, ← Nat.pow_add]
  congr 2; omega

theorem digit_word (n k : Nat) : Wd.wd W64 n (k / 64) / 2 ^ (k % 64) % 2 = n / 2 ^ k % 2 := by
  have hs : k % 64 < 64 := by omega
  unfold Wd.wd
  generalize hj : k / 64 = j
  generalize hss : k % 64 = s at *
  have hk : k = 64 * j + s := by omega
  have e : W64 = 2 ^ s * 2 ^ (64 - s) := by rw [← Nat.pow_add, show s + (64 - s) = 64 by omega]; rfl
  conv => lhs; rw [W64_pow, e]
  rw [Nat.mod_mul_right_div_self, Nat.mod_mod_of_dvd _ (by exact ⟨2 ^ (63 - s), by rw [← Nat.pow_succ', show (63 - s).succ = 64 - s by omega]⟩), Nat.div_div_eq_div_mul, ← Nat.pow_add, hk]
/-- whether something stands below a digit -/
theorem below_word (n k : Nat) : n % 2 ^ k = n % W64 ^ (k / 64) + W64 ^ (k / 64) * (Wd.wd W64 n (k / 64) % 2 ^ (k % 64)) := by
  have hs : k % 64 < 64 := by omega
  generalize hj : k / 64 = j
  generalize hss : k % 64 = s at *
  have hk : k = 64 * j + s := by omega
  rw [hk, Nat.pow_add, ← W64_pow, Nat.mod_mul]
  unfold Wd.wd
  rw [Nat.mod_mod_of_dvd _ (show 2 ^ s ∣ W64 from ⟨2 ^ (64 - s), by rw [← Nat.pow_add, show s + (64 - s) = 64 by omega]; rfl⟩)]
theorem low_zero (n : Nat) : ∀ j, (∀ t, t < j → Wd.wd W64 n t = 0) → n % W64 ^ j = 0
  | 0, _ => by rw [Nat.pow_zero, Nat.mod_one]
  | j + 1, h => by
    rw [Wd.mod_step, low_zero n j (fun t ht => h t (by omega)), h j (by omega)]; rfl
theorem low_some {n j t : Nat} (ht : t < j) (h : Wd.wd W64 n t ≠ 0) : n % W64 ^ j ≠ 0 := by
  intro h0
  apply h
  unfold Wd.wd
  have e : n / W64 ^ t % W64 = n % W64 ^ j / W64 ^ t % W64 := by
    rw [show j = t + (1 + (j - t - 1)) by omega, Nat.pow_add, Nat.mod_mul_right_div_self, Nat.pow_add, Nat.pow_one, Nat.mod_mul_right_mod]
  rw [e, h0, Nat.zero_div, Nat.zero_mod]
theorem halved_word {n d : Nat} (h : n / 2 ^ d < 9007199254740992) : Wd.wd W64 n (d / 64) / 2 ^ (d % 64) + (Wd.wd W64 n (d / 64 + 1) * 2 ^ (64 - d % 64)) % W64 = n / 2 ^ d ∧ Wd.wd W64 n (d / 64) / 2 ^ (d % 64) < 2 ^ (64 - d % 64) := by
  have hs : d % 64 < 64 := by omega
  generalize hj : d / 64 = j
  generalize hss : d % 64 = s at *
  have hk : d = 64 * j + s := by omega
  have e64 : W64 = 2 ^ s * 2 ^ (64 - s) := by rw [← Nat.pow_add, show s + (64 - s) = 64 by omega]; rfl
  have e1 : n / 2 ^ d = n / W64 ^ j / 2 ^ s := by rw [hk, Nat.pow_add, ← W64_pow, Nat.div_div_eq_div_mul]
  rw [e1] at h ⊢
  have e2 : Wd.wd W64 n (j + 1) = n / W64 ^ j / W64 % W64 := by unfold Wd.wd; rw [Nat.pow_succ, Nat.div_div_eq_div_mul]
  unfold Wd.wd at e2 ⊢
  rw [e2]
  generalize n / W64 ^ j = q at *
  have hp := Nat.two_pow_pos s
  have hp2 := Nat.two_pow_pos (64 - s)
  have hb : q % W64 / 2 ^ s < 2 ^ (64 - s) := by
    rw [Nat.div_lt_iff_lt_mul hp, Nat.mul_comm, ← e64]; exact Nat.mod_lt _ W64_0
  refine ⟨?_, hb⟩
  have hq : q < 9007199254740992 * 2 ^ s := (Nat.div_lt_iff_lt_mul hp).1 h
  have hs63 : 2 ^ s ≤ 2 ^ 63 := Nat.pow_le_pow_right (by decide) (by omega)
  have hqW : q / W64 < W64 := by
    rw [Nat.div_lt_iff_lt_mul W64_0]
    exact Nat.lt_of_lt_of_le hq (Nat.le_trans (Nat.mul_le_mul_left _ hs63) (by decide))
  have e3 : q / 2 ^ s = q % W64 / 2 ^ s + q / W64 * 2 ^ (64 - s) := by
    conv => lhs; rw [← Nat.div_add_mod q W64, e64]
    rw [Nat.mul_assoc, Nat.mul_comm (2 ^ s), Nat.add_comm, Nat.add_mul_div_right _ _ hp, ← e64, Nat.mul_comm (2 ^ (64 - s))]
  have h5 : q / W64 * 2 ^ (64 - s) < W64 := by
    have : q / W64 * 2 ^ (64 - s) ≤ q / 2 ^ s := e3 ▸ Nat.le_add_left _ _
    exact Nat.lt_of_le_of_lt this (Nat.lt_of_lt_of_le h (by decide))
  rw [Nat.mod_eq_of_lt hqW, Nat.mod_eq_of_lt h5]
  exact e3.symm
/-- whether the rounding goes up, by the digits -/
def goesUp (n d : Nat) : Bool := (n / 2 ^ (d - 1) % 2 == 1) && ((n / 2 ^ d % 2 == 1) || (n % 2 ^ (d - 1) != 0))
theorem goesUp_rhe (n k : Nat) : n / 2 ^ (k + 1) + (goesUp n (k + 1)).toNat = Ari.rhe n (k + 1) := by
  unfold goesUp Ari.rhe
  rw [show k + 1 - 1 = k by omega]
  congr 2
  have e : n % 2 ^ (k + 1) = n % 2 ^ k + 2 ^ k * (n / 2 ^ k % 2) := by rw [Nat.pow_succ, Nat.mod_mul]
  rw [e, Nat.pow_succ]
  have hr : n % 2 ^ k < 2 ^ k := Nat.mod_lt _ (Nat.two_pow_pos k)
  generalize n % 2 ^ k = r at *
  generalize n / (2 ^ k * 2) % 2 = o at *
  have h2 : n / 2 ^ k % 2 = 0 ∨ n / 2 ^ k % 2 = 1 := by omega
  generalize n / 2 ^ k % 2 = b at *
  generalize 2 ^ k = H at *
  rw [Bool.eq_iff_iff]
  simp only [Bool.and_eq_true, Bool.or_eq_true, beq_iff_eq, bne_iff_ne, decide_eq_true_eq, ne_eq]
  rcases h2 with rfl | rfl <;> omega
end Go.Proofs.Ytmfnjmgdindlaaa.Wi
