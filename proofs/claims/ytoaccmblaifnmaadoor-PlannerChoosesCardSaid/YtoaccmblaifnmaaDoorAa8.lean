/-
  Plain mathematics of whole numbers kept as words to a base b: tables, how many words, what each word is, products by a word, sums, differences, doubling, halving. No condition; nothing of the program.
-/
import Derived.Test.YtoaccmblaifnmaaDoorProg
import Derived.Test.YtoaccmblaifnmaaDoorWrd
import Derived.WalkLawsBesides
import Derived.Outline
import Derived.Deep.QuietTactic
import Derived.BigQuiet
import Derived.WalkSmall
namespace Go.Proofs.YtoaccmblaifnmaaDoor.Wd

def tab (k : Nat) (g : Nat → Nat) : List Nat := (List.range k).map g
theorem tab_len (k : Nat) (g : Nat → Nat) : (tab k g).length = k := by simp [tab]
theorem tab_get {k i : Nat} (g : Nat → Nat) (h : i < k) : (tab k g)[i]? = some (g i) := by simp [tab, h]
theorem tab_getD {k i : Nat} (g : Nat → Nat) (h : i < k) : (tab k g).getD i 0 = g i := by simp [tab, List.getD, h]
theorem tab_succ (k : Nat) (g : Nat → Nat) : tab (k + 1) g = tab k g ++ [g k] := by simp [tab, List.range_succ]
theorem tab_zero (g : Nat → Nat) : tab 0 g = [] := rfl
theorem tab_congr {k : Nat} {g h : Nat → Nat} (e : ∀ j, j < k → g j = h j) : tab k g = tab k h := by
  unfold tab
  exact List.map_congr_left fun j hj => e j (List.mem_range.1 hj)
theorem tab_set {k i : Nat} (g : Nat → Nat) (d : Nat) : (tab k g).set i d = tab k (fun j => if j = i then d else g j) := by
  apply List.ext_getElem?
  intro j
  rw [List.getElem?_set]
  by_cases hj : j < k
  · by_cases hi : i = j
    · subst hi; rw [tab_len, if_pos rfl, if_pos hj, tab_get _ hj, if_pos rfl]
    · rw [if_neg hi, tab_get _ hj, tab_get _ hj, if_neg (fun h => hi h.symm)]
  · rw [List.getElem?_eq_none (l := tab k _) (by rw [tab_len]; omega), List.getElem?_eq_none (l := tab k _) (by rw [tab_len]; omega), tab_len]
    by_cases hi : i = j
    · rw [if_pos hi, if_neg (by omega)]
    · rw [if_neg hi]
theorem tab_take {k i : Nat} (g : Nat → Nat) (h : i ≤ k) : (tab k g).take i = tab i g := by
  unfold tab
  rw [← List.map_take, List.take_range, Nat.min_eq_left h]

/-- word i of n -/
def wd (b n i : Nat) : Nat := n / b ^ i % b
def dl (b k n : Nat) : List Nat := tab k (wd b n)
theorem wd_lt {b : Nat} (hb : 0 < b) (n i : Nat) : wd b n i < b := Nat.mod_lt _ hb
theorem wd_big {b n i : Nat} (h : n < b ^ i) : wd b n i = 0 := by unfold wd; rw [Nat.div_eq_of_lt h]; simp
theorem wd_big' {b n i j : Nat} (hb : 0 < b) (h : n < b ^ i) (hij : i ≤ j) : wd b n j = 0 :=
  wd_big (Nat.lt_of_lt_of_le h (Nat.pow_le_pow_right hb hij))

/-- how many words n has -/
def nwF (b : Nat) : Nat → Nat → Nat
  | 0, _ => 0
  | f + 1, n => if n = 0 ∨ b < 2 then 0 else nwF b f (n / b) + 1
def nw (b n : Nat) : Nat := nwF b n n
theorem nwF_eq {b : Nat} (hb : 2 ≤ b) (f : Nat) : ∀ g n, n ≤ f → n ≤ g → nwF b f n = nwF b g n := by
  induction f with
  | zero =>
    intro g n h _
    have h0 : n = 0 := by omega
    subst h0
    cases g with
    | zero => rfl
    | succ g => simp [nwF]
  | succ f ih =>
    intro g n h h'
    cases g with
    | zero =>
      have h0 : n = 0 := by omega
      subst h0
      simp [nwF]
    | succ g =>
      by_cases h0 : n = 0
      · subst h0; simp [nwF]
      · have hlt : n / b < n := Nat.div_lt_self (by omega) (by omega)
        simp only [nwF]
        rw [if_neg (by omega), if_neg (by omega), ih g (n / b) (by omega) (by omega)]
theorem nw_zero (b : Nat) : nw b 0 = 0 := rfl
theorem nw_pos {b n : Nat} (hb : 2 ≤ b) (h : 0 < n) : nw b n = nw b (n / b) + 1 := by
  obtain ⟨m, rfl⟩ : ∃ m, n = m + 1 := ⟨n - 1, by omega⟩
  have hlt : (m + 1) / b < m + 1 := Nat.div_lt_self (by omega) (by omega)
  unfold nw
  rw [nwF, if_neg (by omega), nwF_eq hb m ((m + 1) / b) ((m + 1) / b) (by omega) (Nat.le_refl _)]
theorem lt_pow_nw {b : Nat} (hb : 2 ≤ b) (n : Nat) : n < b ^ nw b n := by
  induction n using Nat.strongRecOn with
  | ind n ih =>
    rcases Nat.eq_zero_or_pos n with h | h
    · subst h; rw [nw_zero]; simp
    · rw [nw_pos hb h, Nat.pow_succ]
      have := ih (n / b) (Nat.div_lt_self h (by omega))
      exact (Nat.div_lt_iff_lt_mul (by omega)).1 this
theorem pow_le_of_nw {b n : Nat} (hb : 2 ≤ b) (h : 0 < n) : b ^ (nw b n - 1) ≤ n := by
  induction n using Nat.strongRecOn with
  | ind n ih =>
    rw [nw_pos hb h, Nat.add_sub_cancel]
    rcases Nat.eq_zero_or_pos (n / b) with h0 | h0
    · rw [h0, nw_zero]; exact h
    · have := ih (n / b) (Nat.div_lt_self h (by omega)) h0
      have h1 : 1 ≤ nw b (n / b) := by rw [nw_pos hb h0]; omega
      have h2 : b ^ nw b (n / b) = b ^ (nw b (n / b) - 1) * b := by rw [← Nat.pow_succ]; congr 1; omega
      rw [h2]
      exact (Nat.le_div_iff_mul_le (by omega)).1 this
theorem nw_le {b n k : Nat} (hb : 2 ≤ b) (h : n < b ^ k) : nw b n ≤ k := by
  rcases Nat.eq_zero_or_pos n with h0 | h0
  · subst h0; rw [nw_zero]; omega
  · have := pow_le_of_nw hb h0
    have h2 : b ^ (nw b n - 1) < b ^ k := Nat.lt_of_le_of_lt this h
    have := (Nat.pow_lt_pow_iff_right (by omega : 1 < b)).1 h2
    omega
theorem nw_gt {b n k : Nat} (hb : 2 ≤ b) (h : b ^ k ≤ n) : k < nw b n := by
  have h1 := lt_pow_nw hb n
  exact (Nat.pow_lt_pow_iff_right (by omega : 1 < b)).1 (Nat.lt_of_le_of_lt h h1)
theorem nw_eq {b n k : Nat} (hb : 2 ≤ b) (h : n < b ^ k) (h' : k = 0 ∨ b ^ (k - 1) ≤ n) : nw b n = k := by
  have h1 := nw_le hb h
  rcases h' with h' | h'
  · omega
  · have := nw_gt hb h'
    omega
theorem nw_mono {b m n : Nat} (hb : 2 ≤ b) (h : m ≤ n) : nw b m ≤ nw b n := nw_le hb (Nat.lt_of_le_of_lt h (lt_pow_nw hb n))
theorem top_ne {b n : Nat} (hb : 2 ≤ b) (h : 0 < n) : wd b n (nw b n - 1) ≠ 0 := by
  unfold wd
  have h1 := pow_le_of_nw hb h
  have h2 := lt_pow_nw hb n
  have h3 : 0 < nw b n := by rw [nw_pos hb h]; omega
  have h4 : n / b ^ (nw b n - 1) < b := by
    apply (Nat.div_lt_iff_lt_mul (Nat.pow_pos (by omega))).2
    rw [Nat.mul_comm, ← Nat.pow_succ]
    rwa [show (nw b n - 1).succ = nw b n by omega]
  rw [Nat.mod_eq_of_lt h4]
  have := (Nat.le_div_iff_mul_le (Nat.pow_pos (by omega : 0 < b))).2 (by rwa [Nat.one_mul])
  omega
theorem nw_lt_of_top {b n k : Nat} (hb : 2 ≤ b) (h : n < b ^ (k + 1)) (h0 : wd b n k = 0) : n < b ^ k := by
  apply Nat.lt_of_not_le
  intro hc
  have : nw b n = k + 1 := nw_eq hb h (Or.inr hc)
  have hp : 0 < n := Nat.lt_of_lt_of_le (Nat.pow_pos (by omega)) hc
  have := top_ne hb hp
  rw [‹nw b n = k + 1›] at this
  exact this h0
theorem nw_of_top {b n k : Nat} (hb : 2 ≤ b) (h : n < b ^ (k + 1)) (h0 : wd b n k ≠ 0) : nw b n = k + 1 := by
  apply nw_eq hb h
  right
  apply Nat.le_of_not_lt
  intro hc
  exact h0 (wd_big hc)

theorem div_step (b n i : Nat) : n / b ^ (i + 1) = n / b ^ i / b := by rw [Nat.pow_succ, Nat.div_div_eq_div_mul]
theorem div_split {b : Nat} (n i : Nat) : n / b ^ i = n / b ^ (i + 1) * b + wd b n i := by
  unfold wd
  rw [div_step]
  have := Nat.div_add_mod (n / b ^ i) b
  rw [Nat.mul_comm] at this
  exact this.symm
theorem mod_step (b n i : Nat) : n % b ^ (i + 1) = n % b ^ i + b ^ i * wd b n i := by
  unfold wd
  rw [Nat.pow_succ, Nat.mod_mul]

/-- n x f + c, word by word: the carry behind i words -/
def cm (b n f c i : Nat) : Nat := (n % b ^ i * f + c) / b ^ i
theorem cm_zero (b n f c : Nat) : cm b n f c 0 = c := by unfold cm; simp [Nat.mod_one]
theorem cm_mid {b : Nat} (hb : 0 < b) (n f c i : Nat) : (n % b ^ (i + 1) * f + c) / b ^ i = wd b n i * f + cm b n f c i := by
  unfold cm
  rw [mod_step, Nat.add_mul, Nat.mul_assoc, Nat.add_right_comm, Nat.add_mul_div_left _ _ (Nat.pow_pos hb), Nat.add_comm]
theorem cm_succ {b : Nat} (hb : 0 < b) (n f c i : Nat) : cm b n f c (i + 1) = (wd b n i * f + cm b n f c i) / b := by
  rw [← cm_mid hb, cm, Nat.pow_succ, Nat.div_div_eq_div_mul]
theorem cm_word {b : Nat} (hb : 0 < b) (n f c i : Nat) : wd b (n * f + c) i = (wd b n i * f + cm b n f c i) % b := by
  rw [← cm_mid hb]
  unfold wd
  have e : n * f + c = (n % b ^ (i + 1) * f + c) + b ^ i * (b * (n / b ^ (i + 1) * f)) := by
    have h := Nat.div_add_mod n (b ^ (i + 1))
    have : n * f = (b ^ (i + 1) * (n / b ^ (i + 1)) + n % b ^ (i + 1)) * f := by rw [h]
    rw [this, Nat.add_mul, Nat.pow_succ]
    have : b ^ i * b * (n / (b ^ i * b)) * f = b ^ i * (b * (n / (b ^ i * b) * f)) := by simp only [Nat.mul_assoc]
    rw [this]; omega
  rw [e, Nat.add_mul_div_left _ _ (Nat.pow_pos hb), Nat.add_mul_mod_self_left]
theorem cm_lt {b n f c : Nat} (hb : 0 < b) (hf : f < b) (hc : c < b) (i : Nat) : cm b n f c i < b := by
  unfold cm
  apply (Nat.div_lt_iff_lt_mul (Nat.pow_pos hb)).2
  have h1 : n % b ^ i ≤ b ^ i - 1 := by have := Nat.mod_lt n (Nat.pow_pos hb : 0 < b ^ i); omega
  have h2 : n % b ^ i * f ≤ (b ^ i - 1) * (b - 1) := Nat.mul_le_mul h1 (by omega)
  have hp : 0 < b ^ i := Nat.pow_pos hb
  obtain ⟨p, hp'⟩ : ∃ p, b ^ i = p + 1 := ⟨b ^ i - 1, by omega⟩
  obtain ⟨q, hq⟩ : ∃ q, b = q + 1 := ⟨b - 1, by omega⟩
  rw [hp'] at h2 ⊢
  have : (p + 1 - 1) * (b - 1) = p * q := by rw [hq]; simp
  rw [this] at h2
  have : b * (p + 1) = q * p + q + p + 1 := by rw [hq, Nat.add_mul, Nat.mul_add]; omega
  rw [this, Nat.mul_comm q p]
  omega
theorem cm_end {b n f c k : Nat} (h : n < b ^ k) : cm b n f c k = (n * f + c) / b ^ k := by unfold cm; rw [Nat.mod_eq_of_lt h]

/-- sums -/
def ca (b m n i : Nat) : Nat := (m % b ^ i + n % b ^ i) / b ^ i
theorem ca_zero (b m n : Nat) : ca b m n 0 = 0 := by simp [ca, Nat.mod_one]
theorem ca_mid {b : Nat} (hb : 0 < b) (m n i : Nat) : (m % b ^ (i + 1) + n % b ^ (i + 1)) / b ^ i = wd b m i + wd b n i + ca b m n i := by
  unfold ca
  rw [mod_step, mod_step, show m % b ^ i + b ^ i * wd b m i + (n % b ^ i + b ^ i * wd b n i) = (m % b ^ i + n % b ^ i) + b ^ i * (wd b m i + wd b n i) by rw [Nat.mul_add]; omega,
    Nat.add_mul_div_left _ _ (Nat.pow_pos hb)]
  omega
theorem ca_succ {b : Nat} (hb : 0 < b) (m n i : Nat) : ca b m n (i + 1) = (wd b m i + wd b n i + ca b m n i) / b := by
  rw [← ca_mid hb, ca, Nat.pow_succ, Nat.div_div_eq_div_mul]
theorem ca_word {b : Nat} (hb : 0 < b) (m n i : Nat) : wd b (m + n) i = (wd b m i + wd b n i + ca b m n i) % b := by
  rw [← ca_mid hb]
  unfold wd
  have e : m + n = (m % b ^ (i + 1) + n % b ^ (i + 1)) + b ^ i * (b * (m / b ^ (i + 1) + n / b ^ (i + 1))) := by
    have h1 := Nat.div_add_mod m (b ^ (i + 1))
    have h2 := Nat.div_add_mod n (b ^ (i + 1))
    have : b ^ i * (b * (m / b ^ (i + 1) + n / b ^ (i + 1))) = b ^ (i + 1) * (m / b ^ (i + 1)) + b ^ (i + 1) * (n / b ^ (i + 1)) := by
      rw [← Nat.mul_assoc, ← Nat.pow_succ, Nat.mul_add]
    omega
  rw [e, Nat.add_mul_div_left _ _ (Nat.pow_pos hb), Nat.add_mul_mod_self_left]
theorem ca_le {b : Nat} (hb : 0 < b) (m n i : Nat) : ca b m n i ≤ 1 := by
  unfold ca
  have h1 := Nat.mod_lt m (Nat.pow_pos hb : 0 < b ^ i)
  have h2 := Nat.mod_lt n (Nat.pow_pos hb : 0 < b ^ i)
  have : (m % b ^ i + n % b ^ i) / b ^ i < 2 := (Nat.div_lt_iff_lt_mul (Nat.pow_pos hb)).2 (by omega)
  omega
theorem ca_end {b m n k : Nat} (h : m < b ^ k) (h' : n < b ^ k) : ca b m n k = (m + n) / b ^ k := by
  unfold ca; rw [Nat.mod_eq_of_lt h, Nat.mod_eq_of_lt h']

/-- differences: the borrow -/
def br (b m n i : Nat) : Nat := if m % b ^ i < n % b ^ i then 1 else 0
theorem br_zero (b m n : Nat) : br b m n 0 = 0 := by simp [br, Nat.mod_one]
theorem br_le (b m n i : Nat) : br b m n i ≤ 1 := by unfold br; split <;> omega
theorem br_key {b : Nat} (hb : 0 < b) (m n i : Nat) (h : n ≤ m) :
    wd b (m - n) i + wd b n i + br b m n i = wd b m i + b * br b m n (i + 1) := by
  have hp : 0 < b ^ i := Nat.pow_pos hb
  have a1 := mod_step b m i
  have a2 := mod_step b n i
  have a3 := mod_step b (m - n) i
  have l1 := Nat.mod_lt m hp
  have l2 := Nat.mod_lt n hp
  have l3 := Nat.mod_lt (m - n) hp
  have w1 := wd_lt hb m i
  have w2 := wd_lt hb n i
  have w3 := wd_lt hb (m - n) i
  have s0 : ((m - n) % b ^ i + n % b ^ i) % b ^ i = m % b ^ i := by rw [← Nat.add_mod, Nat.sub_add_cancel h]
  have s1 : ((m - n) % b ^ (i + 1) + n % b ^ (i + 1)) % b ^ (i + 1) = m % b ^ (i + 1) := by rw [← Nat.add_mod, Nat.sub_add_cancel h]
  have l4 := Nat.mod_lt m (Nat.pow_pos hb : 0 < b ^ (i + 1))
  have l5 := Nat.mod_lt n (Nat.pow_pos hb : 0 < b ^ (i + 1))
  have l6 := Nat.mod_lt (m - n) (Nat.pow_pos hb : 0 < b ^ (i + 1))
  have key : ∀ (P x y z : Nat), x < P → y < P → z < P → (x + y) % P = z → x + y = z + P * (if z < y then 1 else 0) := by
    intro P x y z hx hy hz hm
    by_cases hc : x + y < P
    · rw [Nat.mod_eq_of_lt hc] at hm
      rw [if_neg (by omega)]; omega
    · rw [Nat.mod_eq_sub_mod (by omega), Nat.mod_eq_of_lt (by omega)] at hm
      rw [if_pos (by omega)]; omega
  have k0 : (m - n) % b ^ i + n % b ^ i = m % b ^ i + b ^ i * br b m n i := key _ _ _ _ l3 l2 l1 s0
  have k1 : (m - n) % b ^ (i + 1) + n % b ^ (i + 1) = m % b ^ (i + 1) + b ^ (i + 1) * br b m n (i + 1) := key _ _ _ _ l6 l5 l4 s1
  rw [a1, a2, a3] at k1
  have e : b ^ i * (wd b (m - n) i + wd b n i + br b m n i) = b ^ i * (wd b m i + b * br b m n (i + 1)) := by
    simp only [Nat.mul_add]
    have : b ^ (i + 1) * br b m n (i + 1) = b ^ i * (b * br b m n (i + 1)) := by rw [Nat.pow_succ, Nat.mul_assoc]
    rw [this] at k1
    clear a1 a2 a3 s0 s1 l4 l5 l6 this key
    generalize (m - n) % b ^ i = x1 at *
    generalize n % b ^ i = x2 at *
    generalize m % b ^ i = x3 at *
    omega
  exact Nat.eq_of_mul_eq_mul_left hp e

/-- comparing from the top -/
theorem cmp_lt {b m n i : Nat} (h : m / b ^ (i + 1) = n / b ^ (i + 1)) (hd : wd b m i < wd b n i) : m < n := by
  have h1 := div_split (b := b) m i
  have h2 := div_split (b := b) n i
  rw [h] at h1
  have : m / b ^ i < n / b ^ i := by omega
  apply Nat.lt_of_not_le
  intro hc
  have := Nat.div_le_div_right (c := b ^ i) hc
  omega
theorem cmp_eq {b m n i : Nat} (h : m / b ^ (i + 1) = n / b ^ (i + 1)) (hd : wd b m i = wd b n i) : m / b ^ i = n / b ^ i := by
  rw [div_split (b := b) m i, div_split (b := b) n i, h, hd]

/-- n x 2^s, s below the word's size: word i out of words i and i - 1 (b = 2^e) -/
theorem shl_word {e s n i : Nat} (hs : s ≤ e) : wd (2 ^ e) (n * 2 ^ s) i = (wd (2 ^ e) n i * 2 ^ s) % 2 ^ e + (if i = 0 then 0 else wd (2 ^ e) n (i - 1) / 2 ^ (e - s)) := by
  have hb : 0 < 2 ^ e := Nat.two_pow_pos e
  have h := cm_word hb n (2 ^ s) 0 i
  rw [Nat.add_zero] at h
  rw [h]
  have hc : cm (2 ^ e) n (2 ^ s) 0 i = if i = 0 then 0 else wd (2 ^ e) n (i - 1) / 2 ^ (e - s) := by
    by_cases h0 : i = 0
    · subst h0; rw [cm_zero]; rfl
    · rw [if_neg h0]
      obtain ⟨j, rfl⟩ : ∃ j, i = j + 1 := ⟨i - 1, by omega⟩
      unfold cm wd
      rw [Nat.add_zero, Nat.add_sub_cancel]
      have e1 : ((2 ^ e) ^ (j + 1) : Nat) = (2 ^ e) ^ j * 2 ^ (e - s) * 2 ^ s := by
        rw [Nat.pow_succ, Nat.mul_assoc, ← Nat.pow_add]; congr 2; omega
      rw [e1, Nat.mul_div_mul_right _ _ (Nat.two_pow_pos s), ← e1, Nat.pow_succ, Nat.mod_mul]
      rw [← Nat.div_div_eq_div_mul, Nat.add_mul_div_left _ _ (Nat.pow_pos hb), Nat.div_eq_of_lt (Nat.mod_lt _ (Nat.pow_pos hb)), Nat.zero_add]
  rw [hc]
  have hlt : (if i = 0 then 0 else wd (2 ^ e) n (i - 1) / 2 ^ (e - s)) < 2 ^ s := by
    split
    · exact Nat.two_pow_pos s
    · apply (Nat.div_lt_iff_lt_mul (Nat.two_pow_pos _)).2
      rw [← Nat.pow_add, show s + (e - s) = e by omega]
      exact wd_lt hb _ _
  generalize (if i = 0 then 0 else wd (2 ^ e) n (i - 1) / 2 ^ (e - s)) = q at *
  have e2 : (2 : Nat) ^ e = 2 ^ s * 2 ^ (e - s) := by rw [← Nat.pow_add]; congr 1; omega
  rw [e2, Nat.mul_comm (wd _ n i) (2 ^ s), Nat.mul_mod_mul_left, Nat.add_comm, Nat.mod_mul]
  rw [Nat.add_comm q, Nat.mul_add_mod, Nat.mod_eq_of_lt hlt, Nat.mul_add_div (Nat.two_pow_pos s), Nat.div_eq_of_lt hlt, Nat.add_zero, Nat.add_comm]
/-- whole words more -/
theorem wd_shift {b : Nat} (hb : 0 < b) (n k i : Nat) : wd b (n * b ^ k) (k + i) = wd b n i := by
  unfold wd
  rw [Nat.pow_add, Nat.mul_comm n, Nat.mul_div_mul_left _ _ (Nat.pow_pos hb)]
theorem wd_shift_low {b : Nat} (hb : 0 < b) (n k i : Nat) (h : i < k) : wd b (n * b ^ k) i = 0 := by
  unfold wd
  obtain ⟨j, rfl⟩ : ∃ j, k = i + (j + 1) := ⟨k - i - 1, by omega⟩
  rw [Nat.pow_add, Nat.mul_comm n, Nat.mul_assoc, Nat.mul_div_cancel_left _ (Nat.pow_pos hb), Nat.pow_succ, Nat.mul_comm (b ^ j) b, Nat.mul_assoc, Nat.mul_mod_right]
/-- n / 2 -/
theorem half_word {b : Nat} (hb : 0 < b) (h2 : 2 ∣ b) (n i : Nat) : wd b (n / 2) i = wd b n i / 2 + b / 2 * (wd b n (i + 1) % 2) := by
  unfold wd
  obtain ⟨c, rfl⟩ := h2
  have hc : 0 < c := by omega
  rw [Nat.div_div_eq_div_mul, Nat.mul_comm 2 ((2 * c) ^ i), ← Nat.div_div_eq_div_mul, div_step]
  generalize n / (2 * c) ^ i = x
  rw [Nat.mul_div_cancel_left _ (by omega : 0 < 2)]
  rw [Nat.mod_mod_of_dvd _ ⟨c, rfl⟩]
  -- x / 2 % (2c) = x % (2c) / 2 + c * (x / (2c) % 2)
  have h3 : x % (2 * c * 2) = x % (2 * c) + 2 * c * (x / (2 * c) % 2) := Nat.mod_mul
  have h4 : x / 2 % (2 * c) = x % (2 * (2 * c)) / 2 := by rw [Nat.mod_mul_right_div_self]
  rw [h4, show 2 * (2 * c) = 2 * c * 2 by omega, h3, Nat.mul_assoc, Nat.add_mul_div_left _ _ (by omega)]
end Go.Proofs.YtoaccmblaifnmaaDoor.Wd
/-
  Rows of words in memory, the call's own: what the cells hold is a function of the place.
-/
namespace Go.Proofs.YtoaccmblaifnmaaDoor
open Flo Go.RowKit
def Cl (κ : IntKind) (k : Nat) (f : Nat → Nat) : List Value := (Wd.tab k f).map fun (x : Nat) => Value.int κ (x : Int)
theorem Cl_len (κ : IntKind) (k : Nat) (f : Nat → Nat) : (Cl κ k f).length = k := by simp [Cl, Wd.tab_len]
theorem Cl_get (κ : IntKind) {k i : Nat} (f : Nat → Nat) (h : i < k) : (Cl κ k f)[i]? = some (.int κ (f i : Nat)) := by
  simp [Cl, Wd.tab_get f h]
theorem Cl_succ (κ : IntKind) (k : Nat) (f : Nat → Nat) : Cl κ (k + 1) f = Cl κ k f ++ [.int κ (f k : Nat)] := by simp [Cl, Wd.tab_succ]
theorem Cl_zero (κ : IntKind) (f : Nat → Nat) : Cl κ 0 f = [] := rfl
theorem Cl_set (κ : IntKind) (k i x : Nat) (f : Nat → Nat) : (Cl κ k f).set i (.int κ (x : Nat)) = Cl κ k (fun j => if j = i then x else f j) := by
  unfold Cl; rw [← Wd.tab_set, List.map_set]
theorem Cl_congr (κ : IntKind) {k : Nat} {f f' : Nat → Nat} (h : ∀ j, j < k → f j = f' j) : Cl κ k f = Cl κ k f' := by
  unfold Cl; rw [Wd.tab_congr h]
/-- a row of k words, in a block of its own from B on (or nil) -/
def Row (T : TypeId) (κ : IntKind) (w : World) (B : Nat) (v : Value) (k : Nat) (f : Nat → Nat) : Prop := w.ownsRow B T 1 v k (Cl κ k f)
section
variable {T : TypeId} {κ : IntKind} {w w' : World} {B k : Nat} {v : Value} {f f' : Nat → Nat}
theorem Row.cases (h : Row T κ w B v k f) : (v = .slice none 0 0 ∧ k = 0) ∨ ∃ g cap, v = .slice (some ⟨g, 0, none⟩) k cap ∧ B ≤ g ∧ g < w.heap.size ∧ cap ≤ maxLen := by
  rcases h.2 with h1 | ⟨g, cap, cur, rfl, h1, h2, h3, h4, h5, h6⟩
  · exact .inl h1
  · exact .inr ⟨g, cap, rfl, h1, (Array.getElem?_eq_some_iff.1 h2).1, h4⟩
theorem Row.slice (h : Row T κ w B v k f) : ∃ ao cap, v = .slice ao k cap := by
  rcases h.cases with ⟨rfl, rfl⟩ | ⟨g, cap, rfl, _⟩
  · exact ⟨_, _, rfl⟩
  · exact ⟨_, _, rfl⟩
theorem Row.max (h : Row T κ w B v k f) : k ≤ 9223372036854775807 := by
  rcases h.2 with ⟨_, h1⟩ | ⟨g, cap, cur, rfl, h1, h2, h3, h4, h5, h6⟩
  · omega
  · unfold maxLen at h4; omega
theorem Row.lt (h : Row T κ w B v k f) : ∀ b, v.ownBlock = some b → B ≤ b ∧ b < w.heap.size := World.ownsRow.lt h
theorem Row.congr (h : Row T κ w B v k f) (e : ∀ j, j < k → f j = f' j) : Row T κ w B v k f' := by
  unfold Row at *; rw [← Cl_congr κ e]; exact h
theorem Row.nil (T : TypeId) (κ : IntKind) (w : World) (B : Nat) (f : Nat → Nat) : Row T κ w B (.slice none 0 0) 0 f := World.ownsRow_nil _ _ _ _
theorem Row.base (h : Row T κ w B v k f) {C : Nat} (hC : ∀ b, v.ownBlock = some b → C ≤ b) : Row T κ w C v k f := by
  obtain ⟨h1, h2⟩ := h
  refine ⟨h1, ?_⟩
  rcases h2 with h2 | ⟨g, cap, cur, rfl, h3, h4⟩
  · exact .inl h2
  · exact .inr ⟨g, cap, cur, rfl, hC g rfl, h4⟩
theorem Row.mono (h : Row T κ w B v k f) {C : Nat} (hC : C ≤ B) : Row T κ w C v k f := h.base fun b hb => Nat.le_trans hC (h.lt b hb).1
theorem Row.block (h : Row T κ w B v k f) (hb : ∀ b, v.ownBlock = some b → w'.heap[b]? = w.heap[b]?) : Row T κ w' B v k f := by
  obtain ⟨h1, h2⟩ := h
  refine ⟨h1, ?_⟩
  rcases h2 with h2 | ⟨g, cap, cur, rfl, h3, h4, h5⟩
  · exact .inl h2
  · exact .inr ⟨g, cap, cur, rfl, h3, (hb g rfl).trans h4, h5⟩
theorem Row.below (h : Row T κ w B v k f) {C : Nat} (hb : Below C w w') (hC : ∀ b, v.ownBlock = some b → b < C) : Row T κ w' B v k f :=
  h.block fun b e => hb.block b (hC b e)
theorem Row.under (h : Row T κ w B v k f) (hb : Below w.heap.size w w') : Row T κ w' B v k f := h.below hb fun b e => (h.lt b e).2
theorem Row.kept (h : Row T κ w B v k f) {r : Option Nat} (hg : w.grownBy w' r) (hne : ∀ b, v.ownBlock = some b → some b ≠ r) : Row T κ w' B v k f :=
  h.block fun b e => hg.block b (h.lt b e).2 (hne b e)
theorem Row.allocs (h : Row T κ w B v k f) (o : Obj) : Row T κ (w.alloc o) B v k f := World.ownsRow.alloc h o
end
section
variable {T : TypeId} {κ : IntKind} {w w' : World} {B k g cap : Nat} {f f' : Nat → Nat}
theorem Row.cell (h : Row T κ w B (.slice (some ⟨g, 0, none⟩) k cap) k f) (i : Nat) (hi : i < k) : w.cell? ⟨g, i, none⟩ = some (.int κ (f i : Nat)) := by
  rw [World.ownsRow.cellAt h i (by omega), Cl_get κ f hi]
theorem Row.free (h : Row T κ w B (.slice (some ⟨g, 0, none⟩) k cap) k f) (i : Nat) : w.frozen? ⟨g, i, none⟩ = false := World.ownsRow.frozenAt h i
theorem Row.put (h : Row T κ w B (.slice (some ⟨g, 0, none⟩) k cap) k f) (i x : Nat) :
    Row T κ (w.setCell ⟨g, i, none⟩ (.int κ (x : Nat))) B (.slice (some ⟨g, 0, none⟩) k cap) k (fun j => if j = i then x else f j) ∧ w.grownBy (w.setCell ⟨g, i, none⟩ (.int κ (x : Nat))) (some g) := by
  have := World.ownsRow.stored h i (.int κ (x : Nat))
  rw [Cl_set] at this
  exact this
theorem Row.pop (h : Row T κ w B (.slice (some ⟨g, 0, none⟩) (k + 1) cap) (k + 1) f) : Row T κ w B (.slice (some ⟨g, 0, none⟩) k cap) k f := by
  unfold Row at h
  rw [Cl_succ] at h
  exact ownsRow_pop (by rw [Cl_len, Nat.mul_one]) h
end
theorem gb_refl (w : World) (r : Option Nat) : w.grownBy w r := ⟨rfl, rfl, rfl, Nat.le_refl _, fun _ _ _ => rfl⟩
theorem gb_trans {w w1 w2 : World} {r r2 : Option Nat} (h : w.grownBy w1 r) (h2 : w1.grownBy w2 r2) (hr : ∀ k, r2 = some k → r = some k ∨ w.heap.size ≤ k) : w.grownBy w2 r :=
  ⟨h2.os.trans h.os, h2.tape.trans h.tape, h2.output.trans h.output, Nat.le_trans h.size h2.size, fun k hk hne => by
    refine (h2.block k (Nat.lt_of_lt_of_le hk h.size) fun e => ?_).trans (h.block k hk hne)
    rcases hr k e.symm with h3 | h3
    · exact hne h3.symm
    · omega⟩
theorem gb_below {w w' : World} (h : w.grownBy w' none) : Below w.heap.size w w' := ⟨h.os, h.tape, h.output, h.size, fun k hk => h.block k hk (by simp)⟩
theorem below_gb {w w' : World} (h : Below w.heap.size w w') (r : Option Nat) : w.grownBy w' r := ⟨h.os, h.tape, h.output, h.size, fun k hk _ => h.block k hk⟩
/-- v was turned into v', in its own block or in a new one; nothing else was touched -/
structure Inp (w w' : World) (v v' : Value) : Prop where
  gb : w.grownBy w' v.ownBlock
  own : ∀ b, v'.ownBlock = some b → v.ownBlock = some b ∨ w.heap.size ≤ b
theorem Inp.trans {w w1 w2 : World} {v v1 v2 : Value} (h : Inp w w1 v v1) (h2 : Inp w1 w2 v1 v2) : Inp w w2 v v2 :=
  ⟨gb_trans h.gb h2.gb h.own, fun b hb => by
    rcases h2.own b hb with h3 | h3
    · exact h.own b h3
    · exact .inr (Nat.le_trans h.gb.size h3)⟩
theorem Inp.refl (w : World) (v : Value) : Inp w w v v := ⟨gb_refl _ _, fun _ h => .inl h⟩
/-- what is the call's own from C on stays so -/
theorem Inp.below {w0 w w' : World} {v v' : Value} {C : Nat} (h : Inp w w' v v') (hb : Below C w0 w) (hC : C ≤ w.heap.size) (hv : ∀ b, v.ownBlock = some b → C ≤ b) : Below C w0 w' := hb.grown h.gb hC hv
theorem Inp.base {w w' : World} {v v' : Value} {C : Nat} (h : Inp w w' v v') (hC : C ≤ w.heap.size) (hv : ∀ b, v.ownBlock = some b → C ≤ b) : ∀ b, v'.ownBlock = some b → C ≤ b := fun b hb => by
  rcases h.own b hb with h1 | h1
  · exact hv b h1
  · omega
/-- two values of two blocks -/
def Apt (u v : Value) : Prop := ∀ b, u.ownBlock = some b → v.ownBlock ≠ some b
theorem Apt.symm {u v : Value} (h : Apt u v) : Apt v u := fun b hb hu => h b hu hb
theorem Inp.apt {w w' : World} {u v v' : Value} (h : Inp w w' v v') (ha : Apt u v) (hu : ∀ b, u.ownBlock = some b → b < w.heap.size) : Apt u v' := fun b hb hv => by
  rcases h.own b hv with h1 | h1
  · exact ha b hb h1
  · have := hu b hb; omega
theorem Row.other {T : TypeId} {κ : IntKind} {w w' : World} {B k : Nat} {u v v' : Value} {f : Nat → Nat} (h : Row T κ w B u k f) (hi : Inp w w' v v') (ha : Apt u v) : Row T κ w' B u k f :=
  h.kept hi.gb fun b hb e => ha b hb e.symm
theorem apt_of {u v : Value} {C : Nat} (hu : ∀ b, u.ownBlock = some b → b < C) (hv : ∀ b, v.ownBlock = some b → C ≤ b) : Apt u v := fun b h1 h2 => by
  have := hu b h1; have := hv b h2; omega
end Go.Proofs.YtoaccmblaifnmaaDoor
/-
  An append to a row of the call's own: it lies where it lay, or in a new block.
-/
namespace Go.Proofs.YtoaccmblaifnmaaDoor
open Flo Go.RowKit
section
variable {P : Program} (w : World)
theorem append_fr (base : Nat) (t ty e : TypeId) (i : TypeInfo) (z : Value) (size bytes : Nat) (ht : P.underlying t = some (.slice e)) (hi : P.info? e = some i) (hz : i.zero = some z)
    (hsize : i.size = size) (hby : i.bytes = bytes) (hzs : z.cells.size = size) (hsz : 0 < size)
    (v : Value) (n : Nat) (xs : List Value) (hown : w.ownsRow base e size v n xs)
    (a : Addr) (m c : Nat) (news : List Value) (hl : news.length = m * size) (hnews : ∀ j u, news[j]? = some u → w.cell? (a.add j) = some u) (h1 : ∀ u ∈ news, u.oneCell' = true)
    (h63 : n + m ≤ maxLen) (hbytes : (n + m) * bytes ≤ 140737488355328) (hbase : base ≤ w.heap.size) :
    ∃ v' w', (Builtin.append_ #[t, t] ty #[v, .slice (some a) m c]).run P w = .ok v' w' ∧ w'.ownsRow base e size v' (n + m) (xs ++ news) ∧ w.grownBy w' v.ownBlock ∧
      (∀ b, v'.ownBlock = some b → v.ownBlock = some b ∨ w.heap.size ≤ b) := by
  obtain ⟨v', w', hr, h2, h3, h4⟩ := run_append_own (P := P) w base t ty e i z size bytes ht hi hz hsize hby hzs hsz v n xs hown a m c news hl hnews h1 h63 hbytes hbase
  refine ⟨v', w', hr, h2, h3, ?_⟩
  have hsmall : n + m ≤ 9223372036854775807 := h63
  subst hsize
  subst hby
  rcases hown.2 with ⟨rfl, rfl⟩ | ⟨g, cap, cur, rfl, hbg, hg, hnc, hcm, hcs, htake⟩
  · by_cases hm : m = 0
    · have hv := h4.2 ⟨rfl, hm⟩
      subst hv
      intro b hb
      cases hb
    · have hr2 := run_append_nil (P := P) w t ty e i z ht hi hz a m c news hl hnews (by omega) (by omega) (by rw [Nat.zero_add] at hbytes; omega)
      rw [hr] at hr2
      cases hr2
      intro b hb
      cases hb
      exact .inr (Nat.le_refl _)
  · by_cases hroom : n + m ≤ cap
    · have hr2 := run_append_room (P := P) w t ty e i ht hi g n cap cur hg a m c news hl hnews h1 hroom (by rw [hl, hcs, ← Nat.add_mul]; exact Nat.mul_le_mul_right _ hroom)
      rw [hr] at hr2
      cases hr2
      intro b hb
      exact .inl hb
    · have hr2 := run_append_grow (P := P) w t ty e i z ht hi hz ⟨g, 0, none⟩ n cap xs hown.1 (hown.cells (g := g) rfl) a m c news hl hnews (by omega) (by omega) (growslice_fits (by omega) hbytes)
      rw [hr] at hr2
      cases hr2
      intro b hb
      cases hb
      exact .inr (Nat.le_refl _)
theorem wpList_append_fr {ops : Array Oper} {rest : List Oper} {o : Oper} {a : Act} {Q : Exit → Act → World → Prop} (hgd : o.guard = none) (s x : Operand) (t : TypeId)
    (ho : o.op = .call { callee := .builtin .append, args := #[s, x], argTypes := #[t, t] })
    (base : Nat) (e : TypeId) (i : TypeInfo) (z : Value) (size bytes : Nat) (ht : P.underlying t = some (.slice e)) (hi : P.info? e = some i) (hz : i.zero = some z)
    (hsize : i.size = size) (hby : i.bytes = bytes) (hzs : z.cells.size = size) (hsz : 0 < size)
    (v : Value) (n : Nat) (xs : List Value) (hs : a.eval s = v) (hown : w.ownsRow base e size v n xs)
    (ad : Addr) (m c : Nat) (news : List Value) (hx : a.eval x = .slice (some ad) m c) (hl : news.length = m * size) (hnews : ∀ j u, news[j]? = some u → w.cell? (ad.add j) = some u) (h1 : ∀ u ∈ news, u.oneCell' = true)
    (h63 : n + m ≤ maxLen) (hbytes : (n + m) * bytes ≤ 140737488355328) (hbase : base ≤ w.heap.size)
    (h : ∀ v' w', w'.ownsRow base e size v' (n + m) (xs ++ news) → w.grownBy w' v.ownBlock → (∀ b, v'.ownBlock = some b → v.ownBlock = some b ∨ w.heap.size ≤ b) → wpList P ops Q rest (a.put o.dst v') w') : wpList P ops Q (o :: rest) a w := by
  obtain ⟨v', w', hr, h2, h3, h4⟩ := append_fr (P := P) w base t o.type e i z size bytes ht hi hz hsize hby hzs hsz v n xs hown ad m c news hl hnews h1 h63 hbytes hbase
  refine wpList_plain hgd fun _ hK => ?_
  unfold Oper.wp execOp
  simp only [ho, resolve, invoke, builtin, Sem.run_bind, Sem.run_pure, Result.andThen_ok, List.map_toArray, List.map_cons, List.map_nil, hs, hx, hr]
  exact hK _ _ (h v' w' h2 h3 h4)
end
end Go.Proofs.YtoaccmblaifnmaaDoor
