/-
  Plain mathematics of floats: bounds go through sums, differences, products by at most 1, and quotients of at most 1. No condition; nothing of the program.
-/
import Derived.Test.YtehaokdjdhejlaaDoorRtp
namespace Go.Proofs.YtehaokdjdhejlaaDoor.Rp
open Flo Ieee Ari

/-- finite, and at most A without its sign -/
def bd (x A : Nat) : Prop := fin x ∧ vl x ≤ A * 2 ^ ul
theorem rg_whole {A : Nat} (h : A < 9007199254740992) : rg (A * 2 ^ ul) (-1074) < 9218868437227405312 ∧ vr (rg (A * 2 ^ ul) (-1074)) = A * 2 ^ ul :=
  rg_rep (a := A) (k := ul) h (by
    calc A * 2 ^ ul < 2 ^ 53 * 2 ^ ul := Nat.mul_lt_mul_of_pos_right (by omega) (Nat.two_pow_pos _)
      _ = 2 ^ (53 + ul) := (Nat.pow_add ..).symm
      _ ≤ 2 ^ tp := Nat.pow_le_pow_right (by omega) (by have := ul_eq; have := tp_eq; omega))
theorem vr_le {r s : Nat} (h : r ≤ s) : vr r ≤ vr s := by
  rcases Nat.lt_or_eq_of_le h with h | h
  · exact Nat.le_of_lt (vr_mono h)
  · rw [h]; exact Nat.le_refl _
/-- what is at most A is rounded to at most A -/
theorem near_bd (s : Bool) {m A : Nat} (hA : A < 9007199254740992) (h : m ≤ A * 2 ^ ul) : bd (double.nearest s m (-1074)) A := by
  obtain ⟨w1, w2⟩ := rg_whole hA
  have hm := rg_mono_at h (-1074)
  rw [nearest_eq, Nat.min_eq_left (by omega)]
  obtain ⟨f1, _, f3⟩ := word_facts s (r := rg m (-1074)) (by omega)
  exact ⟨f1, by rw [f3, ← w2]; exact vr_le hm⟩
theorem bd_add {x y A B : Nat} (hx : bd x A) (hy : bd y B) (h : A + B < 9007199254740992) : ∃ r, double.add x y = some r ∧ bd r (A + B) := by
  refine ⟨_, add_fin hx.1 hy.1, near_bd _ h ?_⟩
  have e1 := vl_abs x
  have e2 := vl_abs y
  have h1 := hx.2
  have h2 := hy.2
  rw [Nat.add_mul]
  omega
theorem bd_ng {x A : Nat} (h : bd x A) : bd (ng x) A := ⟨fin_ng h.1, by rw [vl_ng h.1.1]; exact h.2⟩
theorem bd_sub {x y A B : Nat} (hx : bd x A) (hy : bd y B) (h : A + B < 9007199254740992) : ∃ r, double.sub x y = some r ∧ bd r (A + B) := by
  rw [sub_eq x hy.1.1]; exact bd_add hx (bd_ng hy) h
theorem bd_mul {x y B : Nat} (hx : bd x 1) (hy : bd y B) (h : B < 9007199254740992) : ∃ r, double.mul x y = some r ∧ bd r B := by
  refine ⟨_, mul_fin hx.1 hy.1, ?_⟩
  have hp : vl x * vl y ≤ (B * 2 ^ ul) * 2 ^ ul := by
    have := Nat.mul_le_mul hx.2 hy.2
    rw [Nat.one_mul, Nat.mul_comm (2 ^ ul)] at this
    exact this
  obtain ⟨w1, w2⟩ := rg_whole h
  have hm := rg_mono_at hp (-2148)
  have e2 : (-2148 : Int) + ((ul : Nat) : Int) = -1074 := by have := ul_eq; omega
  rw [rg_scale, e2] at hm
  rw [nearest_eq, Nat.min_eq_left (by omega)]
  obtain ⟨f1, _, f3⟩ := word_facts (sg x ^^ sg y) (r := rg (vl x * vl y) (-2148)) (by omega)
  exact ⟨f1, by rw [f3, ← w2]; exact vr_le hm⟩
theorem one_word : one = rg (1 * 2 ^ ul) (-1074) := by
  have h := fl_word (n := 1) (by decide) (by decide)
  have e2 : (-1074 : Int) + ((ul : Nat) : Int) = 0 := by have := ul_eq; omega
  rw [rg_scale, e2, ← h.1]
  decide
theorem bd_le {c : Nat} (h : c ≤ one) : bd c 1 := by
  have w := rg_whole (A := 1) (by decide)
  rw [← one_word] at w
  have ho : one < 9218868437227405312 := by decide
  refine ⟨⟨by omega, by rw [Nat.mod_eq_of_lt (by omega)]; omega⟩, ?_⟩
  unfold vl
  rw [Nat.mod_eq_of_lt (by omega), ← w.2]
  exact vr_le h
theorem co_sub (x y : Nat) : co .sub x y = (double.sub x y).getD 9221120237041090560 := by
  unfold co floatBits
  change (match double.sub x y with | some r => r | none => 9221120237041090560) = _
  cases double.sub x y <;> rfl
theorem bd_co_sub {x y A B : Nat} (hx : bd x A) (hy : bd y B) (h : A + B < 9007199254740992) : bd (co .sub x y) (A + B) := by
  obtain ⟨r, h1, h2⟩ := bd_sub hx hy h
  rw [co_sub, h1]; exact h2
theorem bd_co_mul {x y B : Nat} (hx : bd x 1) (hy : bd y B) (h : B < 9007199254740992) : bd (co .mul x y) B := by
  obtain ⟨r, h1, h2⟩ := bd_mul hx hy h
  rw [co_mul, h1]; exact h2
theorem quotient_num (d : Nat) (s t : Bool) (m n : Nat) (i j : Int) (h : n ≠ 0) : (Datum.number s m i).quotient d (.number t n j) =
    some (.number (s ^^ t) (2 * (m <<< (d + n.log2 - m.log2) / n) + (m <<< (d + n.log2 - m.log2) % n != 0).toNat) (i - j - (d + n.log2 - m.log2 : Nat) - 1)) := by
  unfold Datum.quotient
  simp only [if_neg h]
theorem write_num (s : Bool) (m : Nat) (i : Int) : double.write (.number s m i) = double.nearest s m i := rfl
/-- the quotient's digits, with the one for the rest, are at most those of 1 -/
theorem digits_le {m n p q k F : Nat} (hn : 0 < n) (h : m * 2 ^ p ≤ n * 2 ^ q) (hF : F + p = k + q) : 2 * (m * 2 ^ k / n) + (m * 2 ^ k % n != 0).toNat ≤ 2 ^ (F + 1) := by
  have hD : m * 2 ^ k ≤ n * 2 ^ F := by
    have h1 : m * 2 ^ k * 2 ^ p ≤ n * 2 ^ F * 2 ^ p := by
      have e1 : m * 2 ^ k * 2 ^ p = m * 2 ^ p * 2 ^ k := Nat.mul_right_comm _ _ _
      have e2 : n * 2 ^ F * 2 ^ p = n * 2 ^ q * 2 ^ k := by rw [Nat.mul_assoc, Nat.mul_assoc, ← Nat.pow_add, ← Nat.pow_add]; congr 2; omega
      rw [e1, e2]; exact Nat.mul_le_mul_right _ h
    exact Nat.le_of_mul_le_mul_right h1 (Nat.two_pow_pos p)
  rw [Nat.pow_succ]
  generalize m * 2 ^ k = D at *
  by_cases c : D = n * 2 ^ F
  · have e1 : D / n = 2 ^ F := by rw [c]; exact Nat.mul_div_cancel_left _ hn
    have e2 : D % n = 0 := by rw [c]; exact Nat.mul_mod_right _ _
    rw [e1, e2]
    have : (0 != 0 : Bool).toNat = 0 := rfl
    simp only [bne_self_eq_false, Bool.toNat_false]
    omega
  · have hlt : D / n < 2 ^ F := (Nat.div_lt_iff_lt_mul hn).2 (by rw [Nat.mul_comm]; omega)
    have hb : (D % n != 0).toNat ≤ 1 := Bool.toNat_le _
    omega
theorem log_gap {m n p q d : Nat} (hm : 0 < m) (h : m * 2 ^ p ≤ n * 2 ^ q) (hd : m.log2 ≤ d + n.log2) (hd1 : 1 ≤ d) : p ≤ (d + n.log2 - m.log2) + q := by
  apply Nat.le_of_not_lt
  intro hc
  have h1 := Nat.log2_self_le (n := m) (by omega)
  have h2 := @Nat.lt_log2_self n
  have h3 : 2 ^ m.log2 * 2 ^ p ≤ m * 2 ^ p := Nat.mul_le_mul_right _ h1
  have h4 : n * 2 ^ q < 2 ^ (n.log2 + 1) * 2 ^ q := Nat.mul_lt_mul_of_pos_right h2 (Nat.two_pow_pos q)
  have h5 : 2 ^ (m.log2 + p) < 2 ^ (n.log2 + 1 + q) := by
    rw [Nat.pow_add, Nat.pow_add 2 (n.log2 + 1)]; omega
  have h6 := (Nat.pow_lt_pow_iff_right (by omega : 1 < 2)).1 h5
  omega
/-- a quotient of a positive number by one that is no less is at most 1 -/
theorem div_word {a b : Nat} (ha : 0 < a) (hab : a ≤ b) (hb : b < 9218868437227405312) : co .quo a b ≤ one := by
  have m1 : a % 9223372036854775808 = a := Nat.mod_eq_of_lt (by omega)
  have m2 : b % 9223372036854775808 = b := Nat.mod_eq_of_lt (by omega)
  have r1 := read_fin a (by omega) (by rw [m1]; omega)
  have r2 := read_fin b (by omega) (by rw [m2]; omega)
  rw [m1, decide_eq_false (by omega)] at r1
  rw [m2, decide_eq_false (by omega)] at r2
  have hv : mg a * 2 ^ ex a ≤ mg b * 2 ^ ex b := vr_le hab
  have hma : 0 < mg a := by unfold mg ex; omega
  have hmb : 0 < mg b := by unfold mg ex; omega
  have hla : (mg a).log2 < 53 := (Nat.log2_lt (by omega)).2 (mg_lt a)
  have hfr : double.fractionBits + 2 = 54 := rfl
  have hq : double.div a b = some (double.nearest (false ^^ false) (2 * (mg a <<< (54 + (mg b).log2 - (mg a).log2) / mg b) + (mg a <<< (54 + (mg b).log2 - (mg a).log2) % mg b != 0).toNat) (double.leastPlace + ex a - (double.leastPlace + ex b) - (54 + (mg b).log2 - (mg a).log2 : Nat) - 1)) := by
    unfold Format.div
    rw [r1, r2, hfr, quotient_num 54 false false _ _ _ _ (by omega), Option.map_some, write_num]
  rw [co_quo, hq, Option.getD_some]
  have gap := log_gap (d := 54) hma hv (by omega) (by omega)
  generalize 54 + (mg b).log2 - (mg a).log2 = k at *
  obtain ⟨F, hF⟩ : ∃ F, F + ex a = k + ex b := ⟨k + ex b - ex a, by omega⟩
  have dl := digits_le (k := k) hmb hv hF
  rw [Nat.shiftLeft_eq]
  generalize 2 * (mg a * 2 ^ k / mg b) + (mg a * 2 ^ k % mg b != 0).toNat = N at *
  have he : double.leastPlace + (ex a : Int) - (double.leastPlace + (ex b : Int)) - (k : Int) - 1 = -((F + 1 : Nat) : Int) := by omega
  rw [he]
  have hm := rg_mono_at dl (-((F + 1 : Nat) : Int))
  have e1 : rg (2 ^ (F + 1)) (-((F + 1 : Nat) : Int)) = rg 1 0 := by
    have := rg_scale 1 (F + 1) (-((F + 1 : Nat) : Int))
    rw [Nat.one_mul, show (-((F + 1 : Nat) : Int)) + ((F + 1 : Nat) : Int) = 0 by omega] at this
    exact this
  have e2 : rg 1 0 = one := by
    have := one_word
    rw [rg_scale, show (-1074 : Int) + ((ul : Nat) : Int) = 0 by have := ul_eq; omega] at this
    exact this.symm
  rw [e1, e2] at hm
  have ho : one < 9218868437227405312 := by decide
  rw [nearest_eq, Nat.min_eq_left (by omega), word_eq, if_neg (by decide)]
  exact hm
theorem div_le_one {a b : Nat} (ha : 0 < a) (hab : a ≤ b) (hb : b < 9218868437227405312) : bd (co .quo a b) 1 := bd_le (div_word ha hab hb)
end Go.Proofs.YtehaokdjdhejlaaDoor.Rp
