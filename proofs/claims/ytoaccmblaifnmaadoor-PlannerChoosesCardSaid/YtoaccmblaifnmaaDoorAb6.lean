/-
  Contracts of package cplx's plain functions and of the reference's: what each returns at every complex number, all NaN being one.
-/
import Derived.Test.YtoaccmblaifnmaaDoorAa1
import Derived.Test.YtoaccmblaifnmaaDoorFop
import Derived.WalkLawsBesides
import Derived.Laws.ComplexArith
namespace Go.Proofs.YtoaccmblaifnmaaDoor
open Flo Go.RowKit

def mulRe (a b c d : Nat) : Nat := co .sub (co .mul a c) (co .mul b d)
def mulIm (a b c d : Nat) : Nat := co .add (co .mul a d) (co .mul b c)
theorem mulRe_bt (a b c d : Nat) : mulRe (bt a) (bt b) (bt c) (bt d) = mulRe a b c d := by unfold mulRe; rw [co_bt, co_bt]
theorem mulIm_bt (a b c d : Nat) : mulIm (bt a) (bt b) (bt c) (bt d) = mulIm a b c d := by unfold mulIm; rw [co_bt, co_bt]
def normOf (a b : Nat) : Nat := co .add (co .mul a a) (co .mul b b)
def intF (n : Int) : Nat := floatOfInt .f64 n

def qrR (c d : Nat) : Nat := co .quo d c
def qrT (c d : Nat) : Nat := co .add c (co .mul d (qrR c d))
def qrRe (a b c d : Nat) : Nat := co .quo (co .add a (co .mul b (qrR c d))) (qrT c d)
def qrIm (a b c d : Nat) : Nat := co .quo (co .sub b (co .mul a (qrR c d))) (qrT c d)
def qiR (c d : Nat) : Nat := co .quo c d
def qiT (c d : Nat) : Nat := co .add (co .mul c (qiR c d)) d
def qiRe (a b c d : Nat) : Nat := co .quo (co .add (co .mul a (qiR c d)) b) (qiT c d)
def qiIm (a b c d : Nat) : Nat := co .quo (co .sub (co .mul b (qiR c d)) a) (qiT c d)

end Go.Proofs.YtoaccmblaifnmaaDoor
/-
  Plain mathematics of the roots of unity as the document reckons them: the series, the eighth, the whole turn. No condition; nothing of the program.
-/
namespace Go.Proofs.YtoaccmblaifnmaaDoor.Rp
open Flo Ieee Ari

def one : Nat := 4607182418800017408
def turn : Nat := 4618760256179416344
def half : Nat := 4604544271217802189
def fl (n : Int) : Nat := floatOfInt .f64 n

theorem fl_nat {n : Nat} (h : n ≤ 9007199254740992) : W (fl n) n := by
  have := W_int (n := (n : Int)) (by omega)
  exact this
/-- a whole number above 0 and its double, as words -/
theorem fl_word {n : Nat} (h0 : 0 < n) (h : n < 9007199254740992) : fl n = rg n 0 ∧ rg n 0 < 9218868437227405312 := by
  have hr := rg_rep (a := n) (k := ul) h (by
    calc n * 2 ^ ul < 2 ^ 53 * 2 ^ ul := Nat.mul_lt_mul_of_pos_right (by omega) (Nat.two_pow_pos _)
      _ = 2 ^ (53 + ul) := (Nat.pow_add ..).symm
      _ ≤ 2 ^ tp := Nat.pow_le_pow_right (by omega) (by have := ul_eq; have := tp_eq; omega))
  rw [rg_scale] at hr
  have e2 : (-1074 : Int) + ((ul : Nat) : Int) = 0 := by have := ul_eq; omega
  rw [e2] at hr
  refine ⟨?_, hr.1⟩
  unfold fl
  have e : floatOfInt .f64 (n : Int) = double.nearest (decide ((n : Int) < 0)) (n : Int).natAbs 0 := rfl
  rw [e, nearest_eq, Int.natAbs_natCast, Nat.min_eq_left (by omega), word_eq]
  have : decide ((n : Int) < 0) = false := decide_eq_false (by omega)
  rw [this]; rfl
theorem fl_shift {n j : Nat} (h0 : 0 < n) (h : n * 2 ^ j < 9007199254740992) : fl ((n * 2 ^ j : Nat) : Int) = fl n + j * 4503599627370496 := by
  have hj := Nat.two_pow_pos j
  have hn : n < 9007199254740992 := Nat.lt_of_le_of_lt (Nat.le_mul_of_pos_right n hj) h
  rw [(fl_word (Nat.mul_pos h0 hj) h).1, (fl_word h0 hn).1, rg_scale, rg_shift (by omega) (by omega)]
/-- where the rung of a number of many digits lies -/
theorem rg_bounds {m : Nat} (h : 52 ≤ m.log2) : (m.log2 - 51) * 4503599627370496 ≤ rg m (-1074) ∧ rg m (-1074) ≤ (m.log2 - 50) * 4503599627370496 := by
  have hm : m ≠ 0 := by intro c; subst c; rw [show Nat.log2 0 = 0 by decide] at h; omega
  have hl : lst m (-1074) = (m.log2 : Int) - 1126 := by unfold lst; omega
  unfold rg
  rw [if_neg hm, hl]
  have e1 : ((-1074 : Int) - ((m.log2 : Int) - 1126)).toNat = 0 := by omega
  have e2 : ((m.log2 : Int) - 1126 - -1074).toNat = m.log2 - 52 := by omega
  have e3 : ((m.log2 : Int) - 1126 + 1074).toNat = m.log2 - 52 := by omega
  rw [e1, e2, e3, Nat.pow_zero, Nat.mul_one]
  have h1 := Nat.log2_self_le hm
  have h2 := @Nat.lt_log2_self m
  have k1 : 4503599627370496 ≤ rhe m (m.log2 - 52) := by
    apply le_rhe
    have : 4503599627370496 * 2 ^ (m.log2 - 52) = 2 ^ m.log2 := by
      rw [show 4503599627370496 = 2 ^ 52 from rfl, ← Nat.pow_add]; congr 1; omega
    omega
  have k2 : rhe m (m.log2 - 52) ≤ 9007199254740992 := by
    apply rhe_le
    have : 9007199254740992 * 2 ^ (m.log2 - 52) = 2 ^ (m.log2 + 1) := by
      rw [show 9007199254740992 = 2 ^ 53 from rfl, ← Nat.pow_add]; congr 1; omega
    omega
  constructor
  · have : m.log2 - 51 = (m.log2 - 52) + 1 := by omega
    rw [this, Nat.add_mul]; omega
  · have : m.log2 - 50 = (m.log2 - 52) + 2 := by omega
    rw [this, Nat.add_mul]; omega

theorem fin_turn : fin turn := ⟨by decide, by decide⟩
def te : Nat := 1024
theorem te_eq : te = 1024 := rfl
theorem vl_turn : vl turn = 7074237752028440 * 2 ^ te := by
  have h1 : turn % 9223372036854775808 = turn := by decide
  have h2 : ex turn = te := by decide
  have h3 : mg turn = 7074237752028440 := by decide
  unfold vl vr
  rw [h1, h2, h3]
/-- the product of the turn and a whole number: its word -/
def tw (r : Nat) : Nat := rg (vl turn * r) (-1074)
theorem log_turn {r : Nat} (h0 : 0 < r) (h : r < 33554432) : 52 ≤ (vl turn * r).log2 ∧ (vl turn * r).log2 < 1110 := by
  rw [vl_turn]
  have e : 7074237752028440 * 2 ^ te * r = (7074237752028440 * r) * 2 ^ te := Nat.mul_right_comm _ _ _
  rw [e]
  have hne : 7074237752028440 * r ≠ 0 := by omega
  rw [log2_mul_pow hne]
  have l1 : 52 ≤ (7074237752028440 * r).log2 := (Nat.le_log2 hne).2 (by omega)
  have l2 : (7074237752028440 * r).log2 < 79 := (Nat.log2_lt hne).2 (by omega)
  have := te_eq
  omega
theorem tw_bounds {r : Nat} (h0 : 0 < r) (h : r < 33554432) : 4503599627370496 ≤ tw r ∧ tw r < 1060 * 4503599627370496 := by
  obtain ⟨l1, l2⟩ := log_turn h0 h
  obtain ⟨b1, b2⟩ := rg_bounds l1
  unfold tw
  have c1 : 1 * 4503599627370496 ≤ ((vl turn * r).log2 - 51) * 4503599627370496 := Nat.mul_le_mul_right _ (by omega)
  have c2 : ((vl turn * r).log2 - 50) * 4503599627370496 ≤ 1059 * 4503599627370496 := Nat.mul_le_mul_right _ (by omega)
  omega
theorem mul_turn {r : Nat} (h0 : 0 < r) (h : r < 33554432) : double.mul turn (fl r) = some (tw r) := by
  have hW := fl_nat (n := r) (by omega)
  have hb := tw_bounds h0 h
  rw [mul_fin fin_turn hW.1, W_vl hW, Int.natAbs_natCast, ← Nat.mul_assoc, nearest_scale]
  have e2 : (-2148 : Int) + ((ul : Nat) : Int) = -1074 := by have := ul_eq; omega
  have hs : sg (fl r) = false := by rw [W_sg hW (by omega)]; exact decide_eq_false (by omega)
  have hs2 : sg turn = false := by decide
  rw [e2, hs, hs2, nearest_eq, word_eq]
  have : min (rg (vl turn * r) (-1074)) 9218868437227405312 = tw r := by unfold tw at *; omega
  rw [this]
  simp only [Bool.xor_false, Bool.false_eq_true, if_false]
theorem co_mul (x y : Nat) : co .mul x y = (double.mul x y).getD 9221120237041090560 := by
  unfold co floatBits
  change (match double.mul x y with | some r => r | none => 9221120237041090560) = _
  cases double.mul x y <;> rfl
theorem co_quo (x y : Nat) : co .quo x y = (double.div x y).getD 9221120237041090560 := by
  unfold co floatBits
  change (match double.div x y with | some r => r | none => 9221120237041090560) = _
  cases double.div x y <;> rfl
theorem tw_shift {r j : Nat} (h0 : 0 < r) (h : r * 2 ^ j < 33554432) : tw (r * 2 ^ j) = tw r + j * 4503599627370496 := by
  have hr : r < 33554432 := Nat.lt_of_le_of_lt (Nat.le_mul_of_pos_right r (Nat.two_pow_pos j)) h
  unfold tw
  have l := log_turn h0 hr
  rw [← Nat.mul_assoc, rg_scale, rg_shift (by intro c; rw [c, show Nat.log2 0 = 0 by decide] at l; omega) (by omega)]
/-- a quotient of two normal numbers doesn't see that both are moved -/
theorem div_shift {a b j : Nat} (ha : 4503599627370496 ≤ a) (hb : 4503599627370496 ≤ b) (ha2 : a + j * 4503599627370496 < 9218868437227405312) (hb2 : b + j * 4503599627370496 < 9218868437227405312) :
    double.div (a + j * 4503599627370496) (b + j * 4503599627370496) = double.div a b := by
  have key : ∀ x : Nat, 4503599627370496 ≤ x → x + j * 4503599627370496 < 9218868437227405312 → double.read x = .number false (mg x) (double.leastPlace + ex x) ∧ double.read (x + j * 4503599627370496) = .number false (mg x) (double.leastPlace + ex x + j) := by
    intro x h1 h2
    have m1 : x % 9223372036854775808 = x := Nat.mod_eq_of_lt (by omega)
    have m2 : (x + j * 4503599627370496) % 9223372036854775808 = x + j * 4503599627370496 := Nat.mod_eq_of_lt (by omega)
    have e1 : ex (x + j * 4503599627370496) = ex x + j := by unfold ex; omega
    have e2 : mg (x + j * 4503599627370496) = mg x := by
      unfold mg; rw [e1]; unfold ex; omega
    have r1 := read_fin x (by omega) (by rw [m1]; omega)
    have r2 := read_fin (x + j * 4503599627370496) (by omega) (by rw [m2]; omega)
    rw [m1] at r1
    rw [m2, e1, e2] at r2
    refine ⟨?_, ?_⟩
    · rw [r1, decide_eq_false (by omega)]
    · rw [r2, decide_eq_false (by omega)]
      congr 1
      omega
  obtain ⟨a1, a2⟩ := key a ha ha2
  obtain ⟨b1, b2⟩ := key b hb hb2
  unfold Format.div
  rw [a1, a2, b1, b2]
  simp only [Datum.quotient]
  have e : ∀ m : Int, double.leastPlace + (ex a : Int) + (j : Int) - (double.leastPlace + (ex b : Int) + (j : Int)) - m - 1 = double.leastPlace + (ex a : Int) - (double.leastPlace + (ex b : Int)) - m - 1 := by intro m; omega
  simp only [e]
/-- the angle hangs on r/n alone -/
theorem angle_scale {r n j : Nat} (h0 : 0 < r) (h1 : 0 < n) (h : r * 2 ^ j < 33554432) (h2 : n * 2 ^ j < 33554432) :
    co .quo (co .mul turn (fl ((r * 2 ^ j : Nat) : Int))) (fl ((n * 2 ^ j : Nat) : Int)) = co .quo (co .mul turn (fl r)) (fl n) := by
  have hj := Nat.two_pow_pos j
  have hr : r < 33554432 := Nat.lt_of_le_of_lt (Nat.le_mul_of_pos_right r hj) h
  have m1 : co .mul turn (fl ((r * 2 ^ j : Nat) : Int)) = tw (r * 2 ^ j) := by
    rw [co_mul, mul_turn (Nat.mul_pos h0 hj) h, Option.getD_some]
  have m2 : co .mul turn (fl r) = tw r := by
    rw [co_mul, mul_turn h0 hr, Option.getD_some]
  rw [m1, m2, tw_shift h0 h, fl_shift h1 (by omega)]
  have bn := fl_word h1 (show n < 9007199254740992 from Nat.lt_of_le_of_lt (Nat.le_mul_of_pos_right n hj) (by omega))
  have j25 : j < 25 := by
    apply Nat.lt_of_not_le
    intro hc
    have : 2 ^ 25 ≤ 2 ^ j := Nat.pow_le_pow_right (by omega) hc
    have : 1 * 2 ^ j ≤ n * 2 ^ j := Nat.mul_le_mul_right _ h1
    omega
  have tb := tw_bounds h0 hr
  have nb : 4503599627370496 ≤ fl n ∧ fl n < 1200 * 4503599627370496 := by
    have e : rg n 0 = rg (n * 2 ^ ul) (-1074) := by
      have e2 : (-1074 : Int) + ((ul : Nat) : Int) = 0 := by have := ul_eq; omega
      rw [rg_scale, e2]
    have lg : (n * 2 ^ ul).log2 = n.log2 + ul := log2_mul_pow (by omega) ul
    have ln : n.log2 < 25 := (Nat.log2_lt (by omega)).2 (Nat.lt_of_le_of_lt (Nat.le_mul_of_pos_right n hj) (by omega))
    have hul := ul_eq
    obtain ⟨b1, b2⟩ := rg_bounds (m := n * 2 ^ ul) (by omega)
    rw [bn.1, e]
    have c1 : 1 * 4503599627370496 ≤ ((n * 2 ^ ul).log2 - 51) * 4503599627370496 := Nat.mul_le_mul_right _ (by omega)
    have c2 : ((n * 2 ^ ul).log2 - 50) * 4503599627370496 ≤ 1199 * 4503599627370496 := Nat.mul_le_mul_right _ (by omega)
    omega
  have jb : j * 4503599627370496 ≤ 24 * 4503599627370496 := Nat.mul_le_mul_right _ (by omega)
  have hd := div_shift (a := tw r) (b := fl n) (j := j) tb.1 nb.1 (by omega) (by omega)
  rw [co_quo, co_quo, hd]
end Go.Proofs.YtoaccmblaifnmaaDoor.Rp
namespace Go.Proofs.YtoaccmblaifnmaaDoor.Rp
open Flo Ieee Ari

/-- finite, and at most A without its sign -/
def bd (x A : Nat) : Prop := fin x ∧ vl x ≤ A * 2 ^ ul
theorem rg_whole {A : Nat} (h : A < 9007199254740992) : rg (A * 2 ^ ul) (-1074) < 9218868437227405312 ∧ vr (rg (A * 2 ^ ul) (-1074)) = A * 2 ^ ul :=
  rg_rep (a := A) (k := ul) h (by
    calc A * 2 ^ ul < 2 ^ 53 * 2 ^ ul := Nat.mul_lt_mul_of_pos_right (by omega) (Nat.two_pow_pos _)
      _ = 2 ^ (53 + ul) := (Nat.pow_add ..).symm
      _ ≤ 2 ^ tp := Nat.pow_le_pow_right (by omega) (by have := ul_eq; have := tp_eq; omega))
theorem vr_le {r s : Nat} (h : r ≤ s) : vr r ≤ vr s := by
  rcases Nat.lt_or_eq_of_le h with h | h
  · exact Nat.le_of_lt (vr_mono h)
  · rw [h]; exact Nat.le_refl _
/-- what is at most A is rounded to at most A -/
theorem near_bd (s : Bool) {m A : Nat} (hA : A < 9007199254740992) (h : m ≤ A * 2 ^ ul) : bd (double.nearest s m (-1074)) A := by
  obtain ⟨w1, w2⟩ := rg_whole hA
  have hm := rg_mono_at h (-1074)
  rw [nearest_eq, Nat.min_eq_left (by omega)]
  obtain ⟨f1, _, f3⟩ := word_facts s (r := rg m (-1074)) (by omega)
  exact ⟨f1, by rw [f3, ← w2]; exact vr_le hm⟩
theorem bd_add {x y A B : Nat} (hx : bd x A) (hy : bd y B) (h : A + B < 9007199254740992) : ∃ r, double.add x y = some r ∧ bd r (A + B) := by
  refine ⟨_, add_fin hx.1 hy.1, near_bd _ h ?_⟩
  have e1 := vl_abs x
  have e2 := vl_abs y
  have h1 := hx.2
  have h2 := hy.2
  rw [Nat.add_mul]
  omega
theorem bd_ng {x A : Nat} (h : bd x A) : bd (ng x) A := ⟨fin_ng h.1, by rw [vl_ng h.1.1]; exact h.2⟩
theorem bd_sub {x y A B : Nat} (hx : bd x A) (hy : bd y B) (h : A + B < 9007199254740992) : ∃ r, double.sub x y = some r ∧ bd r (A + B) := by
  rw [sub_eq x hy.1.1]; exact bd_add hx (bd_ng hy) h
theorem bd_mul {x y B : Nat} (hx : bd x 1) (hy : bd y B) (h : B < 9007199254740992) : ∃ r, double.mul x y = some r ∧ bd r B := by
  refine ⟨_, mul_fin hx.1 hy.1, ?_⟩
  have hp : vl x * vl y ≤ (B * 2 ^ ul) * 2 ^ ul := by
    have := Nat.mul_le_mul hx.2 hy.2
    rw [Nat.one_mul, Nat.mul_comm (2 ^ ul)] at this
    exact this
  obtain ⟨w1, w2⟩ := rg_whole h
  have hm := rg_mono_at hp (-2148)
  have e2 : (-2148 : Int) + ((ul : Nat) : Int) = -1074 := by have := ul_eq; omega
  rw [rg_scale, e2] at hm
  rw [nearest_eq, Nat.min_eq_left (by omega)]
  obtain ⟨f1, _, f3⟩ := word_facts (sg x ^^ sg y) (r := rg (vl x * vl y) (-2148)) (by omega)
  exact ⟨f1, by rw [f3, ← w2]; exact vr_le hm⟩
theorem one_word : one = rg (1 * 2 ^ ul) (-1074) := by
  have h := fl_word (n := 1) (by decide) (by decide)
  have e2 : (-1074 : Int) + ((ul : Nat) : Int) = 0 := by have := ul_eq; omega
  rw [rg_scale, e2, ← h.1]
  decide
theorem bd_le {c : Nat} (h : c ≤ one) : bd c 1 := by
  have w := rg_whole (A := 1) (by decide)
  rw [← one_word] at w
  have ho : one < 9218868437227405312 := by decide
  refine ⟨⟨by omega, by rw [Nat.mod_eq_of_lt (by omega)]; omega⟩, ?_⟩
  unfold vl
  rw [Nat.mod_eq_of_lt (by omega), ← w.2]
  exact vr_le h
theorem co_sub (x y : Nat) : co .sub x y = (double.sub x y).getD 9221120237041090560 := by
  unfold co floatBits
  change (match double.sub x y with | some r => r | none => 9221120237041090560) = _
  cases double.sub x y <;> rfl
theorem bd_co_sub {x y A B : Nat} (hx : bd x A) (hy : bd y B) (h : A + B < 9007199254740992) : bd (co .sub x y) (A + B) := by
  obtain ⟨r, h1, h2⟩ := bd_sub hx hy h
  rw [co_sub, h1]; exact h2
theorem bd_co_mul {x y B : Nat} (hx : bd x 1) (hy : bd y B) (h : B < 9007199254740992) : bd (co .mul x y) B := by
  obtain ⟨r, h1, h2⟩ := bd_mul hx hy h
  rw [co_mul, h1]; exact h2
theorem quotient_num (d : Nat) (s t : Bool) (m n : Nat) (i j : Int) (h : n ≠ 0) : (Datum.number s m i).quotient d (.number t n j) =
    some (.number (s ^^ t) (2 * (m <<< (d + n.log2 - m.log2) / n) + (m <<< (d + n.log2 - m.log2) % n != 0).toNat) (i - j - (d + n.log2 - m.log2 : Nat) - 1)) := by
  unfold Datum.quotient
  simp only [if_neg h]
theorem write_num (s : Bool) (m : Nat) (i : Int) : double.write (.number s m i) = double.nearest s m i := rfl
/-- the quotient's digits, with the one for the rest, are at most those of 1 -/
theorem digits_le {m n p q k F : Nat} (hn : 0 < n) (h : m * 2 ^ p ≤ n * 2 ^ q) (hF : F + p = k + q) : 2 * (m * 2 ^ k / n) + (m * 2 ^ k % n != 0).toNat ≤ 2 ^ (F + 1) := by
  have hD : m * 2 ^ k ≤ n * 2 ^ F := by
    have h1 : m * 2 ^ k * 2 ^ p ≤ n * 2 ^ F * 2 ^ p := by
      have e1 : m * 2 ^ k * 2 ^ p = m * 2 ^ p * 2 ^ k := Nat.mul_right_comm _ _ _
      have e2 : n * 2 ^ F * 2 ^ p = n * 2 ^ q * 2 ^ k := by rw [Nat.mul_assoc, Nat.mul_assoc, ← Nat.pow_add, ← Nat.pow_add]; congr 2; omega
      rw [e1, e2]; exact Nat.mul_le_mul_right _ h
    exact Nat.le_of_mul_le_mul_right h1 (Nat.two_pow_pos p)
  rw [Nat.pow_succ]
  generalize m * 2 ^ k = D at *
  by_cases c : D = n * 2 ^ F
  · have e1 : D / n = 2 ^ F := by rw [c]; exact Nat.mul_div_cancel_left _ hn
    have e2 : D % n = 0 := by rw [c]; exact Nat.mul_mod_right _ _
    rw [e1, e2]
    have : (0 != 0 : Bool).toNat = 0 := rfl
    simp only [bne_self_eq_false, Bool.toNat_false]
    omega
  · have hlt : D / n < 2 ^ F := (Nat.div_lt_iff_lt_mul hn).2 (by rw [Nat.mul_comm]; omega)
    have hb : (D % n != 0).toNat ≤ 1 := Bool.toNat_le _
    omega
theorem log_gap {m n p q d : Nat} (hm : 0 < m) (h : m * 2 ^ p ≤ n * 2 ^ q) (hd : m.log2 ≤ d + n.log2) (hd1 : 1 ≤ d) : p ≤ (d + n.log2 - m.log2) + q := by
  apply Nat.le_of_not_lt
  intro hc
  have h1 := Nat.log2_self_le (n := m) (by omega)
  have h2 := @Nat.lt_log2_self n
  have h3 : 2 ^ m.log2 * 2 ^ p ≤ m * 2 ^ p := Nat.mul_le_mul_right _ h1
  have h4 : n * 2 ^ q < 2 ^ (n.log2 + 1) * 2 ^ q := Nat.mul_lt_mul_of_pos_right h2 (Nat.two_pow_pos q)
  have h5 : 2 ^ (m.log2 + p) < 2 ^ (n.log2 + 1 + q) := by
    rw [Nat.pow_add, Nat.pow_add 2 (n.log2 + 1)]; omega
  have h6 := (Nat.pow_lt_pow_iff_right (by omega : 1 < 2)).1 h5
  omega
/-- a quotient of a positive number by one that is no less is at most 1 -/
theorem div_word {a b : Nat} (ha : 0 < a) (hab : a ≤ b) (hb : b < 9218868437227405312) : co .quo a b ≤ one := by
  have m1 : a % 9223372036854775808 = a := Nat.mod_eq_of_lt (by omega)
  have m2 : b % 9223372036854775808 = b := Nat.mod_eq_of_lt (by omega)
  have r1 := read_fin a (by omega) (by rw [m1]; omega)
  have r2 := read_fin b (by omega) (by rw [m2]; omega)
  rw [m1, decide_eq_false (by omega)] at r1
  rw [m2, decide_eq_false (by omega)] at r2
  have hv : mg a * 2 ^ ex a ≤ mg b * 2 ^ ex b := vr_le hab
  have hma : 0 < mg a := by unfold mg ex; omega
  have hmb : 0 < mg b := by unfold mg ex; omega
  have hla : (mg a).log2 < 53 := (Nat.log2_lt (by omega)).2 (mg_lt a)
  have hfr : double.fractionBits + 2 = 54 := rfl
  have hq : double.div a b = some (double.nearest (false ^^ false) (2 * (mg a <<< (54 + (mg b).log2 - (mg a).log2) / mg b) + (mg a <<< (54 + (mg b).log2 - (mg a).log2) % mg b != 0).toNat) (double.leastPlace + ex a - (double.leastPlace + ex b) - (54 + (mg b).log2 - (mg a).log2 : Nat) - 1)) := by
    unfold Format.div
    rw [r1, r2, hfr, quotient_num 54 false false _ _ _ _ (by omega), Option.map_some, write_num]
  rw [co_quo, hq, Option.getD_some]
  have gap := log_gap (d := 54) hma hv (by omega) (by omega)
  generalize 54 + (mg b).log2 - (mg a).log2 = k at *
  obtain ⟨F, hF⟩ : ∃ F, F + ex a = k + ex b := ⟨k + ex b - ex a, by omega⟩
  have dl := digits_le (k := k) hmb hv hF
  rw [Nat.shiftLeft_eq]
  generalize 2 * (mg a * 2 ^ k / mg b) + (mg a * 2 ^ k % mg b != 0).toNat = N at *
  have he : double.leastPlace + (ex a : Int) - (double.leastPlace + (ex b : Int)) - (k : Int) - 1 = -((F + 1 : Nat) : Int) := by omega
  rw [he]
  have hm := rg_mono_at dl (-((F + 1 : Nat) : Int))
  have e1 : rg (2 ^ (F + 1)) (-((F + 1 : Nat) : Int)) = rg 1 0 := by
    have := rg_scale 1 (F + 1) (-((F + 1 : Nat) : Int))
    rw [Nat.one_mul, show (-((F + 1 : Nat) : Int)) + ((F + 1 : Nat) : Int) = 0 by omega] at this
    exact this
  have e2 : rg 1 0 = one := by
    have := one_word
    rw [rg_scale, show (-1074 : Int) + ((ul : Nat) : Int) = 0 by have := ul_eq; omega] at this
    exact this.symm
  rw [e1, e2] at hm
  have ho : one < 9218868437227405312 := by decide
  rw [nearest_eq, Nat.min_eq_left (by omega), word_eq, if_neg (by decide)]
  exact hm
theorem div_le_one {a b : Nat} (ha : 0 < a) (hab : a ≤ b) (hb : b < 9218868437227405312) : bd (co .quo a b) 1 := bd_le (div_word ha hab hb)
end Go.Proofs.YtoaccmblaifnmaaDoor.Rp
namespace Go.Proofs.YtoaccmblaifnmaaDoor.Rp
open Flo Ieee Ari

def ffac : Nat → Nat
  | 0 => one
  | 1 => one
  | n + 2 => co .mul (ffac (n + 1)) (fl ((n + 2 : Nat) : Int))
def cf (odd k : Nat) : Nat := co .quo one (ffac (2 * k + odd))
def ser (y odd : Nat) : Nat → Nat
  | 0 => cf odd 8
  | i + 1 => co .sub (cf odd (7 - i)) (co .mul y (ser y odd i))
def ang (r n : Nat) : Nat := co .quo (co .mul turn (fl r)) (fl n)
def eiC (r n : Nat) : Nat := if r = 0 then one else if 8 * r = n then half else ser (co .mul (ang r n) (ang r n)) 0 8
def eiS (r n : Nat) : Nat := if r = 0 then 0 else if 8 * r = n then half else co .mul (ang r n) (ser (co .mul (ang r n) (ang r n)) 1 8)

theorem cf_le (odd k : Nat) (ho : odd < 2) (hk : k < 9) : cf odd k ≤ one := by
  have key : ∀ o, o < 2 → ∀ j, j < 9 → cf o j ≤ one := by decide
  exact key odd ho k hk
theorem ser_bd {y odd : Nat} (ho : odd < 2) (hy : bd y 1) : ∀ i, i ≤ 8 → bd (ser y odd i) (i + 1) := by
  intro i
  induction i with
  | zero => intro _; exact bd_le (cf_le odd 8 ho (by omega))
  | succ i ih =>
    intro hi
    have h1 := bd_co_mul hy (ih (by omega)) (by omega)
    have h2 := bd_co_sub (bd_le (cf_le odd (7 - i) ho (by omega))) h1 (by omega)
    have e : 1 + (i + 1) = i + 1 + 1 := by omega
    rw [e] at h2
    exact h2
theorem fl_pos {n : Nat} (h0 : 0 < n) (h : n < 33554432) : 0 < fl n ∧ fl n < 9218868437227405312 := by
  obtain ⟨e, hl⟩ := fl_word h0 (by omega)
  rw [e]
  refine ⟨?_, hl⟩
  have h1 := rg_mono_at (show 1 ≤ n from h0) 0
  have e2 : rg 1 0 = one := by
    have := one_word
    rw [rg_scale, show (-1074 : Int) + ((ul : Nat) : Int) = 0 by have := ul_eq; omega] at this
    exact this.symm
  have : 0 < one := by decide
  omega
theorem ang_le {r n : Nat} (h0 : 0 < r) (h : 8 * r ≤ n) (hn : n < 33554432) : ang r n ≤ one := by
  have hr : r < 33554432 := by omega
  have m2 : co .mul turn (fl r) = tw r := by rw [co_mul, mul_turn h0 hr, Option.getD_some]
  unfold ang
  rw [m2]
  have tb := tw_bounds h0 hr
  have fp := fl_pos (n := n) (by omega) hn
  refine div_word (by omega) ?_ fp.2
  obtain ⟨e, hl⟩ := fl_word (n := n) (by omega) (by omega)
  rw [e]
  have hle : vl turn * r ≤ n * 2 ^ ul := by
    rw [vl_turn, show ul = 50 + te from by decide, Nat.pow_add, Nat.mul_right_comm, ← Nat.mul_assoc n]
    apply Nat.mul_le_mul_right
    omega
  have hm := rg_mono_at hle (-1074)
  rw [rg_scale, show (-1074 : Int) + ((ul : Nat) : Int) = 0 by have := ul_eq; omega] at hm
  exact hm
theorem ang_bd {r n : Nat} (h0 : 0 < r) (h : 8 * r ≤ n) (hn : n < 33554432) : bd (ang r n) 1 := bd_le (ang_le h0 h hn)
theorem eiC_bd {r n : Nat} (h : 8 * r ≤ n) (hn : n < 33554432) : bd (eiC r n) 9 := by
  unfold eiC
  split
  · have := bd_le (c := one) (Nat.le_refl _); exact ⟨this.1, Nat.le_trans this.2 (Nat.mul_le_mul_right _ (by omega))⟩
  · split
    · have := bd_le (c := half) (by decide); exact ⟨this.1, Nat.le_trans this.2 (Nat.mul_le_mul_right _ (by omega))⟩
    · have ha := ang_bd (r := r) (by omega) h hn
      exact ser_bd (by omega) (bd_co_mul ha ha (by omega)) 8 (Nat.le_refl _)
theorem eiS_bd {r n : Nat} (h : 8 * r ≤ n) (hn : n < 33554432) : bd (eiS r n) 9 := by
  unfold eiS
  split
  · have := bd_le (c := 0) (by decide); exact ⟨this.1, Nat.le_trans this.2 (Nat.mul_le_mul_right _ (by omega))⟩
  · split
    · have := bd_le (c := half) (by decide); exact ⟨this.1, Nat.le_trans this.2 (Nat.mul_le_mul_right _ (by omega))⟩
    · have ha := ang_bd (r := r) (by omega) h hn
      exact bd_co_mul ha (ser_bd (by omega) (bd_co_mul ha ha (by omega)) 8 (Nat.le_refl _)) (by omega)
theorem ei_scale {r n j : Nat} (h : 8 * r ≤ n) (hn : n * 2 ^ j < 33554432) : eiC (r * 2 ^ j) (n * 2 ^ j) = eiC r n ∧ eiS (r * 2 ^ j) (n * 2 ^ j) = eiS r n := by
  have hj := Nat.two_pow_pos j
  unfold eiC eiS
  by_cases h0 : r = 0
  · subst h0
    rw [Nat.zero_mul]
    simp
  · have h1 : ¬ r * 2 ^ j = 0 := Nat.mul_ne_zero h0 (by omega)
    have e8 : (8 * (r * 2 ^ j) = n * 2 ^ j) = (8 * r = n) := by
      apply propext
      rw [← Nat.mul_assoc]
      exact ⟨fun hh => Nat.eq_of_mul_eq_mul_right hj hh, fun hh => by rw [hh]⟩
    have hr : r * 2 ^ j < 33554432 := by
      have : 8 * r * 2 ^ j ≤ n * 2 ^ j := Nat.mul_le_mul_right _ h
      rw [Nat.mul_assoc] at this
      omega
    have ea : ang (r * 2 ^ j) (n * 2 ^ j) = ang r n := by
      unfold ang
      exact angle_scale (by omega) (by omega) hr hn
    simp only [if_neg h0, if_neg h1, e8, ea]
    exact ⟨trivial, trivial⟩
end Go.Proofs.YtoaccmblaifnmaaDoor.Rp
namespace Go.Proofs.YtoaccmblaifnmaaDoor.Rp
open Flo Ieee Ari

/-- a nought is the nought above -/
def zp (x : Nat) : Nat := if x % 9223372036854775808 = 0 then 0 else x
theorem zp_zp (x : Nat) : zp (zp x) = zp x := by
  unfold zp
  by_cases h : x % 9223372036854775808 = 0
  · rw [if_pos h]; rfl
  · rw [if_neg h, if_neg h]
theorem fin_zp {x : Nat} (h : fin x) : fin (zp x) := by
  unfold zp; split
  · exact ⟨by decide, by decide⟩
  · exact h
theorem zp_ng_zp {x : Nat} (h : x < 18446744073709551616) : zp (ng (zp x)) = zp (ng x) := by
  unfold zp
  rw [ng_mod h]
  by_cases h0 : x % 9223372036854775808 = 0
  · rw [if_pos h0, if_pos h0]; decide
  · rw [if_neg h0, if_neg h0, ng_mod h, if_neg h0]
theorem zp_pos (x : Nat) : zp x % 9223372036854775808 = 0 → zp x = 0 := by
  unfold zp
  split
  · intro _; rfl
  · intro h; contradiction
theorem zp_ng_ng {x : Nat} (h : x < 18446744073709551616) : zp (ng (zp (ng x))) = zp x := by
  rw [zp_ng_zp (ng_lt h), ng_ng h]

def bc (n r : Nat) : Nat := if 2 * r ≤ n then eiC r (4 * n) else eiS (n - r) (4 * n)
def bs (n r : Nat) : Nat := if 2 * r ≤ n then eiS r (4 * n) else eiC (n - r) (4 * n)
def qC (q c s : Nat) : Nat := if q = 1 then ng s else if q = 2 then ng c else if q = 3 then s else c
def qS (q c s : Nat) : Nat := if q = 1 then c else if q = 2 then ng s else if q = 3 then ng c else s
def pcQ (q n r : Nat) : Nat := zp (qC q (bc n r) (bs n r))
def psQ (q n r : Nat) : Nat := zp (qS q (bc n r) (bs n r))
def pc (n m : Nat) : Nat := pcQ (4 * m / n) n (4 * m % n)
def ps (n m : Nat) : Nat := psQ (4 * m / n) n (4 * m % n)
/-- the root's imaginary part -/
def pim (n m : Nat) : Nat := zp (ng (ps n m))
/-- k modulo n -/
def md (n : Nat) (k : Int) : Nat := (k % (n : Int)).toNat
theorem md_lt {n : Nat} (h : 0 < n) (k : Int) : md n k < n := by
  unfold md
  have := Int.emod_nonneg k (show (n : Int) ≠ 0 by omega)
  have := Int.emod_lt_of_pos k (show (0 : Int) < n by omega)
  omega
theorem md_eq {n : Nat} (h : 0 < n) (k : Int) : ((md n k : Nat) : Int) = k % (n : Int) := by
  unfold md
  have := Int.emod_nonneg k (show (n : Int) ≠ 0 by omega)
  omega

theorem bc_fin {n r : Nat} (h : r < n) (hn : n ≤ 4194304) : fin (bc n r) := by
  unfold bc; split
  · exact (eiC_bd (by omega) (by omega)).1
  · exact (eiS_bd (by omega) (by omega)).1
theorem bs_fin {n r : Nat} (h : r < n) (hn : n ≤ 4194304) : fin (bs n r) := by
  unfold bs; split
  · exact (eiS_bd (by omega) (by omega)).1
  · exact (eiC_bd (by omega) (by omega)).1
theorem qC_fin {q c s : Nat} (hc : fin c) (hs : fin s) : fin (qC q c s) := by
  unfold qC; split
  · exact fin_ng hs
  · split
    · exact fin_ng hc
    · split
      · exact hs
      · exact hc
theorem qS_fin {q c s : Nat} (hc : fin c) (hs : fin s) : fin (qS q c s) := by
  unfold qS; split
  · exact hc
  · split
    · exact fin_ng hs
    · split
      · exact fin_ng hc
      · exact hs
theorem pcQ_fin (q : Nat) {n r : Nat} (h : r < n) (hn : n ≤ 4194304) : fin (pcQ q n r) := fin_zp (qC_fin (bc_fin h hn) (bs_fin h hn))
theorem psQ_fin (q : Nat) {n r : Nat} (h : r < n) (hn : n ≤ 4194304) : fin (psQ q n r) := fin_zp (qS_fin (bc_fin h hn) (bs_fin h hn))
theorem pc_fin {n : Nat} (m : Nat) (h : 0 < n) (hn : n ≤ 4194304) : fin (pc n m) := pcQ_fin _ (Nat.mod_lt _ h) hn
theorem ps_fin {n : Nat} (m : Nat) (h : 0 < n) (hn : n ≤ 4194304) : fin (ps n m) := psQ_fin _ (Nat.mod_lt _ h) hn
theorem pim_fin {n : Nat} (m : Nat) (h : 0 < n) (hn : n ≤ 4194304) : fin (pim n m) := fin_zp (fin_ng (ps_fin m h hn))
theorem zp_pc (n m : Nat) : zp (pc n m) = pc n m := zp_zp _
theorem zp_ps (n m : Nat) : zp (ps n m) = ps n m := zp_zp _
theorem zp_pim (n m : Nat) : zp (pim n m) = pim n m := zp_zp _

theorem qC0 (c s : Nat) : qC 0 c s = c := by unfold qC; rw [if_neg (by decide), if_neg (by decide), if_neg (by decide)]
theorem qC1 (c s : Nat) : qC 1 c s = ng s := by unfold qC; rw [if_pos rfl]
theorem qC2 (c s : Nat) : qC 2 c s = ng c := by unfold qC; rw [if_neg (by decide), if_pos rfl]
theorem qC3 (c s : Nat) : qC 3 c s = s := by unfold qC; rw [if_neg (by decide), if_neg (by decide), if_pos rfl]
theorem qS0 (c s : Nat) : qS 0 c s = s := by unfold qS; rw [if_neg (by decide), if_neg (by decide), if_neg (by decide)]
theorem qS1 (c s : Nat) : qS 1 c s = c := by unfold qS; rw [if_pos rfl]
theorem qS2 (c s : Nat) : qS 2 c s = ng s := by unfold qS; rw [if_neg (by decide), if_pos rfl]
theorem qS3 (c s : Nat) : qS 3 c s = ng c := by unfold qS; rw [if_neg (by decide), if_neg (by decide), if_pos rfl]
/-- a quarter turn on -/
theorem quarterQ {q n r : Nat} (hq : q < 4) (h : r < n) (hn : n ≤ 4194304) : pcQ ((q + 1) % 4) n r = zp (ng (psQ q n r)) ∧ psQ ((q + 1) % 4) n r = pcQ q n r := by
  have fc := (bc_fin h hn).1
  have fs := (bs_fin h hn).1
  unfold pcQ psQ
  generalize bc n r = c at *
  generalize bs n r = s at *
  rcases (by omega : q = 0 ∨ q = 1 ∨ q = 2 ∨ q = 3) with rfl | rfl | rfl | rfl
  · show zp (qC 1 c s) = zp (ng (zp (qS 0 c s))) ∧ zp (qS 1 c s) = zp (qC 0 c s)
    rw [qC1, qS0, qS1, qC0, zp_ng_zp fs]
    exact ⟨rfl, rfl⟩
  · show zp (qC 2 c s) = zp (ng (zp (qS 1 c s))) ∧ zp (qS 2 c s) = zp (qC 1 c s)
    rw [qC2, qS1, qS2, qC1, zp_ng_zp fc]
    exact ⟨rfl, rfl⟩
  · show zp (qC 3 c s) = zp (ng (zp (qS 2 c s))) ∧ zp (qS 3 c s) = zp (qC 2 c s)
    rw [qC3, qS2, qS3, qC2, zp_ng_ng fs]
    exact ⟨rfl, rfl⟩
  · show zp (qC 0 c s) = zp (ng (zp (qS 3 c s))) ∧ zp (qS 0 c s) = zp (qC 3 c s)
    rw [qC0, qS3, qS0, qC3, zp_ng_ng fc]
    exact ⟨rfl, rfl⟩
theorem eq_half {r n : Nat} (h0 : r ≠ 0) (h : 8 * r = n) : eiC r n = half ∧ eiS r n = half := by
  unfold eiC eiS
  rw [if_neg h0, if_pos h, if_neg h0, if_pos h]
  exact ⟨rfl, rfl⟩
theorem b_back {n r : Nat} (h0 : 0 < r) (h : r < n) : bc n (n - r) = bs n r ∧ bs n (n - r) = bc n r := by
  unfold bc bs
  rw [show n - (n - r) = r by omega]
  rcases Nat.lt_trichotomy (2 * r) n with h2 | h2 | h2
  · rw [if_neg (by omega), if_pos (by omega), if_neg (by omega), if_pos (by omega)]; exact ⟨rfl, rfl⟩
  · rw [if_pos (by omega), if_pos (by omega), if_pos (by omega), if_pos (by omega), show n - r = r by omega]
    have e := eq_half (r := r) (n := 4 * n) (by omega) (by omega)
    rw [e.1, e.2]; exact ⟨rfl, rfl⟩
  · rw [if_pos (by omega), if_neg (by omega), if_pos (by omega), if_neg (by omega)]; exact ⟨rfl, rfl⟩
/-- the way back -/
theorem backQ {q n r : Nat} (hq : q < 4) (h0 : 0 < r) (h : r < n) (hn : n ≤ 4194304) : pcQ (3 - q) n (n - r) = pcQ q n r ∧ psQ (3 - q) n (n - r) = zp (ng (psQ q n r)) := by
  have fc := (bc_fin h hn).1
  have fs := (bs_fin h hn).1
  have e := b_back h0 h
  unfold pcQ psQ
  rw [e.1, e.2]
  generalize bc n r = c at *
  generalize bs n r = s at *
  rcases (by omega : q = 0 ∨ q = 1 ∨ q = 2 ∨ q = 3) with rfl | rfl | rfl | rfl
  · show zp (qC 3 s c) = zp (qC 0 c s) ∧ zp (qS 3 s c) = zp (ng (zp (qS 0 c s)))
    rw [qC3, qC0, qS3, qS0, zp_ng_zp fs]
    exact ⟨rfl, rfl⟩
  · show zp (qC 2 s c) = zp (qC 1 c s) ∧ zp (qS 2 s c) = zp (ng (zp (qS 1 c s)))
    rw [qC2, qC1, qS2, qS1, zp_ng_zp fc]
    exact ⟨rfl, rfl⟩
  · show zp (qC 1 s c) = zp (qC 2 c s) ∧ zp (qS 1 s c) = zp (ng (zp (qS 2 c s)))
    rw [qC1, qC2, qS1, qS2, zp_ng_ng fs]
    exact ⟨rfl, rfl⟩
  · show zp (qC 0 s c) = zp (qC 3 c s) ∧ zp (qS 0 s c) = zp (ng (zp (qS 3 c s)))
    rw [qC0, qC3, qS0, qS3, zp_ng_ng fc]
    exact ⟨rfl, rfl⟩
theorem b_zero (n : Nat) : bc n 0 = one ∧ bs n 0 = 0 := by
  unfold bc bs eiC eiS
  simp
theorem backQ0 {q n : Nat} (h0 : 0 < q) (hq : q < 4) : pcQ (4 - q) n 0 = pcQ q n 0 ∧ psQ (4 - q) n 0 = zp (ng (psQ q n 0)) := by
  unfold pcQ psQ
  rw [(b_zero n).1, (b_zero n).2]
  rcases (by omega : q = 1 ∨ q = 2 ∨ q = 3) with rfl | rfl | rfl <;> decide
theorem qr_of {n a q r : Nat} (h : a = q * n + r) (hr : r < n) : a / n = q ∧ a % n = r := by
  subst h
  have hn : 0 < n := by omega
  refine ⟨?_, ?_⟩
  · rw [Nat.mul_comm q n, Nat.mul_add_div hn, Nat.div_eq_of_lt hr]; omega
  · rw [Nat.mul_comm q n, Nat.mul_add_mod, Nat.mod_eq_of_lt hr]
theorem parts {n m : Nat} (h : m < n) : ∃ q r, 4 * m / n = q ∧ 4 * m % n = r ∧ 4 * m = q * n + r ∧ r < n ∧ q < 4 := by
  have hn : 0 < n := by omega
  refine ⟨_, _, rfl, rfl, ?_, Nat.mod_lt _ hn, (Nat.div_lt_iff_lt_mul hn).2 (by omega)⟩
  have := Nat.div_add_mod (4 * m) n
  rw [Nat.mul_comm] at this; omega
/-- a common factor of two -/
theorem pair_scale {n m j : Nat} (h : m < n) (hn : n * 2 ^ j ≤ 4194304) : pc (n * 2 ^ j) (m * 2 ^ j) = pc n m ∧ ps (n * 2 ^ j) (m * 2 ^ j) = ps n m := by
  have hj := Nat.two_pow_pos j
  obtain ⟨q, r, e1, e2, e3, hr, hq⟩ := parts h
  have hr2 : r * 2 ^ j < n * 2 ^ j := Nat.mul_lt_mul_of_pos_right hr hj
  have e4 : 4 * (m * 2 ^ j) = q * (n * 2 ^ j) + r * 2 ^ j := by
    rw [← Nat.mul_assoc, e3, Nat.add_mul, Nat.mul_assoc]
  obtain ⟨d1, d2⟩ := qr_of e4 hr2
  have hb : bc (n * 2 ^ j) (r * 2 ^ j) = bc n r ∧ bs (n * 2 ^ j) (r * 2 ^ j) = bs n r := by
    unfold bc bs
    have c1 : (2 * (r * 2 ^ j) ≤ n * 2 ^ j) = (2 * r ≤ n) := by
      apply propext
      rw [← Nat.mul_assoc]
      exact Nat.mul_le_mul_right_iff hj
    have e5 : 4 * (n * 2 ^ j) = 4 * n * 2 ^ j := by rw [Nat.mul_assoc]
    have e6 : n * 2 ^ j - r * 2 ^ j = (n - r) * 2 ^ j := by rw [Nat.sub_mul]
    have hn4 : 4 * n * 2 ^ j < 33554432 := by rw [← e5]; omega
    simp only [c1, e5, e6]
    by_cases h2 : 2 * r ≤ n
    · have s := ei_scale (r := r) (n := 4 * n) (j := j) (by omega) hn4
      rw [if_pos h2, if_pos h2, if_pos h2, if_pos h2]
      exact s
    · have s := ei_scale (r := n - r) (n := 4 * n) (j := j) (by omega) hn4
      rw [if_neg h2, if_neg h2, if_neg h2, if_neg h2]
      exact ⟨s.2, s.1⟩
  unfold pc ps pcQ psQ
  rw [d1, d2, e1, e2, hb.1, hb.2]
  exact ⟨rfl, rfl⟩
/-- the way back -/
theorem pair_back {n m : Nat} (h0 : 0 < m) (h : m < n) (hn : n ≤ 4194304) : pc n (n - m) = pc n m ∧ ps n (n - m) = zp (ng (ps n m)) := by
  obtain ⟨q, r, e1, e2, e3, hr, hq⟩ := parts h
  unfold pc ps
  rw [e1, e2]
  by_cases hz : r = 0
  · subst hz
    have q0 : 0 < q := by
      rcases Nat.eq_zero_or_pos q with h | h
      · subst h; omega
      · exact h
    have e4 : 4 * (n - m) = (4 - q) * n + 0 := by rw [Nat.sub_mul]; omega
    obtain ⟨d1, d2⟩ := qr_of e4 (by omega)
    rw [d1, d2]
    exact backQ0 q0 hq
  · have e4 : 4 * (n - m) = (3 - q) * n + (n - r) := by
      have : q * n + n ≤ 4 * n := by
        have := Nat.mul_le_mul_right n (show q + 1 ≤ 4 by omega)
        rw [Nat.add_mul] at this; omega
      rw [Nat.sub_mul]; omega
    obtain ⟨d1, d2⟩ := qr_of e4 (by omega)
    rw [d1, d2]
    exact backQ hq (by omega) hr hn
/-- a quarter turn on -/
theorem pair_quarter {n m t : Nat} (h : m < n) (hn : n ≤ 4194304) (ht : n = 4 * t) : pc n ((m + t) % n) = zp (ng (ps n m)) ∧ ps n ((m + t) % n) = pc n m := by
  obtain ⟨q, r, e1, e2, e3, hr, hq⟩ := parts h
  have t0 : 0 < t := by omega
  have e4 : 4 * ((m + t) % n) = ((q + 1) % 4) * n + r := by
    by_cases h3 : q = 3
    · subst h3
      have hge : n ≤ m + t := by omega
      rw [Nat.mod_eq_sub_mod hge, Nat.mod_eq_of_lt (by omega)]
      omega
    · have hlt : m + t < n := by
        have := Nat.mul_le_mul_right n (show q ≤ 2 by omega)
        omega
      rw [Nat.mod_eq_of_lt hlt, Nat.mod_eq_of_lt (show q + 1 < 4 by omega), Nat.add_mul]
      omega
  obtain ⟨d1, d2⟩ := qr_of e4 hr
  unfold pc ps
  rw [d1, d2, e1, e2]
  exact quarterQ hq hr hn
/-- half a turn on -/
theorem pair_half {n m t : Nat} (h : m < n) (hn : n ≤ 4194304) (ht : n = 2 * t) : pc n ((m + t) % n) = zp (ng (pc n m)) ∧ ps n ((m + t) % n) = zp (ng (ps n m)) := by
  obtain ⟨q, r, e1, e2, e3, hr, hq⟩ := parts h
  have e4 : 4 * ((m + t) % n) = ((q + 1) % 4 + 1) % 4 * n + r := by
    by_cases h3 : 2 ≤ q
    · have hge : n ≤ m + t := by
        have := Nat.mul_le_mul_right n h3
        omega
      rw [Nat.mod_eq_sub_mod hge, Nat.mod_eq_of_lt (by omega)]
      rcases (by omega : q = 2 ∨ q = 3) with rfl | rfl <;> simp only [Nat.reduceAdd, Nat.reduceMod] <;> omega
    · have hlt : m + t < n := by
        have := Nat.mul_le_mul_right n (show q ≤ 1 by omega)
        omega
      rw [Nat.mod_eq_of_lt hlt]
      rcases (by omega : q = 0 ∨ q = 1) with rfl | rfl <;> simp only [Nat.reduceAdd, Nat.reduceMod] <;> omega
  obtain ⟨d1, d2⟩ := qr_of e4 hr
  have q1 := quarterQ hq hr hn
  have q2 := quarterQ (q := (q + 1) % 4) (by omega) hr hn
  unfold pc ps
  rw [d1, d2, e1, e2, q2.1, q2.2, q1.1, q1.2]
  exact ⟨rfl, rfl⟩
/-- the exact places -/
theorem pair_zero (n : Nat) : pc n 0 = one ∧ ps n 0 = 0 := by
  unfold pc ps pcQ psQ
  rw [Nat.mul_zero, Nat.zero_div, Nat.zero_mod, (b_zero n).1, (b_zero n).2]
  decide
theorem pair_at {n m q : Nat} (hm : 4 * m = q * n) (hn : 0 < n) : pc n m = zp (qC q one 0) ∧ ps n m = zp (qS q one 0) := by
  obtain ⟨d1, d2⟩ := qr_of (q := q) (r := 0) (n := n) (a := 4 * m) (by omega) hn
  unfold pc ps pcQ psQ
  rw [d1, d2, (b_zero n).1, (b_zero n).2]
  exact ⟨rfl, rfl⟩
theorem pair_eighth {n m : Nat} (hm : n = 8 * m) (h0 : 0 < m) : pc n m = half ∧ ps n m = half := by
  obtain ⟨d1, d2⟩ := qr_of (q := 0) (r := 4 * m) (n := n) (a := 4 * m) (by omega) (by omega)
  have e := eq_half (r := 4 * m) (n := 4 * n) (by omega) (by omega)
  unfold pc ps pcQ psQ bc bs
  rw [d1, d2, if_pos (by omega), if_pos (by omega), e.1, e.2]
  decide
end Go.Proofs.YtoaccmblaifnmaaDoor.Rp
/-
  Layer 10, plain: a pair twisted, the sum k of elements, each operation said; all of it hangs on the operands up to which NaN they are alone. Sums and differences of complex numbers in the walk.
-/
namespace Go.Proofs.YtoaccmblaifnmaaDoor
open Flo Go.RowKit Ieee

/-- alike -/
def Lk (z u : Nat × Nat) : Prop := bt z.1 = bt u.1 ∧ bt z.2 = bt u.2
theorem Lk.refl (z : Nat × Nat) : Lk z z := ⟨rfl, rfl⟩
theorem Lk.symm {z u : Nat × Nat} (h : Lk z u) : Lk u z := ⟨h.1.symm, h.2.symm⟩
theorem Lk.trans {z u v : Nat × Nat} (h : Lk z u) (k : Lk u v) : Lk z v := ⟨h.1.trans k.1, h.2.trans k.2⟩
theorem Lk.of_eq {z u : Nat × Nat} (h : z = u) : Lk z u := h ▸ Lk.refl _
theorem mulRe_of {a b u v : Nat} (c d : Nat) (h1 : bt a = bt u) (h2 : bt b = bt v) : mulRe a b c d = mulRe u v c d := by
  unfold mulRe; rw [co_of (op := .mul) h1 (rfl : bt c = bt c), co_of (op := .mul) h2 (rfl : bt d = bt d)]
theorem mulIm_of {a b u v : Nat} (c d : Nat) (h1 : bt a = bt u) (h2 : bt b = bt v) : mulIm a b c d = mulIm u v c d := by
  unfold mulIm; rw [co_of (op := .mul) h1 (rfl : bt d = bt d), co_of (op := .mul) h2 (rfl : bt c = bt c)]
theorem bt_mulRe (a b c d : Nat) : bt (mulRe a b c d) = mulRe a b c d := bt_co ..
theorem bt_mulIm (a b c d : Nat) : bt (mulIm a b c d) = mulIm a b c d := bt_co ..
/-- a pair times another -/
def mlc (z u : Nat × Nat) : Nat × Nat := (mulRe z.1 z.2 u.1 u.2, mulIm z.1 z.2 u.1 u.2)
/-- a pair twisted by the root m of n -/
def tws (n m : Nat) (z : Nat × Nat) : Nat × Nat := if m = 0 then z else mlc z (Rp.pc n m, Rp.pim n m)
theorem Lk.mlc {z u : Nat × Nat} (h : Lk z u) (r : Nat × Nat) : mlc z r = mlc u r := by
  unfold Go.Proofs.YtoaccmblaifnmaaDoor.mlc; rw [mulRe_of _ _ h.1 h.2, mulIm_of _ _ h.1 h.2]
theorem Lk.tws {n m : Nat} {z u : Nat × Nat} (h : Lk z u) : Lk (tws n m z) (tws n m u) := by
  unfold Go.Proofs.YtoaccmblaifnmaaDoor.tws
  split
  · exact h
  · rw [h.mlc]; exact Lk.refl _
def adc (z u : Nat × Nat) : Nat × Nat := (co .add z.1 u.1, co .add z.2 u.2)
def sbc (z u : Nat × Nat) : Nat × Nat := (co .sub z.1 u.1, co .sub z.2 u.2)
theorem adc_of {z u z' u' : Nat × Nat} (h : Lk z z') (k : Lk u u') : adc z u = adc z' u' := by
  unfold adc; rw [co_of h.1 k.1, co_of h.2 k.2]
theorem sbc_of {z u z' u' : Nat × Nat} (h : Lk z z') (k : Lk u u') : sbc z u = sbc z' u' := by
  unfold sbc; rw [co_of h.1 k.1, co_of h.2 k.2]
/-- the sum k of n elements, as far as element j -/
def dst (n k : Nat) (f : Nat → Nat × Nat) : Nat → Nat × Nat
  | 0 => f 0
  | j + 1 => adc (dst n k f j) (tws n ((j + 1) * k % n) (f (j + 1)))
def dsm (n k : Nat) (f : Nat → Nat × Nat) : Nat × Nat := dst n k f (n - 1)
theorem dst_lk {n k : Nat} {f g : Nat → Nat × Nat} : ∀ {j : Nat}, (∀ i, i ≤ j → Lk (f i) (g i)) → Lk (dst n k f j) (dst n k g j)
  | 0, h => h 0 (Nat.le_refl _)
  | j + 1, h => Lk.of_eq (adc_of (dst_lk fun i hi => h i (by omega)) (Lk.tws (h (j + 1) (Nat.le_refl _))))
theorem dsm_lk {n k : Nat} {f g : Nat → Nat × Nat} (hn : 0 < n) (h : ∀ i, i < n → Lk (f i) (g i)) : Lk (dsm n k f) (dsm n k g) := dst_lk fun i hi => h i (by omega)
theorem turn_step (n k j : Nat) : (j * k % n + k) % n = (j + 1) * k % n := by
  rw [Nat.mod_add_mod, Nat.succ_mul]
/-- the list of the sums -/
def fwd (zs : List (Nat × Nat)) : List (Nat × Nat) := (List.range zs.length).map fun k => dsm zs.length k fun j => zs.getD j (0, 0)
theorem fwd_len (zs : List (Nat × Nat)) : (fwd zs).length = zs.length := by simp [fwd]
/-- lists alike -/
def Lks (zs us : List (Nat × Nat)) : Prop := zs.length = us.length ∧ ∀ i, i < zs.length → Lk (zs.getD i (0, 0)) (us.getD i (0, 0))
theorem Lks.refl (zs : List (Nat × Nat)) : Lks zs zs := ⟨rfl, fun _ _ => Lk.refl _⟩
theorem Lks.symm {zs us : List (Nat × Nat)} (h : Lks zs us) : Lks us zs := ⟨h.1.symm, fun i hi => (h.2 i (by rw [h.1]; exact hi)).symm⟩
theorem Lks.trans {zs us vs : List (Nat × Nat)} (h : Lks zs us) (k : Lks us vs) : Lks zs vs := ⟨h.1.trans k.1, fun i hi => (h.2 i hi).trans (k.2 i (by rw [← h.1]; exact hi))⟩
theorem getD_map_range {α : Type} (n i : Nat) (f : Nat → α) (d : α) (h : i < n) : ((List.range n).map f).getD i d = f i := by
  simp [List.getD, h]
theorem fwd_at {zs : List (Nat × Nat)} {k : Nat} (h : k < zs.length) : (fwd zs).getD k (0, 0) = dsm zs.length k fun j => zs.getD j (0, 0) := getD_map_range _ _ _ _ h
theorem Lks.fwd {zs us : List (Nat × Nat)} (h : Lks zs us) : Lks (fwd zs) (fwd us) := by
  refine ⟨by rw [fwd_len, fwd_len, h.1], fun i hi => ?_⟩
  rw [fwd_len] at hi
  rw [fwd_at hi, fwd_at (by rw [← h.1]; exact hi), ← h.1]
  exact dsm_lk (by omega) h.2
theorem bt_ng_of {x u : Nat} (hx : x < 18446744073709551616) (hu : u < 18446744073709551616) (h : bt x = bt u) : bt (Ari.ng x) = bt (Ari.ng u) := by
  have hn : nanB x = nanB u := by rw [← nan_bt x, h, nan_bt]
  rw [bt_ng hx, bt_ng hu, hn]
  cases h2 : nanB u
  · rw [h2] at hn
    rw [bt_fin hn, bt_fin h2] at h
    rw [h]
  · rw [if_pos rfl, if_pos rfl]
/-- conjugate -/
def cjp (z : Nat × Nat) : Nat × Nat := (z.1, Ari.ng z.2)
/-- part by part over n -/
def ovp (n : Nat) (z : Nat × Nat) : Nat × Nat := (co .quo z.1 (intF n), co .quo z.2 (intF n))
theorem Lk.cjp {z u : Nat × Nat} (h : Lk z u) (h1 : z.2 < 18446744073709551616) (h2 : u.2 < 18446744073709551616) : Lk (cjp z) (cjp u) := ⟨h.1, bt_ng_of h1 h2 h.2⟩
theorem Lk.ovp {z u : Nat × Nat} (n : Nat) (h : Lk z u) : ovp n z = ovp n u := by
  unfold Go.Proofs.YtoaccmblaifnmaaDoor.ovp; rw [co_of_left h.1, co_of_left h.2]
theorem adc_lt (z u : Nat × Nat) : (adc z u).1 < 18446744073709551616 ∧ (adc z u).2 < 18446744073709551616 := ⟨co_lt .., co_lt ..⟩
theorem dst_lt {n k : Nat} {f : Nat → Nat × Nat} (h : (f 0).1 < 18446744073709551616 ∧ (f 0).2 < 18446744073709551616) : ∀ j, (dst n k f j).1 < 18446744073709551616 ∧ (dst n k f j).2 < 18446744073709551616
  | 0 => h
  | _ + 1 => adc_lt ..
/-- the inverse transform's element k -/
def ivk (n k : Nat) (f : Nat → Nat × Nat) : Nat × Nat := ovp n (cjp (dsm n k fun j => cjp (f j)))
/-- the list one element on -/
def sld (n : Nat) (g v : Nat × Nat) (f : Nat → Nat × Nat) (k : Nat) : Nat × Nat := tws n ((n - k) % n) (adc (sbc (f k) g) v)
/-- all parts are words -/
def Lim (zs : List (Nat × Nat)) : Prop := ∀ i, i < zs.length → (zs.getD i (0, 0)).1 < 18446744073709551616 ∧ (zs.getD i (0, 0)).2 < 18446744073709551616

section
variable {P : Program}
theorem run_carith' {op : BinOp} (h : arith op = true) (x y : Nat) (w : World) : (Op.Complex.arith op .f64 x y).run P w = .ok (fr op x y w) (w.drewN (fk op x y)) := by
  have e : (Op.floatArith op .f64 x y).run P w = .ok (.float .f64 (fr op x y w)) (w.drewN (fk op x y)) := by
    have := run_fop (P := P) h 0 x y w
    cases op <;> simp only [arith, Bool.false_eq_true] at h <;> simpa [binOp] using this
  simp [Op.Complex.arith, e]
theorem run_cadd (t : TypeId) (a b c d : Nat) (w : World) : (binOp .add t (.complex .f64 a b) (.complex .f64 c d)).run P w = .ok (.complex .f64 (fr .add a c w) (fr .add b d (w.drewN (fk .add a c)))) ((w.drewN (fk .add a c)).drewN (fk .add b d)) := by
  simp [binOp, Op.complexOp, run_carith' (P := P) (op := .add) rfl]
theorem run_csub (t : TypeId) (a b c d : Nat) (w : World) : (binOp .sub t (.complex .f64 a b) (.complex .f64 c d)).run P w = .ok (.complex .f64 (fr .sub a c w) (fr .sub b d (w.drewN (fk .sub a c)))) ((w.drewN (fk .sub a c)).drewN (fk .sub b d)) := by
  simp [binOp, Op.complexOp, run_carith' (P := P) (op := .sub) rfl]
end
/-- a complex number comes back that is alike to z; the world has drawn, if anything -/
def RZ (w : World) (z : Nat × Nat) (e : Ending) (w' : World) : Prop :=
  ∃ x y k, e = .returned (.complex .f64 x y) ∧ w' = w.drewN k ∧ x < 18446744073709551616 ∧ y < 18446744073709551616 ∧ Lk (x, y) z
theorem RC.z {w w' : World} {a b : Nat} {e : Ending} (h : RC w a b e w') (ha : bt a = a) (hb : bt b = b) : RZ w (a, b) e w' := by
  obtain ⟨x, y, k, h1, h2, h3, h4, h5, h6⟩ := h
  exact ⟨x, y, k, h1, h2, h3, h4, h5.trans ha.symm, h6.trans hb.symm⟩
end Go.Proofs.YtoaccmblaifnmaaDoor
/-
  Plain mathematics of the roots: every step of the series lies between 0 and its coefficient, so each part of an eighth lies from 0 to 1 and is no nought below. No condition; nothing of the program.
-/
namespace Go.Proofs.YtoaccmblaifnmaaDoor.Rp
open Flo Ieee Ari

theorem sg_word {c : Nat} (h : c < 9223372036854775808) : sg c = false := by unfold sg; exact decide_eq_false (by omega)
theorem vl_word {c : Nat} (h : c < 9223372036854775808) : vl c = vr c := by unfold vl; rw [Nat.mod_eq_of_lt h]
theorem fz_word {c : Nat} (h : c < 9223372036854775808) : fz c = (vr c : Int) := by unfold fz; rw [sg_word h, vl_word h]; rfl
theorem fin_word {c : Nat} (h : c < 9218868437227405312) : fin c := ⟨by omega, by rw [Nat.mod_eq_of_lt (by omega)]; omega⟩
theorem vr_one : vr one = 2 ^ ul := by
  have w := rg_whole (A := 1) (by decide)
  rw [← one_word, Nat.one_mul] at w
  exact w.2
theorem one_lt : one < 9218868437227405312 := by decide
/-- a finite word that is not below 0 is kept as it is -/
theorem rg_word {c : Nat} (h : c < 9218868437227405312) : rg (vr c) (-1074) = c := by
  have hb : mg c * 2 ^ ex c < 2 ^ tp := by
    have h1 := mg_lt c
    have h2 : ex c ≤ 2045 := by unfold ex; omega
    calc mg c * 2 ^ ex c < 2 ^ 53 * 2 ^ ex c := Nat.mul_lt_mul_of_pos_right h1 (Nat.two_pow_pos _)
      _ = 2 ^ (53 + ex c) := (Nat.pow_add ..).symm
      _ ≤ 2 ^ tp := Nat.pow_le_pow_right (by omega) (by have := tp_eq; omega)
  have := rg_rep (a := mg c) (k := ex c) (mg_lt c) hb
  exact vr_inj.1 this.2
theorem mul_word {x y c : Nat} (hx : x ≤ one) (hy : y ≤ c) (hc : c < 9218868437227405312) : co .mul x y ≤ c := by
  have ho := one_lt
  rw [co_mul, mul_fin (fin_word (by omega)) (fin_word (by omega)), Option.getD_some, sg_word (by omega), sg_word (by omega), vl_word (by omega), vl_word (by omega), nearest_eq, word_eq, if_neg (by decide)]
  have hp : vr x * vr y ≤ vr c * 2 ^ ul := by
    rw [Nat.mul_comm, ← vr_one]
    exact Nat.mul_le_mul (vr_le hy) (vr_le hx)
  have hm := rg_mono_at hp (-2148)
  rw [rg_scale, show (-2148 : Int) + ((ul : Nat) : Int) = -1074 by have := ul_eq; omega, rg_word hc] at hm
  omega
theorem sub_word {c z : Nat} (hz : z ≤ c) (hc : c < 9218868437227405312) : co .sub c z ≤ c := by
  rw [co_sub, sub_eq c (by omega), add_fin (fin_word hc) (fin_ng (fin_word (by omega))), Option.getD_some, fz_ng (by omega), fz_word (by omega), fz_word (by omega)]
  have hv := vr_le hz
  have hs : (if (vr c : Int) + -(vr z : Int) = 0 then sg c && sg (ng z) else decide ((vr c : Int) + -(vr z : Int) < 0)) = false := by
    split
    · rw [sg_word (by omega)]; rfl
    · exact decide_eq_false (by omega)
  rw [hs]
  have e : ((vr c : Int) + -(vr z : Int)).natAbs = vr c - vr z := by omega
  rw [e, nearest_eq, word_eq, if_neg (by decide)]
  have hm := rg_mono_at (Nat.sub_le (vr c) (vr z)) (-1074)
  rw [rg_word hc] at hm
  omega
theorem cf_falls {odd k : Nat} (ho : odd < 2) (hk : k < 8) : cf odd (k + 1) ≤ cf odd k := by
  have key : ∀ o, o < 2 → ∀ j, j < 8 → cf o (j + 1) ≤ cf o j := by decide
  exact key odd ho k hk
theorem ser_le {y odd : Nat} (ho : odd < 2) (hy : y ≤ one) : ∀ i, i ≤ 8 → ser y odd i ≤ cf odd (8 - i) := by
  intro i
  induction i with
  | zero => intro _; exact Nat.le_refl _
  | succ i ih =>
    intro hi
    have o := one_lt
    have c0 := cf_le odd (7 - i) ho (by omega)
    have c1 := cf_le odd (8 - i) ho (by omega)
    have cd := cf_falls (k := 7 - i) ho (by omega)
    rw [show 7 - i + 1 = 8 - i by omega] at cd
    have hz := mul_word hy (ih (by omega)) (by omega)
    rw [show 8 - (i + 1) = 7 - i by omega]
    exact sub_word (by omega) (by omega)
theorem cf_zero (odd : Nat) (ho : odd < 2) : cf odd 0 = one := by
  have key : ∀ o, o < 2 → cf o 0 = one := by decide
  exact key odd ho
theorem ser_le_one {y odd : Nat} (ho : odd < 2) (hy : y ≤ one) : ser y odd 8 ≤ one := by
  have := ser_le ho hy 8 (Nat.le_refl _)
  rw [show 8 - 8 = 0 from rfl, cf_zero odd ho] at this
  exact this
theorem eiC_le {r n : Nat} (h : 8 * r ≤ n) (hn : n < 33554432) : eiC r n ≤ one := by
  unfold eiC
  split
  · exact Nat.le_refl _
  · split
    · decide
    · have ha := ang_le (r := r) (by omega) h hn
      exact ser_le_one (by omega) (mul_word ha ha one_lt)
theorem eiS_le {r n : Nat} (h : 8 * r ≤ n) (hn : n < 33554432) : eiS r n ≤ one := by
  unfold eiS
  split
  · decide
  · split
    · decide
    · have ha := ang_le (r := r) (by omega) h hn
      exact mul_word ha (ser_le_one (by omega) (mul_word ha ha one_lt)) one_lt
theorem zp_word {x : Nat} (h : x < 9223372036854775808) : zp x = x := by
  unfold zp
  split
  · omega
  · rfl
theorem bc_le {n r : Nat} (h : r < n) (hn : n ≤ 4194304) : bc n r ≤ one := by
  unfold bc; split
  · exact eiC_le (by omega) (by omega)
  · exact eiS_le (by omega) (by omega)
theorem bs_le {n r : Nat} (h : r < n) (hn : n ≤ 4194304) : bs n r ≤ one := by
  unfold bs; split
  · exact eiS_le (by omega) (by omega)
  · exact eiC_le (by omega) (by omega)
end Go.Proofs.YtoaccmblaifnmaaDoor.Rp
/-
  Plain mathematics of the roots: what a root is at k + n, at minus k, at k and n times a power of two, half and a quarter turn on. No condition; nothing of the program.
-/
namespace Go.Proofs.YtoaccmblaifnmaaDoor.Rp
open Flo Ieee Ari

theorem md_add (n : Nat) (k : Int) : md n (k + n) = md n k := by unfold md; rw [Int.add_emod_right]
theorem md_uniq {n m : Nat} {k : Int} (hm : m < n) (h : ∃ c : Int, k = c * n + m) : md n k = m := by
  obtain ⟨c, rfl⟩ := h
  unfold md
  rw [Int.add_comm, Int.add_mul_emod_self_right, Int.emod_eq_of_lt (by omega) (by omega)]
  omega
theorem md_form {n : Nat} (h : 0 < n) (k : Int) : ∃ c : Int, k = c * n + md n k := by
  refine ⟨k / n, ?_⟩
  rw [md_eq h]
  have := Int.mul_ediv_add_emod k n
  rw [Int.mul_comm] at this
  exact this.symm
theorem md_neg {n : Nat} (h : 0 < n) (k : Int) : md n (-k) = if md n k = 0 then 0 else n - md n k := by
  have hl := md_lt h k
  obtain ⟨c, hc⟩ := md_form h k
  generalize md n k = m at *
  by_cases h0 : m = 0
  · rw [if_pos h0]
    refine md_uniq h ⟨-c, ?_⟩
    rw [hc, h0, Int.neg_mul]; omega
  · rw [if_neg h0]
    refine md_uniq (by omega) ⟨-c - 1, ?_⟩
    rw [hc, Int.sub_mul, Int.neg_mul]; omega
theorem md_mul {n : Nat} (h : 0 < n) (k : Int) (j : Nat) : md (n * 2 ^ j) (k * ((2 ^ j : Nat) : Int)) = md n k * 2 ^ j := by
  have hl := md_lt h k
  obtain ⟨c, hc⟩ := md_form h k
  generalize md n k = m at *
  refine md_uniq (Nat.mul_lt_mul_of_pos_right hl (Nat.two_pow_pos j)) ⟨c, ?_⟩
  rw [hc, Int.add_mul, Int.natCast_mul, Int.natCast_mul, Int.mul_assoc]
theorem md_on {n t : Nat} (h : 0 < n) (k : Int) : md n (k + t) = (md n k + t) % n := by
  obtain ⟨c, hc⟩ := md_form h k
  generalize md n k = m at *
  have hd := Nat.div_add_mod (m + t) n
  refine md_uniq (Nat.mod_lt _ h) ⟨c + ((m + t) / n : Nat), ?_⟩
  have : (((m + t) % n : Nat) : Int) = (m : Int) + t - n * ((m + t) / n : Nat) := by
    have e : ((n * ((m + t) / n) + (m + t) % n : Nat) : Int) = ((m + t : Nat) : Int) := by rw [hd]
    rw [Int.natCast_add, Int.natCast_mul, Int.natCast_add] at e
    omega
  rw [this, hc, Int.add_mul, Int.mul_comm ((((m + t) / n : Nat)) : Int)]
  omega
/-- the way back -/
theorem root_back {n : Nat} (h : 0 < n) (hn : n ≤ 4194304) (k : Int) : pc n (md n (-k)) = zp (pc n (md n k)) ∧ pim n (md n (-k)) = zp (ng (pim n (md n k))) := by
  have hl := md_lt h k
  rw [md_neg h, zp_pc]
  unfold pim
  by_cases h0 : md n k = 0
  · rw [if_pos h0, h0]
    refine ⟨rfl, ?_⟩
    rw [(pair_zero n).2]; decide
  · rw [if_neg h0]
    have b := pair_back (n := n) (m := md n k) (by omega) hl hn
    exact ⟨b.1, by rw [b.2]⟩
theorem root_scale {n : Nat} (h : 0 < n) (k : Int) (j : Nat) (hn : n * 2 ^ j ≤ 4194304) : pc (n * 2 ^ j) (md (n * 2 ^ j) (k * ((2 ^ j : Nat) : Int))) = pc n (md n k) ∧ pim (n * 2 ^ j) (md (n * 2 ^ j) (k * ((2 ^ j : Nat) : Int))) = pim n (md n k) := by
  rw [md_mul h]
  have s := pair_scale (md_lt h k) hn
  unfold pim
  rw [s.1, s.2]
  exact ⟨rfl, rfl⟩
theorem root_half {n t : Nat} (h : 0 < n) (hn : n ≤ 4194304) (ht : n = 2 * t) (k : Int) : pc n (md n (k + t)) = zp (ng (pc n (md n k))) ∧ pim n (md n (k + t)) = zp (ng (pim n (md n k))) := by
  rw [md_on h]
  have s := pair_half (md_lt h k) hn ht
  unfold pim
  exact ⟨s.1, by rw [s.2]⟩
theorem root_quarter {n t : Nat} (h : 0 < n) (hn : n ≤ 4194304) (ht : n = 4 * t) (k : Int) : pc n (md n (k + t)) = zp (pim n (md n k)) ∧ pim n (md n (k + t)) = zp (ng (pc n (md n k))) := by
  rw [md_on h, zp_pim]
  have s := pair_quarter (md_lt h k) hn ht
  unfold pim
  exact ⟨s.1, by rw [s.2]⟩
/-- the sine is minus the imaginary part -/
theorem root_sine {n : Nat} (h : 0 < n) (hn : n ≤ 4194304) (k : Int) : ps n (md n k) = zp (ng (pim n (md n k))) := by
  unfold pim
  rw [zp_ng_ng (ps_fin _ h hn).1, zp_ps]
theorem fz_zp (x : Nat) : fz (zp x) = fz x := by
  unfold zp
  split
  · rename_i h
    have : vl x = 0 := by unfold vl; rw [h]; exact vr_zero
    unfold fz
    rw [this]
    have : vl 0 = 0 := by decide
    rw [this]
    cases sg x <;> cases sg 0 <;> rfl
  · rfl
end Go.Proofs.YtoaccmblaifnmaaDoor.Rp
/-
  Layer 13, plain: the chirps' places among the roots; the zoomed sums. Nothing of the program.
-/
namespace Go.Proofs.YtoaccmblaifnmaaDoor
open Flo Go.RowKit

theorem md_shift {n : Nat} (k c : Int) : Rp.md n (k + c * n) = Rp.md n k := by unfold Rp.md; rw [Int.add_mul_emod_self_right]
theorem md_tm {n : Nat} (k t : Int) : Rp.md n (k.tmod n + t) = Rp.md n (k + t) := by
  have h := Int.mul_tdiv_add_tmod k n
  have e : k + t = (k.tmod n + t) + (k.tdiv n) * n := by rw [Int.mul_comm] at h; omega
  rw [e, md_shift]
theorem md_mulr {n : Nat} (h : 0 < n) (j : Nat) (k : Int) : Rp.md n ((j : Int) * k) = j * Rp.md n k % n := by
  have e : ((j * Rp.md n k % n : Nat) : Int) = (j : Int) * k % n := by
    rw [Int.natCast_emod, Int.natCast_mul, Rp.md_eq h, Int.mul_emod (j : Int) (k % n), Int.emod_emod, ← Int.mul_emod]
  unfold Rp.md at *
  rw [← e]; rfl
/-- the place of the chirp j of n among the roots of M = 2n -/
def chm (M : Nat) (j : Int) : Nat := Rp.md M (j * j)
theorem chm_rest (M : Nat) (j : Int) : Rp.md M (j.tmod M * j.tmod M) = chm M j := by
  have h := Int.mul_tdiv_add_tmod j M
  obtain ⟨q, hq⟩ : ∃ q, j.tdiv M = q := ⟨_, rfl⟩
  obtain ⟨r, hr⟩ : ∃ r, j.tmod M = r := ⟨_, rfl⟩
  rw [hq, hr] at h
  rw [hr]
  have e : j * j = r * r + (q * (r + j)) * M := by
    subst h
    grind
  unfold chm
  rw [e, md_shift]
theorem chm_sq {M : Nat} (h : 0 < M) (j : Int) : Rp.md M j * Rp.md M j % M = chm M j := by
  have e : ((Rp.md M j * Rp.md M j % M : Nat) : Int) = j * j % M := by
    rw [Int.natCast_emod, Int.natCast_mul, Rp.md_eq h, ← Int.mul_emod]
  unfold chm
  have e2 : Rp.md M (j * j) = (j * j % (M : Int)).toNat := rfl
  rw [e2, ← e]; rfl
theorem chm_lt {M : Nat} (h : 0 < M) (j : Int) : chm M j < M := Rp.md_lt h _
theorem chm_neg (M : Nat) (j : Int) : chm M (-j) = chm M j := by unfold chm; rw [Int.neg_mul_neg]
theorem chm_on (M : Nat) (j : Int) : chm M (j + M) = chm M j := by
  unfold chm
  have e : (j + M) * (j + M) = j * j + (j + j + M) * M := by grind
  rw [e, md_shift]
theorem chm_zero (M : Nat) : chm M 0 = 0 := by unfold chm Rp.md; simp
/-- the chirp j, M = 2n -/
def chp (M : Nat) (j : Int) : Nat × Nat := (Rp.pc M (chm M j), Rp.pim M (chm M j))
theorem chp_fin {M : Nat} (h : 0 < M) (hM : M ≤ 4194304) (j : Int) : Ari.fin (chp M j).1 ∧ Ari.fin (chp M j).2 := ⟨Rp.pc_fin _ h hM, Rp.pim_fin _ h hM⟩
/-- the zoomed sum k of L elements -/
def zme (m L : Nat) (fr : Int) (f : Nat → Nat × Nat) (k : Nat) : Nat × Nat := dst m (Rp.md m (fr + k)) f (L - 1)
theorem zme_fwd (n : Nat) (f : Nat → Nat × Nat) (k : Nat) (h : k < n) : zme n n 0 f k = dsm n k f := by
  unfold zme dsm
  have e : Rp.md n (0 + (k : Int)) = k := by
    unfold Rp.md
    rw [Int.zero_add, Int.emod_eq_of_lt (by omega) (by omega)]; omega
  rw [e]
theorem zme_part (m L : Nat) (fr : Int) (f : Nat → Nat × Nat) (c k : Nat) : zme m L (fr + c) f k = zme m L fr f (c + k) := by
  unfold zme
  rw [Int.natCast_add, Int.add_assoc]
theorem zme_far (m L : Nat) (fr : Int) (f : Nat → Nat × Nat) (k : Nat) : zme m L (fr + 3 * m) f k = zme m L fr f k := by
  unfold zme
  have e : fr + 3 * (m : Int) + k = (fr + k) + 3 * m := by omega
  rw [e, md_shift]
/-- the other list's element i of m, as far as j chirps are laid -/
def otu (M m j i : Nat) : Nat × Nat := if i < j then cjp (chp M (i : Int)) else if 0 < i ∧ m - i < j then cjp (chp M ((m - i : Nat) : Int)) else (0, 0)
end Go.Proofs.YtoaccmblaifnmaaDoor
