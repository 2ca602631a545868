/-
  Plain mathematics of float64 words: rounding to the nearest, sums, products and quotients by what their operands are worth; signs; whole numbers. No condition; nothing of the program.
-/
import Derived.Test.YtoaccmblaifnmaaDoorFlo
namespace Go.Proofs.YtoaccmblaifnmaaDoor.Ari
open Ieee
open Go.Proofs.YtoaccmblaifnmaaDoor.Flo (ex mg mg_eq mg_lt mg_ge read_fin read_inf read_nan shl_lt sv nanB eq_iff lt_iff gt_iff)

theorem log2_mul_pow {m : Nat} (hm : m ≠ 0) (j : Nat) : (m * 2 ^ j).log2 = m.log2 + j := by
  have hp := Nat.two_pow_pos j
  have hne : m * 2 ^ j ≠ 0 := Nat.mul_ne_zero hm (by omega)
  rw [Nat.log2_eq_iff hne]
  have h1 := Nat.log2_self_le hm
  have h2 := @Nat.lt_log2_self m
  constructor
  · rw [Nat.pow_add]; exact Nat.mul_le_mul_right _ h1
  · have e : m.log2 + j + 1 = (m.log2 + 1) + j := by omega
    rw [e, Nat.pow_add]; exact Nat.mul_lt_mul_of_pos_right h2 hp

/-- to the nearest, between two the even one -/
def rhe (n d : Nat) : Nat :=
  n / 2 ^ d + (decide (2 ^ d < 2 * (n % 2 ^ d)) || (2 ^ d == 2 * (n % 2 ^ d) && n / 2 ^ d % 2 == 1)).toNat

theorem rhe_zero (n : Nat) : rhe n 0 = n := by
  simp [rhe, Nat.mod_one]

theorem cut_even (neg : Bool) (n d : Nat) : Toward.even.cut neg n d = rhe n d := by
  unfold Toward.cut rhe
  simp only [Nat.one_shiftLeft]
  by_cases h : d ≤ n.log2 + 2
  · rw [Nat.min_eq_left h]
  · rw [Nat.min_eq_right (by omega)]
    have h2 := @Nat.lt_log2_self n
    have hd : 2 ^ (n.log2 + 2) ≤ 2 ^ d := Nat.pow_le_pow_right (by omega) (by omega)
    have hs : 2 ^ (n.log2 + 2) = 2 * 2 ^ (n.log2 + 1) := by rw [Nat.pow_succ 2 (n.log2 + 1)]; omega
    have e1 : n / 2 ^ (n.log2 + 2) = 0 := Nat.div_eq_of_lt (by omega)
    have e2 : n / 2 ^ d = 0 := Nat.div_eq_of_lt (by omega)
    have e3 : n % 2 ^ (n.log2 + 2) = n := Nat.mod_eq_of_lt (by omega)
    have e4 : n % 2 ^ d = n := Nat.mod_eq_of_lt (by omega)
    rw [e1, e2, e3, e4]
    have f1 : ¬ 2 ^ (n.log2 + 2) < 2 * n := by omega
    have f2 : ¬ 2 ^ d < 2 * n := by omega
    simp [f1, f2]

theorem rhe_mul (n d j : Nat) : rhe (n * 2 ^ j) (d + j) = rhe n d := by
  unfold rhe
  have hj := Nat.two_pow_pos j
  have e1 : n * 2 ^ j / 2 ^ (d + j) = n / 2 ^ d := by
    rw [Nat.pow_add]; exact Nat.mul_div_mul_right _ _ hj
  have e2 : n * 2 ^ j % 2 ^ (d + j) = n % 2 ^ d * 2 ^ j := by
    rw [Nat.pow_add]; exact Nat.mul_mod_mul_right _ _ _
  rw [e1, e2, Nat.pow_add]
  have e3 : (2 ^ d * 2 ^ j < 2 * (n % 2 ^ d * 2 ^ j)) ↔ (2 ^ d < 2 * (n % 2 ^ d)) := by
    rw [← Nat.mul_assoc]; exact Nat.mul_lt_mul_right hj
  have e4 : (2 ^ d * 2 ^ j == 2 * (n % 2 ^ d * 2 ^ j)) = (2 ^ d == 2 * (n % 2 ^ d)) := by
    rw [← Nat.mul_assoc]
    rw [Bool.eq_iff_iff, beq_iff_eq, beq_iff_eq]
    exact ⟨fun h => Nat.eq_of_mul_eq_mul_right hj h, fun h => congrArg (· * 2 ^ j) h⟩
  rw [e4]; simp only [e3]

theorem rhe_exact (n d : Nat) : rhe (n * 2 ^ d) d = n := by
  have := rhe_mul n 0 d
  rw [Nat.zero_add, rhe_zero] at this; exact this

theorem rhe_mono {m n : Nat} (h : m ≤ n) (d : Nat) : rhe m d ≤ rhe n d := by
  unfold rhe
  have hp := Nat.two_pow_pos d
  generalize 2 ^ d = g at *
  have hq : m / g ≤ n / g := Nat.div_le_div_right h
  by_cases e : m / g = n / g
  · rw [e]
    apply Nat.add_le_add_left
    have a := Nat.div_add_mod m g
    have b := Nat.div_add_mod n g
    rw [e] at a
    have hr : m % g ≤ n % g := by omega
    generalize m % g = r at *
    generalize n % g = s at *
    generalize n / g = q at *
    by_cases c1 : g < 2 * s
    · simp [c1]; exact Bool.toNat_le _
    · by_cases c2 : g = 2 * s
      · by_cases c3 : r = s
        · subst c3; exact Nat.le_refl _
        · have d1 : ¬ g < 2 * r := by omega
          have d2 : (g == 2 * r) = false := by rw [beq_eq_false_iff_ne]; omega
          simp [d1, d2]
      · have d1 : ¬ g < 2 * r := by omega
        have d2 : (g == 2 * r) = false := by rw [beq_eq_false_iff_ne]; omega
        simp [d1, d2]
  · have : (decide (g < 2 * (m % g)) || (g == 2 * (m % g) && m / g % 2 == 1)).toNat ≤ 1 := Bool.toNat_le _
    omega

theorem rhe_le {n d b : Nat} (h : n ≤ b * 2 ^ d) : rhe n d ≤ b := by
  have := rhe_mono h d
  rwa [rhe_exact] at this
theorem le_rhe {n d b : Nat} (h : b * 2 ^ d ≤ n) : b ≤ rhe n d := by
  have := rhe_mono h d
  rwa [rhe_exact] at this
theorem rhe_zero_left (d : Nat) : rhe 0 d = 0 := by
  have := rhe_exact 0 d
  simpa using this

theorem fraction_d : double.fractionBits = 52 := rfl
theorem least_d : double.leastPlace = -1074 := by decide
theorem signWeight_d : double.signWeight = 9223372036854775808 := by decide
theorem binade_d : double.binade = 4503599627370496 := by decide
theorem infRung_d : double.infRung = 9218868437227405312 := by decide

/-- the last place that is kept -/
def lst (m : Nat) (i : Int) : Int := max (i + m.log2 - 52) (-1074)
/-- the rung, unbounded -/
def rg (m : Nat) (i : Int) : Nat :=
  if m = 0 then 0 else (lst m i + 1074).toNat * 4503599627370496 + rhe (m * 2 ^ (i - lst m i).toNat) (lst m i - i).toNat

theorem nearest_eq (s : Bool) (m : Nat) (i : Int) : double.nearest s m i = double.word s (min (rg m i) 9218868437227405312) := by
  unfold Format.nearest rg
  by_cases h : m = 0
  · simp [h]
  · rw [if_neg h, if_neg h]
    simp only [cut_even, fraction_d, least_d, binade_d, infRung_d, Nat.shiftLeft_eq, lst]
    have e : ∀ x : Int, x - -1074 = x + 1074 := by intro x; omega
    simp only [e]
    rfl

theorem lst_scale {m : Nat} (hm : m ≠ 0) (j : Nat) (i : Int) : lst (m * 2 ^ j) i = lst m (i + j) := by
  unfold lst
  rw [log2_mul_pow hm]
  congr 1
  omega

theorem rg_scale (m j : Nat) (i : Int) : rg (m * 2 ^ j) i = rg m (i + j) := by
  unfold rg
  by_cases h : m = 0
  · simp [h]
  · have hp := Nat.two_pow_pos j
    have hne : m * 2 ^ j ≠ 0 := Nat.mul_ne_zero h (by omega)
    rw [if_neg hne, if_neg h, lst_scale h]
    congr 1
    generalize lst m (i + j) = l
    by_cases c1 : l ≤ i
    · have e1 : (l - i).toNat = 0 := by omega
      have e2 : (l - (i + j)).toNat = 0 := by omega
      have e3 : (i + (j : Int) - l).toNat = j + (i - l).toNat := by omega
      rw [e1, e2, e3, rhe_zero, rhe_zero, Nat.pow_add, Nat.mul_assoc]
    · have e1 : (i - l).toNat = 0 := by omega
      rw [e1, Nat.pow_zero, Nat.mul_one]
      by_cases c2 : l ≤ i + j
      · have e2 : (l - (i + j)).toNat = 0 := by omega
        rw [e2, rhe_zero]
        have e3 : j = (i + (j : Int) - l).toNat + (l - i).toNat := by omega
        conv => lhs; arg 1; rw [e3, Nat.pow_add, ← Nat.mul_assoc]
        rw [rhe_exact]
      · have e2 : (i + (j : Int) - l).toNat = 0 := by omega
        have e3 : (l - i).toNat = (l - (i + j)).toNat + j := by omega
        rw [e2, e3, rhe_mul, Nat.pow_zero, Nat.mul_one]

theorem nearest_scale (s : Bool) (m j : Nat) (i : Int) : double.nearest s (m * 2 ^ j) i = double.nearest s m (i + j) := by
  rw [nearest_eq, nearest_eq, rg_scale]


/-- finite words -/
def fin (n : Nat) : Prop := n < 18446744073709551616 ∧ n % 9223372036854775808 < 9218868437227405312
def sg (n : Nat) : Bool := decide (9223372036854775808 ≤ n)
/-- the size, in units of the least float above 0 -/
def vr (r : Nat) : Nat := mg r * 2 ^ ex r
def vl (n : Nat) : Nat := vr (n % 9223372036854775808)
def fz (n : Nat) : Int := if sg n then -(vl n : Int) else vl n
/-- the sign turned -/
def ng (n : Nat) : Nat := if n < 9223372036854775808 then n + 9223372036854775808 else n - 9223372036854775808

theorem ng_lt {n : Nat} (h : n < 18446744073709551616) : ng n < 18446744073709551616 := by unfold ng; split <;> omega
theorem ng_mod {n : Nat} (h : n < 18446744073709551616) : ng n % 9223372036854775808 = n % 9223372036854775808 := by unfold ng; split <;> omega
theorem ng_ng {n : Nat} (h : n < 18446744073709551616) : ng (ng n) = n := by unfold ng; split <;> split <;> omega
theorem sg_ng {n : Nat} (h : n < 18446744073709551616) : sg (ng n) = !sg n := by
  unfold sg ng
  by_cases c : n < 9223372036854775808
  · have c' : ¬ 9223372036854775808 ≤ n := by omega
    have c2 : 9223372036854775808 ≤ n + 9223372036854775808 := by omega
    simp [c]
  · have c' : 9223372036854775808 ≤ n := by omega
    have c2 : ¬ 9223372036854775808 ≤ n - 9223372036854775808 := by omega
    simp [c, c', c2]
theorem fin_ng {n : Nat} (h : fin n) : fin (ng n) := ⟨ng_lt h.1, by rw [ng_mod h.1]; exact h.2⟩
theorem vl_ng {n : Nat} (h : n < 18446744073709551616) : vl (ng n) = vl n := by unfold vl; rw [ng_mod h]
theorem fz_ng {n : Nat} (h : n < 18446744073709551616) : fz (ng n) = - fz n := by
  unfold fz; rw [vl_ng h, sg_ng h]; cases sg n <;> simp
theorem nan_ng {n : Nat} (h : n < 18446744073709551616) : nanB (ng n) = nanB n := by unfold nanB; rw [ng_mod h]

theorem word_eq (s : Bool) (r : Nat) : double.word s r = if s then 9223372036854775808 + r else r := by
  unfold Format.word; rw [signWeight_d]

theorem word_not (s : Bool) {r : Nat} (h : r < 9223372036854775808) : double.word (!s) r = ng (double.word s r) := by
  rw [word_eq, word_eq]; unfold ng; cases s
  · simp only [Bool.not_false, if_true, Bool.false_eq_true, if_false, if_pos h]; omega
  · simp only [Bool.not_true, if_true, Bool.false_eq_true, if_false]; split <;> omega

theorem nearest_not (s : Bool) (m : Nat) (i : Int) : double.nearest (!s) m i = ng (double.nearest s m i) := by
  rw [nearest_eq, nearest_eq]; exact word_not s (by omega)

theorem read_ng (n : Nat) (h : n < 18446744073709551616) : double.read (ng n) = (double.read n).opposite := by
  unfold Format.read
  simp only [signWeight_d, binade_d, infRung_d]
  rw [ng_mod h]
  have hs : (ng n / 9223372036854775808 % 2 == 1) = !(n / 9223372036854775808 % 2 == 1) := by
    unfold ng
    by_cases c : n < 9223372036854775808
    · have e1 : (n + 9223372036854775808) / 9223372036854775808 % 2 = 1 := by omega
      have e2 : n / 9223372036854775808 % 2 = 0 := by omega
      rw [if_pos c, e1, e2]; rfl
    · have e1 : (n - 9223372036854775808) / 9223372036854775808 % 2 = 0 := by omega
      have e2 : n / 9223372036854775808 % 2 = 1 := by omega
      rw [if_neg c, e1, e2]; rfl
  rw [hs]
  split
  · rfl
  · split
    · rfl
    · split <;> rfl

theorem sub_eq (x : Nat) {y : Nat} (h : y < 18446744073709551616) : double.sub x y = double.add x (ng y) := by
  unfold Format.sub Format.add; rw [read_ng y h]

theorem signed_eq (s : Bool) (m up : Nat) : signed s m up = (if s then -1 else 1) * ((m * 2 ^ up : Nat) : Int) := by
  unfold signed; rw [Nat.shiftLeft_eq]; cases s <;> simp

theorem fz_eq (n : Nat) : fz n = (if sg n then -1 else 1) * ((vl n : Nat) : Int) := by
  unfold fz; cases sg n <;> simp

theorem add_fin {x y : Nat} (hx : fin x) (hy : fin y) :
    double.add x y = some (double.nearest (if fz x + fz y = 0 then sg x && sg y else decide (fz x + fz y < 0)) (fz x + fz y).natAbs (-1074)) := by
  unfold Format.add
  rw [read_fin x hx.1 hx.2, read_fin y hy.1 hy.2]
  simp only [Datum.sum, Option.map_some, Format.write]
  congr 1
  have hfx : fz x = (if sg x then -1 else 1) * ((vl x : Nat) : Int) := fz_eq x
  have hfy : fz y = (if sg y then -1 else 1) * ((vl y : Nat) : Int) := fz_eq y
  unfold vl vr at hfx hfy
  change fz x = (if decide (9223372036854775808 ≤ x) then -1 else 1) * _ at hfx
  change fz y = (if decide (9223372036854775808 ≤ y) then -1 else 1) * _ at hfy
  unfold sg
  generalize x % 9223372036854775808 = r at *
  generalize y % 9223372036854775808 = q at *
  generalize decide (9223372036854775808 ≤ x) = s at *
  generalize decide (9223372036854775808 ≤ y) = t at *
  have hmin : min (double.leastPlace + (ex r : Int)) (double.leastPlace + (ex q : Int)) = -1074 + ((min (ex r) (ex q) : Nat) : Int) := by
    rw [least_d]; omega
  rw [hmin, least_d]
  have c1 : min (ex r) (ex q) ≤ ex r := Nat.min_le_left _ _
  have c2 : min (ex r) (ex q) ≤ ex q := Nat.min_le_right _ _
  generalize min (ex r) (ex q) = c at *
  have e1 : ((-1074 : Int) + (ex r : Int) - (-1074 + (c : Int))).toNat = ex r - c := by omega
  have e2 : ((-1074 : Int) + (ex q : Int) - (-1074 + (c : Int))).toNat = ex q - c := by omega
  rw [e1, e2, signed_eq, signed_eq]
  have p1 : mg r * 2 ^ ex r = (mg r * 2 ^ (ex r - c)) * 2 ^ c := by
    rw [Nat.mul_assoc, ← Nat.pow_add]; congr 2; omega
  have p2 : mg q * 2 ^ ex q = (mg q * 2 ^ (ex q - c)) * 2 ^ c := by
    rw [Nat.mul_assoc, ← Nat.pow_add]; congr 2; omega
  rw [p1] at hfx; rw [p2] at hfy
  generalize mg r * 2 ^ (ex r - c) = M at *
  generalize mg q * 2 ^ (ex q - c) = N at *
  have hT : fz x + fz y = ((if s then -1 else 1) * (M : Int) + (if t then -1 else 1) * (N : Int)) * ((2 ^ c : Nat) : Int) := by
    rw [hfx, hfy, Int.natCast_mul, Int.natCast_mul, ← Int.mul_assoc, ← Int.mul_assoc, ← Int.add_mul]
  rw [hT]
  generalize ((if s then -1 else 1) * (M : Int) + (if t then -1 else 1) * (N : Int)) = T
  have hp : 0 < ((2 ^ c : Nat) : Int) := by have := Nat.two_pow_pos c; omega
  have z1 : (T * ((2 ^ c : Nat) : Int) = 0) = (T = 0) := by
    apply propext; constructor
    · intro h; rcases Int.mul_eq_zero.1 h with h | h
      · exact h
      · omega
    · intro h; rw [h, Int.zero_mul]
  have z2 : (T * ((2 ^ c : Nat) : Int) < 0) = (T < 0) := by
    apply propext; constructor
    · intro h
      by_cases h0 : T < 0
      · exact h0
      · have := Int.mul_nonneg (show 0 ≤ T by omega) (show 0 ≤ ((2 ^ c : Nat) : Int) by omega); omega
    · intro h; exact Int.mul_neg_of_neg_of_pos h hp
  simp only [z1, z2, Int.natAbs_mul, Int.natAbs_natCast]
  rw [nearest_scale]

theorem mul_fin {x y : Nat} (hx : fin x) (hy : fin y) :
    double.mul x y = some (double.nearest (sg x ^^ sg y) (vl x * vl y) (-2148)) := by
  unfold Format.mul
  rw [read_fin x hx.1 hx.2, read_fin y hy.1 hy.2]
  simp only [Datum.product, Option.map_some, Format.write]
  congr 1
  unfold sg vl vr
  generalize x % 9223372036854775808 = r at *
  generalize y % 9223372036854775808 = q at *
  have e : mg r * 2 ^ ex r * (mg q * 2 ^ ex q) = mg r * mg q * 2 ^ (ex r + ex q) := by
    rw [Nat.pow_add]; simp only [Nat.mul_assoc, Nat.mul_left_comm]
  rw [e, nearest_scale, least_d]
  congr 1
  omega

/-- what a rung made of a place and what was kept is worth -/
theorem vr_rung {e k : Nat} (h1 : k ≤ 9007199254740992) (h2 : e = 0 ∨ 4503599627370496 ≤ k) : vr (e * 4503599627370496 + k) = k * 2 ^ e := by
  unfold vr mg ex
  by_cases c : k < 4503599627370496
  · have e0 : e = 0 := by omega
    subst e0
    have : (0 * 4503599627370496 + k) / 4503599627370496 - 1 = 0 := by omega
    rw [this]; simp
  · by_cases c' : k = 9007199254740992
    · subst c'
      have : (e * 4503599627370496 + 9007199254740992) / 4503599627370496 - 1 = e + 1 := by omega
      rw [this, Nat.pow_succ]
      have : e * 4503599627370496 + 9007199254740992 - (e + 1) * 4503599627370496 = 4503599627370496 := by omega
      rw [this]; omega
    · have : (e * 4503599627370496 + k) / 4503599627370496 - 1 = e := by omega
      rw [this]
      have : e * 4503599627370496 + k - e * 4503599627370496 = k := by omega
      rw [this]

/-- how far beyond the greatest float lies above the least one -/
def tp : Nat := 2098
theorem tp_eq : tp = 2098 := rfl

/-- A number that can be written with 53 digits is kept as it is. -/
theorem rg_rep {a k : Nat} (ha : a < 9007199254740992) (hb : a * 2 ^ k < 2 ^ tp) :
    rg (a * 2 ^ k) (-1074) < 9218868437227405312 ∧ vr (rg (a * 2 ^ k) (-1074)) = a * 2 ^ k := by
  by_cases h0 : a = 0
  · subst h0; unfold rg; simp [vr, mg]
  · have hk := Nat.two_pow_pos k
    have hne : a * 2 ^ k ≠ 0 := Nat.mul_ne_zero h0 (by omega)
    have hL : (a * 2 ^ k).log2 = a.log2 + k := log2_mul_pow h0 k
    have hla : a.log2 < 53 := (Nat.log2_lt h0).2 (by omega)
    have hlb : a.log2 + k < tp := by rw [← hL]; exact (Nat.log2_lt hne).2 hb
    unfold rg
    rw [if_neg hne]
    have hl : lst (a * 2 ^ k) (-1074) = ((a.log2 + k - 52 : Nat) : Int) - 1074 := by unfold lst; rw [hL]; omega
    rw [hl]
    have hm1 := Nat.log2_self_le hne
    have hm2 := @Nat.lt_log2_self (a * 2 ^ k)
    rw [hL] at hm1 hm2
    generalize he : a.log2 + k - 52 = e
    have e1 : ((-1074 : Int) - ((e : Int) - 1074)).toNat = 0 := by omega
    have e2 : ((e : Int) - 1074 - -1074).toNat = e := by omega
    have e3 : ((e : Int) - 1074 + 1074).toNat = e := by omega
    rw [e1, e2, e3, Nat.pow_zero, Nat.mul_one]
    have hek : e ≤ k := by omega
    have e4 : a * 2 ^ k = (a * 2 ^ (k - e)) * 2 ^ e := by rw [Nat.mul_assoc, ← Nat.pow_add]; congr 2; omega
    rw [e4, rhe_exact]
    rw [e4] at hm1 hm2
    generalize hq : a * 2 ^ (k - e) = q at *
    have hpe := Nat.two_pow_pos e
    have q1 : q < 9007199254740992 := by
      by_cases c : e = 0
      · subst c
        have : 2 ^ (a.log2 + k + 1) ≤ 2 ^ 53 := Nat.pow_le_pow_right (by omega) (by omega)
        omega
      · have : a.log2 + k + 1 = 53 + e := by omega
        rw [this, Nat.pow_add] at hm2
        exact Nat.lt_of_mul_lt_mul_right hm2
    have q2 : e = 0 ∨ 4503599627370496 ≤ q := by
      by_cases c : e = 0
      · exact Or.inl c
      · right
        have : a.log2 + k = 52 + e := by omega
        rw [this, Nat.pow_add] at hm1
        exact Nat.le_of_mul_le_mul_right hm1 hpe
    refine ⟨?_, vr_rung (by omega) q2⟩
    have := tp_eq
    omega

theorem word_facts (s : Bool) {r : Nat} (h : r < 9218868437227405312) : fin (double.word s r) ∧ sg (double.word s r) = s ∧ vl (double.word s r) = vr r := by
  rw [word_eq]
  unfold fin sg vl
  cases s
  · simp only [Bool.false_eq_true, if_false]
    have e : r % 9223372036854775808 = r := by omega
    have c : ¬ 9223372036854775808 ≤ r := by omega
    rw [e]; exact ⟨⟨by omega, h⟩, by simp [c], rfl⟩
  · simp only [if_true]
    have e : (9223372036854775808 + r) % 9223372036854775808 = r := by omega
    have c : 9223372036854775808 ≤ 9223372036854775808 + r := by omega
    rw [e]; exact ⟨⟨by omega, h⟩, by simp, rfl⟩

theorem near_rep (s : Bool) {a k : Nat} (ha : a < 9007199254740992) (hb : a * 2 ^ k < 2 ^ tp) :
    fin (double.nearest s (a * 2 ^ k) (-1074)) ∧ sg (double.nearest s (a * 2 ^ k) (-1074)) = s ∧ vl (double.nearest s (a * 2 ^ k) (-1074)) = a * 2 ^ k := by
  obtain ⟨h1, h2⟩ := rg_rep ha hb
  rw [nearest_eq, Nat.min_eq_left (by omega)]
  have := word_facts s h1
  rw [h2] at this; exact this


theorem vl_abs (x : Nat) : (fz x).natAbs = vl x := by unfold fz; cases sg x <;> simp

theorem vr_mono {r s : Nat} (h : r < s) : vr r < vr s := by
  have := shl_lt h 0 (Nat.zero_le _) (Nat.zero_le _)
  simpa [vr, Nat.shiftLeft_eq] using this
theorem vr_inj {r s : Nat} : vr r = vr s ↔ r = s := by
  constructor
  · intro h
    rcases Nat.lt_trichotomy r s with c | c | c
    · have := vr_mono c; omega
    · exact c
    · have := vr_mono c; omega
  · intro h; rw [h]
theorem vr_lt {r s : Nat} : vr r < vr s ↔ r < s := by
  constructor
  · intro h
    rcases Nat.lt_trichotomy r s with c | c | c
    · exact c
    · subst c; omega
    · have := vr_mono c; omega
  · exact vr_mono
theorem vr_zero : vr 0 = 0 := by decide

theorem sv_fz {x y : Nat} (hx : x < 18446744073709551616) (hy : y < 18446744073709551616) : (sv x < sv y ↔ fz x < fz y) ∧ (sv x = sv y ↔ fz x = fz y) := by
  have ax : sv x = (if sg x then -1 else 1) * ((x % 9223372036854775808 : Nat) : Int) := by
    unfold sv sg
    by_cases c : x < 9223372036854775808
    · have c' : ¬ 9223372036854775808 ≤ x := by omega
      simp [c']; omega
    · have c' : 9223372036854775808 ≤ x := by omega
      simp [c']; omega
  have ay : sv y = (if sg y then -1 else 1) * ((y % 9223372036854775808 : Nat) : Int) := by
    unfold sv sg
    by_cases c : y < 9223372036854775808
    · have c' : ¬ 9223372036854775808 ≤ y := by omega
      simp [c']; omega
    · have c' : 9223372036854775808 ≤ y := by omega
      simp [c']; omega
  rw [ax, ay, fz_eq x, fz_eq y]
  unfold vl
  have h1 := @vr_lt (x % 9223372036854775808) (y % 9223372036854775808)
  have h2 := @vr_lt (y % 9223372036854775808) (x % 9223372036854775808)
  have h3 := @vr_inj (x % 9223372036854775808) (y % 9223372036854775808)
  have h4 : 0 < vr (x % 9223372036854775808) ↔ 0 < x % 9223372036854775808 := by have := @vr_lt 0 (x % 9223372036854775808); rwa [vr_zero] at this
  have h5 : 0 < vr (y % 9223372036854775808) ↔ 0 < y % 9223372036854775808 := by have := @vr_lt 0 (y % 9223372036854775808); rwa [vr_zero] at this
  generalize x % 9223372036854775808 = r at *
  generalize y % 9223372036854775808 = s at *
  generalize vr r = a at *
  generalize vr s = b at *
  cases sg x <;> cases sg y <;> simp <;> omega

theorem nan_fin {x : Nat} (h : fin x) : nanB x = false := by
  unfold nanB; have := h.2; simp; omega

theorem eq_fin {x y : Nat} (hx : fin x) (hy : fin y) : (double.order x y == some .eq) = decide (fz x = fz y) := by
  rw [eq_iff x y hx.1 hy.1, nan_fin hx, nan_fin hy]
  simp [(sv_fz hx.1 hy.1).2]
theorem lt_fin {x y : Nat} (hx : fin x) (hy : fin y) : (double.order x y == some .lt) = decide (fz x < fz y) := by
  rw [lt_iff x y hx.1 hy.1, nan_fin hx, nan_fin hy]
  simp [(sv_fz hx.1 hy.1).1]
theorem gt_fin {x y : Nat} (hx : fin x) (hy : fin y) : (double.order x y == some .gt) = decide (fz y < fz x) := by
  rw [gt_iff x y hx.1 hy.1, nan_fin hx, nan_fin hy]
  simp [(sv_fz hy.1 hx.1).1]

/-- how far 1 lies above the least float -/
def ul : Nat := 1074
theorem ul_eq : ul = 1074 := rfl

/-- The word stands for the whole number (0: either nought). -/
def W (x : Nat) (n : Int) : Prop := fin x ∧ fz x = n * ((2 ^ ul : Nat) : Int)

theorem near_whole (s : Bool) {n : Nat} (h : n ≤ 9007199254740992) :
    fin (double.nearest s (n * 2 ^ ul) (-1074)) ∧ sg (double.nearest s (n * 2 ^ ul) (-1074)) = s ∧ vl (double.nearest s (n * 2 ^ ul) (-1074)) = n * 2 ^ ul := by
  by_cases c : n < 9007199254740992
  · refine near_rep s c ?_
    calc n * 2 ^ ul < 2 ^ 53 * 2 ^ ul := Nat.mul_lt_mul_of_pos_right (by omega) (Nat.two_pow_pos _)
      _ = 2 ^ (53 + ul) := (Nat.pow_add ..).symm
      _ ≤ 2 ^ tp := Nat.pow_le_pow_right (by omega) (by have := ul_eq; have := tp_eq; omega)
  · have e : n * 2 ^ ul = 1 * 2 ^ (53 + ul) := by
      have : n = 2 ^ 53 := by omega
      rw [this, Nat.one_mul, ← Nat.pow_add]
    rw [e]
    refine near_rep s (by omega) ?_
    rw [Nat.one_mul]; exact Nat.pow_lt_pow_right (by omega) (by have := ul_eq; have := tp_eq; omega)

theorem W_of (s : Bool) (n : Int) (h : n.natAbs ≤ 9007199254740992) (hs : n ≠ 0 → s = decide (n < 0)) : W (double.nearest s (n.natAbs * 2 ^ ul) (-1074)) n := by
  obtain ⟨h1, h2, h3⟩ := near_whole s h
  refine ⟨h1, ?_⟩
  rw [fz_eq, h2, h3, Int.natCast_mul]
  by_cases c : n = 0
  · subst c; simp
  · rw [hs c]
    by_cases c2 : n < 0
    · simp only [c2, decide_true, if_true]
      have : ((n.natAbs : Nat) : Int) = -n := by omega
      rw [this, Int.neg_mul, Int.neg_mul, Int.one_mul, Int.neg_neg]
    · simp only [c2, decide_false, Bool.false_eq_true, if_false]
      have : ((n.natAbs : Nat) : Int) = n := by omega
      rw [this]; simp

theorem pow_pos_int : (0 : Int) < ((2 ^ ul : Nat) : Int) := by have := Nat.two_pow_pos ul; omega

theorem W_add {x y : Nat} {a b : Int} (hx : W x a) (hy : W y b) (h : (a + b).natAbs ≤ 9007199254740992) : ∃ r, double.add x y = some r ∧ W r (a + b) := by
  refine ⟨_, add_fin hx.1 hy.1, ?_⟩
  have e : fz x + fz y = (a + b) * ((2 ^ ul : Nat) : Int) := by rw [hx.2, hy.2, Int.add_mul]
  rw [e, Int.natAbs_mul, Int.natAbs_natCast]
  apply W_of _ _ h
  intro hn
  have hp := pow_pos_int
  rw [if_neg (by intro h; rcases Int.mul_eq_zero.1 h with h | h <;> omega)]
  congr 1
  apply propext; constructor
  · intro h
    by_cases h0 : a + b < 0
    · exact h0
    · have := Int.mul_nonneg (show 0 ≤ a + b by omega) (show 0 ≤ ((2 ^ ul : Nat) : Int) by omega); omega
  · intro h; exact Int.mul_neg_of_neg_of_pos h hp

theorem W_ng {x : Nat} {a : Int} (h : W x a) : W (ng x) (-a) := ⟨fin_ng h.1, by rw [fz_ng h.1.1, h.2, Int.neg_mul]⟩

theorem W_sub {x y : Nat} {a b : Int} (hx : W x a) (hy : W y b) (h : (a - b).natAbs ≤ 9007199254740992) : ∃ r, double.sub x y = some r ∧ W r (a - b) := by
  rw [sub_eq x hy.1.1, Int.sub_eq_add_neg]
  exact W_add hx (W_ng hy) (by rw [← Int.sub_eq_add_neg]; exact h)

theorem W_sg {x : Nat} {a : Int} (h : W x a) (ha : a ≠ 0) : sg x = decide (a < 0) := by
  have h2 := h.2
  have hp := pow_pos_int
  rw [fz_eq] at h2
  cases hs : sg x
  · rw [hs] at h2
    simp only [Bool.false_eq_true, if_false, Int.one_mul] at h2
    have : ¬ a < 0 := by
      intro c
      have := Int.mul_neg_of_neg_of_pos c hp
      omega
    simp [this]
  · rw [hs] at h2
    simp only [if_true] at h2
    have : a < 0 := by
      by_cases c : a < 0
      · exact c
      · have := Int.mul_pos (show 0 < a by omega) hp
        omega
    simp [this]

theorem W_vl {x : Nat} {a : Int} (h : W x a) : vl x = a.natAbs * 2 ^ ul := by
  rw [← vl_abs, h.2, Int.natAbs_mul, Int.natAbs_natCast]

theorem W_mul {x y : Nat} {a b : Int} (hx : W x a) (hy : W y b) (h : (a * b).natAbs ≤ 9007199254740992) : ∃ r, double.mul x y = some r ∧ W r (a * b) := by
  refine ⟨_, mul_fin hx.1 hy.1, ?_⟩
  rw [W_vl hx, W_vl hy]
  have e : a.natAbs * 2 ^ ul * (b.natAbs * 2 ^ ul) = ((a * b).natAbs * 2 ^ ul) * 2 ^ ul := by
    rw [Int.natAbs_mul]; simp only [Nat.mul_assoc, Nat.mul_left_comm]
  rw [e, nearest_scale]
  have e2 : (-2148 : Int) + ((ul : Nat) : Int) = -1074 := by have := ul_eq; omega
  rw [e2]
  apply W_of _ _ h
  intro hn
  have ha : a ≠ 0 := fun c => hn (by rw [c, Int.zero_mul])
  have hb : b ≠ 0 := fun c => hn (by rw [c, Int.mul_zero])
  rw [W_sg hx ha, W_sg hy hb]
  by_cases c1 : a < 0 <;> by_cases c2 : b < 0
  · have : ¬ a * b < 0 := by have := Int.mul_pos_of_neg_of_neg c1 c2; omega
    simp [c1, c2, this]
  · have : a * b < 0 := Int.mul_neg_of_neg_of_pos c1 (by omega)
    simp [c1, c2, this]
  · have : a * b < 0 := Int.mul_neg_of_pos_of_neg (by omega) c2
    simp [c1, c2, this]
  · have : ¬ a * b < 0 := by have := Int.mul_pos (show 0 < a by omega) (show 0 < b by omega); omega
    simp [c1, c2, this]

theorem W_int {n : Int} (h : n.natAbs ≤ 9007199254740992) : W (double.write (.number (n < 0) n.natAbs 0)) n := by
  have e : double.write (.number (n < 0) n.natAbs 0) = double.nearest (decide (n < 0)) (n.natAbs * 2 ^ ul) (-1074) := by
    rw [nearest_scale]
    have e2 : (-1074 : Int) + ((ul : Nat) : Int) = 0 := by have := ul_eq; omega
    rw [e2]; rfl
  rw [e]
  exact W_of _ _ h (fun _ => rfl)

theorem W_eq {x y : Nat} {a b : Int} (hx : W x a) (hy : W y b) : (double.order x y == some .eq) = decide (a = b) := by
  rw [eq_fin hx.1 hy.1, hx.2, hy.2]
  congr 1
  apply propext; constructor
  · intro h; exact Int.eq_of_mul_eq_mul_right (by have := pow_pos_int; omega) h
  · intro h; rw [h]

theorem W_uniq {x : Nat} {a b : Int} (h1 : W x a) (h2 : W x b) : a = b := by
  have := h1.2.symm.trans h2.2
  exact Int.eq_of_mul_eq_mul_right (by have := pow_pos_int; omega) this


theorem sum_comm (a b : Datum) : a.sum b = b.sum a := by
  cases a <;> cases b <;> simp only [Datum.sum]
  · rename_i s m i t n j
    rw [Int.min_comm i j, Int.add_comm (signed s m _), Bool.and_comm]
  · rename_i s t
    by_cases h : s = t
    · subst h; rfl
    · rw [if_neg h, if_neg (fun h' => h h'.symm)]
theorem product_comm (a b : Datum) : a.product b = b.product a := by
  cases a <;> cases b <;> simp only [Datum.product] <;> (try rfl)
  · rw [Bool.xor_comm, Nat.mul_comm, Int.add_comm]
  · rw [Bool.xor_comm]
theorem add_comm (x y : Nat) : double.add x y = double.add y x := by unfold Format.add; rw [sum_comm]
theorem mul_comm (x y : Nat) : double.mul x y = double.mul y x := by unfold Format.mul; rw [product_comm]

theorem write_opposite_num (s : Bool) (m : Nat) (i : Int) : double.write (.number (!s) m i) = ng (double.write (.number s m i)) := nearest_not s m i
theorem write_opposite_inf (s : Bool) : double.write (.infinity (!s)) = ng (double.write (.infinity s)) := by
  unfold Format.write; rw [infRung_d]; exact word_not s (by decide)

theorem product_ng (a b : Datum) : (a.opposite.product b).map double.write = ((a.product b).map double.write).map ng := by
  cases a <;> cases b <;> simp only [Datum.product, Datum.opposite, Option.map_some, Option.map_none]
  · rw [Bool.not_xor, write_opposite_num]
  · rename_i s m i t
    split
    · rfl
    · simp only [Option.map_some]; rw [← write_opposite_inf]; congr 3; cases s <;> cases t <;> rfl
  · rename_i s t m i
    split
    · rfl
    · simp only [Option.map_some]; rw [← write_opposite_inf]; congr 3; cases s <;> cases t <;> rfl
  · rw [Bool.not_xor, write_opposite_inf]
theorem mul_ng {x : Nat} (y : Nat) (h : x < 18446744073709551616) : double.mul (ng x) y = (double.mul x y).map ng := by
  unfold Format.mul; rw [read_ng x h, product_ng]
theorem mul_ng' (x : Nat) {y : Nat} (h : y < 18446744073709551616) : double.mul x (ng y) = (double.mul x y).map ng := by
  rw [mul_comm, mul_ng x h, mul_comm]

theorem quotient_ng (d : Nat) (a b : Datum) : (a.opposite.quotient d b).map double.write = ((a.quotient d b).map double.write).map ng := by
  cases a <;> cases b <;> simp only [Datum.quotient, Datum.opposite, Option.map_some, Option.map_none]
  · split
    · split
      · rfl
      · simp only [Option.map_some]; rw [Bool.not_xor, write_opposite_inf]
    · simp only [Option.map_some]; rw [Bool.not_xor, write_opposite_num]
  · rw [Bool.not_xor, write_opposite_num]
  · rw [Bool.not_xor, write_opposite_inf]
theorem quotient_ng' (d : Nat) (a b : Datum) : (a.quotient d b.opposite).map double.write = ((a.quotient d b).map double.write).map ng := by
  cases a <;> cases b <;> simp only [Datum.quotient, Datum.opposite, Option.map_some, Option.map_none]
  · split
    · split
      · rfl
      · simp only [Option.map_some]; rw [Bool.xor_not, write_opposite_inf]
    · simp only [Option.map_some]; rw [Bool.xor_not, write_opposite_num]
  · rw [Bool.xor_not, write_opposite_num]
  · rw [Bool.xor_not, write_opposite_inf]
theorem div_ng {x : Nat} (y : Nat) (h : x < 18446744073709551616) : double.div (ng x) y = (double.div x y).map ng := by
  unfold Format.div; rw [read_ng x h, quotient_ng]
theorem div_ng' (x : Nat) {y : Nat} (h : y < 18446744073709551616) : double.div x (ng y) = (double.div x y).map ng := by
  unfold Format.div; rw [read_ng y h, quotient_ng']

/-- alike but for the sign of a nought -/
def Eqv (x y : Nat) : Prop := x = y ∨ (x % 9223372036854775808 = 0 ∧ y % 9223372036854775808 = 0)
theorem Eqv.refl (x : Nat) : Eqv x x := Or.inl rfl
theorem Eqv.symm {x y : Nat} (h : Eqv x y) : Eqv y x := h.elim (fun h => Or.inl h.symm) (fun h => Or.inr ⟨h.2, h.1⟩)
theorem Eqv.trans {x y z : Nat} (h : Eqv x y) (k : Eqv y z) : Eqv x z := by
  rcases h with h | h
  · subst h; exact k
  · rcases k with k | k
    · subst k; exact Or.inr h
    · exact Or.inr ⟨h.1, k.2⟩

theorem near_lt (s : Bool) (m : Nat) (i : Int) : double.nearest s m i < 18446744073709551616 := by
  rw [nearest_eq, word_eq]
  generalize rg m i = r
  cases s
  · simp only [Bool.false_eq_true, if_false]; omega
  · simp only [if_true]; omega

theorem write_zero (s : Bool) (i : Int) : double.write (.number s 0 i) % 9223372036854775808 = 0 := by
  change double.nearest s 0 i % _ = 0
  rw [nearest_eq, word_eq]; unfold rg; cases s <;> simp

theorem sum_ng (a b : Datum) : (a.opposite.sum b.opposite = none ↔ a.sum b = none) ∧
    ∀ c, a.sum b = some c → ∃ e, a.opposite.sum b.opposite = some e ∧ Eqv (double.write e) (ng (double.write c)) := by
  cases a <;> cases b <;> simp only [Datum.sum, Datum.opposite]
  · rename_i s m i t n j
    refine ⟨by simp, ?_⟩
    intro c hc
    cases hc
    refine ⟨_, rfl, ?_⟩
    have hs : ∀ (s : Bool) (m u : Nat), signed (!s) m u = - signed s m u := by
      intro s m u; unfold signed; cases s <;> simp
    rw [hs, hs]
    generalize signed s m (i - min i j).toNat = p
    generalize signed t n (j - min i j).toNat = q
    by_cases h0 : p + q = 0
    · have h1 : -p + -q = 0 := by omega
      rw [h0, h1]
      right
      refine ⟨write_zero _ _, ?_⟩
      have := write_zero (if (0 : Int) = 0 then s && t else decide ((0 : Int) < 0)) (min i j)
      have hl : double.write (.number (if (0 : Int) = 0 then s && t else decide ((0 : Int) < 0)) 0 (min i j)) < 18446744073709551616 := by
        exact near_lt _ _ _
      change ng (double.write (.number (if (0 : Int) = 0 then s && t else decide ((0 : Int) < 0)) 0 (min i j))) % 9223372036854775808 = 0
      rw [ng_mod hl]; exact this
    · have h1 : ¬ -p + -q = 0 := by omega
      rw [if_neg h0, if_neg h1]
      left
      have e1 : (-p + -q).natAbs = (p + q).natAbs := by omega
      have e2 : decide (-p + -q < 0) = !decide (p + q < 0) := by
        by_cases c : p + q < 0
        · have c' : ¬ -p + -q < 0 := by omega
          simp [c, c']
        · have c' : -p + -q < 0 := by omega
          simp [c, c']
      rw [e1, e2]; exact write_opposite_num _ _ _
  · rename_i s m i t
    exact ⟨by simp, fun c hc => by cases hc; exact ⟨_, rfl, Or.inl (write_opposite_inf _)⟩⟩
  · exact ⟨by simp, fun c hc => by cases hc⟩
  · rename_i s t m i
    exact ⟨by simp, fun c hc => by cases hc; exact ⟨_, rfl, Or.inl (write_opposite_inf _)⟩⟩
  · rename_i s t
    by_cases h : s = t
    · subst h
      simp only [if_true]
      exact ⟨by simp, fun c hc => by cases hc; exact ⟨_, rfl, Or.inl (write_opposite_inf _)⟩⟩
    · have h' : ¬ (!s) = (!t) := by cases s <;> cases t <;> simp_all
      rw [if_neg h, if_neg h']
      exact ⟨by simp, fun c hc => by cases hc⟩
  all_goals exact ⟨by simp, fun c hc => by cases hc⟩

theorem add_ng {x y : Nat} (hx : x < 18446744073709551616) (hy : y < 18446744073709551616) :
    (double.add (ng x) (ng y) = none ↔ double.add x y = none) ∧ ∀ r, double.add x y = some r → ∃ q, double.add (ng x) (ng y) = some q ∧ Eqv q (ng r) := by
  unfold Format.add
  rw [read_ng x hx, read_ng y hy]
  obtain ⟨h1, h2⟩ := sum_ng (double.read x) (double.read y)
  refine ⟨by simp only [Option.map_eq_none_iff]; exact h1, ?_⟩
  intro r hr
  cases hs : (double.read x).sum (double.read y) with
  | none => rw [hs] at hr; cases hr
  | some c =>
    rw [hs] at hr; cases hr
    obtain ⟨e, he, hq⟩ := h2 c hs
    exact ⟨_, by rw [he]; rfl, hq⟩

/-- rounding doesn't fall -/
theorem rg_mono_at {m n : Nat} (h : m ≤ n) (i : Int) : rg m i ≤ rg n i := by
  by_cases hm : m = 0
  · subst hm; unfold rg; simp
  · have hn : n ≠ 0 := by omega
    unfold rg
    rw [if_neg hm, if_neg hn]
    have hl : m.log2 ≤ n.log2 := (Nat.le_log2 hn).2 (Nat.le_trans (Nat.log2_self_le hm) h)
    have hll : lst m i ≤ lst n i := by unfold lst; omega
    by_cases e : lst m i = lst n i
    · rw [e]
      exact Nat.add_le_add_left (rhe_mono (Nat.mul_le_mul_right _ h) _) _
    · have h1 : lst n i = i + n.log2 - 52 := by unfold lst at *; omega
      have h2 : i + m.log2 - 52 ≤ lst m i := by unfold lst; omega
      have h0 : -1074 ≤ lst m i := by unfold lst; omega
      generalize lst m i = l at *
      generalize lst n i = k at *
      have k1 : rhe (m * 2 ^ (i - l).toNat) (l - i).toNat ≤ 9007199254740992 := by
        apply rhe_le
        have hm2 : m < 2 ^ (m.log2 + 1) := Nat.lt_log2_self
        have hx : 2 ^ (m.log2 + 1) * 2 ^ (i - l).toNat ≤ 2 ^ 53 * 2 ^ (l - i).toNat := by
          rw [← Nat.pow_add, ← Nat.pow_add]
          exact Nat.pow_le_pow_right (by omega) (by omega)
        have hy : m * 2 ^ (i - l).toNat ≤ 2 ^ (m.log2 + 1) * 2 ^ (i - l).toNat := Nat.mul_le_mul_right _ (by omega)
        exact Nat.le_trans hy hx
      have k2 : 4503599627370496 ≤ rhe (n * 2 ^ (i - k).toNat) (k - i).toNat := by
        apply le_rhe
        have hn2 := Nat.log2_self_le hn
        have hx : 2 ^ 52 * 2 ^ (k - i).toNat ≤ 2 ^ n.log2 * 2 ^ (i - k).toNat := by
          rw [← Nat.pow_add, ← Nat.pow_add]
          exact Nat.pow_le_pow_right (by omega) (by omega)
        exact Nat.le_trans hx (Nat.mul_le_mul_right _ hn2)
      have : (l + 1074).toNat + 1 ≤ (k + 1074).toNat := by omega
      have : ((l + 1074).toNat + 1) * 4503599627370496 ≤ (k + 1074).toNat * 4503599627370496 := Nat.mul_le_mul_right _ this
      omega

/-- times a power of two, where nothing falls below the least place -/
theorem rg_shift {m : Nat} (hm : m ≠ 0) {i : Int} (h : -1022 ≤ i + m.log2) (k : Nat) : rg m (i + k) = rg m i + k * 4503599627370496 := by
  unfold rg
  rw [if_neg hm, if_neg hm]
  have h1 : lst m i = i + m.log2 - 52 := by unfold lst; omega
  have h2 : lst m (i + k) = i + k + m.log2 - 52 := by unfold lst; omega
  rw [h1, h2]
  have e1 : (i + ↑k - (i + ↑k + ↑m.log2 - 52)).toNat = (i - (i + ↑m.log2 - 52)).toNat := by omega
  have e2 : (i + ↑k + ↑m.log2 - 52 - (i + ↑k)).toNat = (i + ↑m.log2 - 52 - i).toNat := by omega
  rw [e1, e2]
  have e3 : (i + ↑k + ↑m.log2 - 52 + 1074).toNat = (i + ↑m.log2 - 52 + 1074).toNat + k := by omega
  rw [e3, Nat.add_mul]; omega

end Go.Proofs.YtoaccmblaifnmaaDoor.Ari
