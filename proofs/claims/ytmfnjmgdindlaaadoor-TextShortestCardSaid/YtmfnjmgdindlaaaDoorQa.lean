/-
  Plain mathematics of float64 words: the order of IEEE 754 of two words that are no NaN is the order of their signed rungs. No condition; nothing of the program.
-/
import Ieee.Arith
import Derived.WalkKit
namespace Go.Proofs.YtmfnjmgdindlaaaDoor.Flo
open Ieee

/-- A word that is a NaN: what lies under the sign bit is above infinity's. -/
def nanB (n : Nat) : Bool := decide (9218868437227405312 < n % 9223372036854775808)
/-- The signed rung. -/
def sv (n : Nat) : Int := if n < 9223372036854775808 then (n : Int) else -((n : Int) - 9223372036854775808)

theorem signWeight_d : double.signWeight = 9223372036854775808 := by decide
theorem binade_d : double.binade = 4503599627370496 := by decide
theorem infRung_d : double.infRung = 9218868437227405312 := by decide

/-- exponent and magnitude of a rung -/
def ex (r : Nat) : Nat := r / 4503599627370496 - 1
def mg (r : Nat) : Nat := r - ex r * 4503599627370496

theorem mg_eq (r : Nat) : mg r + ex r * 4503599627370496 = r := by unfold mg ex; omega
theorem mg_lt (r : Nat) : mg r < 9007199254740992 := by unfold mg ex; omega
theorem mg_ge (r : Nat) (h : 0 < ex r) : 4503599627370496 ≤ mg r := by unfold mg ex at *; omega

theorem read_fin (n : Nat) (h64 : n < 18446744073709551616) (h : n % 9223372036854775808 < 9218868437227405312) :
    double.read n = .number (decide (9223372036854775808 ≤ n)) (mg (n % 9223372036854775808)) (double.leastPlace + ex (n % 9223372036854775808)) := by
  unfold Format.read
  simp only [signWeight_d, binade_d, infRung_d]
  have hs : (n / 9223372036854775808 % 2 == 1) = decide (9223372036854775808 ≤ n) := by
    by_cases hn : 9223372036854775808 ≤ n
    · have e : n / 9223372036854775808 % 2 = 1 := by omega
      simp [hn, e]
    · have e : n / 9223372036854775808 % 2 = 0 := by omega
      simp [hn, e]
  rw [hs]
  by_cases h1 : n % 9223372036854775808 < 4503599627370496
  · rw [if_pos h1]
    have e0 : ex (n % 9223372036854775808) = 0 := by unfold ex; omega
    have m0 : mg (n % 9223372036854775808) = n % 9223372036854775808 := by unfold mg; omega
    rw [e0, m0]; simp
  · rw [if_neg h1, if_pos h]
    have m0 : mg (n % 9223372036854775808) = 4503599627370496 + n % 9223372036854775808 % 4503599627370496 := by unfold mg ex; omega
    rw [m0]; rfl

theorem read_inf (n : Nat) (h64 : n < 18446744073709551616) (h : n % 9223372036854775808 = 9218868437227405312) :
    double.read n = .infinity (decide (9223372036854775808 ≤ n)) := by
  unfold Format.read
  simp only [signWeight_d, binade_d, infRung_d]
  have hs : (n / 9223372036854775808 % 2 == 1) = decide (9223372036854775808 ≤ n) := by
    by_cases hn : 9223372036854775808 ≤ n
    · have e : n / 9223372036854775808 % 2 = 1 := by omega
      simp [hn, e]
    · have e : n / 9223372036854775808 % 2 = 0 := by omega
      simp [hn, e]
  rw [hs, if_neg (by omega), if_neg (by omega), if_pos h]

theorem read_nan (n : Nat) (h : 9218868437227405312 < n % 9223372036854775808) :
    ∃ s t, double.read n = .nan s t := by
  unfold Format.read
  simp only [signWeight_d, binade_d, infRung_d]
  rw [if_neg (by omega), if_neg (by omega), if_neg (by omega)]
  exact ⟨_, _, rfl⟩

/-- The magnitudes' order is the rungs'. -/
theorem shl_lt {r s : Nat} (h : r < s) (c : Nat) (h1 : c ≤ ex r) (h2 : c ≤ ex s) : mg r <<< (ex r - c) < mg s <<< (ex s - c) := by
  rw [Nat.shiftLeft_eq, Nat.shiftLeft_eq]
  have er := mg_eq r; have es := mg_eq s; have lr := mg_lt r
  by_cases e : ex r = ex s
  · rw [e] at er ⊢
    exact Nat.mul_lt_mul_of_pos_right (by omega) (Nat.two_pow_pos _)
  · have hlt : ex r < ex s := by unfold ex at *; omega
    have gs := mg_ge s (by omega)
    have hp : 2 ^ (ex s - c) = 2 ^ (ex r - c) * 2 ^ (ex s - ex r) := by rw [← Nat.pow_add]; congr 1; omega
    have h2' : 2 ≤ 2 ^ (ex s - ex r) := by
      calc 2 = 2 ^ 1 := rfl
        _ ≤ 2 ^ (ex s - ex r) := Nat.pow_le_pow_right (by omega) (by omega)
    have hpos : 0 < 2 ^ (ex r - c) := Nat.two_pow_pos _
    have a1 : mg r * 2 ^ (ex r - c) < 9007199254740992 * 2 ^ (ex r - c) := Nat.mul_lt_mul_of_pos_right lr hpos
    have a2 : 9007199254740992 * 2 ^ (ex r - c) ≤ mg s * 2 ^ (ex s - c) := by
      rw [hp, Nat.mul_comm (2 ^ (ex r - c)), ← Nat.mul_assoc]
      apply Nat.mul_le_mul_right
      calc 9007199254740992 = 4503599627370496 * 2 := rfl
        _ ≤ mg s * 2 ^ (ex s - ex r) := Nat.mul_le_mul gs h2'
    omega

theorem compare_of_lt {x y : Int} (h : x < y) : compare x y = .lt := by simp [compare, compareOfLessAndEq, h]
theorem compare_of_gt {x y : Int} (h : y < x) : compare x y = .gt := by
  have h1 : ¬ x < y := by omega
  have h2 : ¬ x = y := by omega
  simp [compare, compareOfLessAndEq, h1, h2]
theorem compare_self (x : Int) : compare x x = .eq := by simp [compare, compareOfLessAndEq]

/-- The magnitude of a rung at the common base. -/
theorem shl_pos {r : Nat} (c : Nat) (hr : 0 < r) : 0 < mg r <<< (ex r - c) := by
  rw [Nat.shiftLeft_eq]
  apply Nat.mul_pos _ (Nat.two_pow_pos _)
  unfold mg ex; omega
theorem mg_zero : mg 0 = 0 := by decide

theorem order_fin (a b : Nat) (ha : a < 18446744073709551616) (hb : b < 18446744073709551616)
    (h1 : a % 9223372036854775808 < 9218868437227405312) (h2 : b % 9223372036854775808 < 9218868437227405312) :
    double.order a b = some (compare (sv a) (sv b)) := by
  unfold Format.order
  rw [read_fin a ha h1, read_fin b hb h2]
  generalize hr : a % 9223372036854775808 = r at *
  generalize hs : b % 9223372036854775808 = s at *
  simp only [Datum.order]
  have hmin : min (double.leastPlace + (ex r : Int)) (double.leastPlace + (ex s : Int)) = double.leastPlace + ((min (ex r) (ex s) : Nat) : Int) := by omega
  rw [hmin]
  have e1 : (double.leastPlace + (ex r : Int) - (double.leastPlace + ((min (ex r) (ex s) : Nat) : Int))).toNat = ex r - min (ex r) (ex s) := by omega
  have e2 : (double.leastPlace + (ex s : Int) - (double.leastPlace + ((min (ex r) (ex s) : Nat) : Int))).toNat = ex s - min (ex r) (ex s) := by omega
  rw [e1, e2]
  congr 1
  unfold signed
  have c1 : min (ex r) (ex s) ≤ ex r := Nat.min_le_left _ _
  have c2 : min (ex r) (ex s) ≤ ex s := Nat.min_le_right _ _
  generalize min (ex r) (ex s) = c at *
  have L1 : r < s → mg r <<< (ex r - c) < mg s <<< (ex s - c) := fun h => shl_lt h c c1 c2
  have L2 : s < r → mg s <<< (ex s - c) < mg r <<< (ex r - c) := fun h => shl_lt h c c2 c1
  have L3 : r = s → mg r <<< (ex r - c) = mg s <<< (ex s - c) := fun h => by rw [h]
  have P1 : 0 < r → 0 < mg r <<< (ex r - c) := shl_pos c
  have P2 : 0 < s → 0 < mg s <<< (ex s - c) := shl_pos c
  have Z1 : r = 0 → mg r <<< (ex r - c) = 0 := fun h => by rw [h, mg_zero]; simp
  have Z2 : s = 0 → mg s <<< (ex s - c) = 0 := fun h => by rw [h, mg_zero]; simp
  generalize mg r <<< (ex r - c) = x at *
  generalize mg s <<< (ex s - c) = y at *
  have key : ∀ p q u v : Int, ((p < q ↔ u < v) ∧ (q < p ↔ v < u)) → compare p q = compare u v := by
    intro p q u v ⟨i1, i2⟩
    by_cases h : p < q
    · rw [compare_of_lt h, compare_of_lt (i1.1 h)]
    · by_cases h' : q < p
      · rw [compare_of_gt h', compare_of_gt (i2.1 h')]
      · have e3 : p = q := by omega
        have h3 : ¬ u < v := fun h9 => h (i1.2 h9)
        have h4 : ¬ v < u := fun h9 => h' (i2.2 h9)
        have e4 : u = v := by omega
        rw [e3, e4, compare_self, compare_self]
  apply key
  unfold sv
  simp only [decide_eq_true_eq]
  split <;> split <;> split <;> split <;> constructor <;> constructor <;> intro h <;> omega
theorem order_of (a b : Nat) (ha : a < 18446744073709551616) (hb : b < 18446744073709551616)
    (h1 : a % 9223372036854775808 ≤ 9218868437227405312) (h2 : b % 9223372036854775808 ≤ 9218868437227405312) :
    double.order a b = some (compare (sv a) (sv b)) := by
  by_cases i1 : a % 9223372036854775808 = 9218868437227405312
  · by_cases i2 : b % 9223372036854775808 = 9218868437227405312
    · unfold Format.order
      rw [read_inf a ha i1, read_inf b hb i2]
      simp only [Datum.order]
      by_cases j1 : 9223372036854775808 ≤ a <;> by_cases j2 : 9223372036854775808 ≤ b
      · have e : a = b := by omega
        subst e; simp [j1]
      · rw [compare_of_lt (x := sv a) (by unfold sv; split <;> split <;> omega)]; simp [j1, j2]; decide
      · rw [compare_of_gt (x := sv a) (by unfold sv; split <;> split <;> omega)]; simp [j1, j2]; decide
      · have e : a = b := by omega
        subst e; simp [j1]
    · unfold Format.order
      rw [read_inf a ha i1, read_fin b hb (by omega)]
      simp only [Datum.order]
      by_cases j1 : 9223372036854775808 ≤ a
      · rw [compare_of_lt (x := sv a) (by unfold sv; split <;> split <;> omega)]; simp [j1]
      · rw [compare_of_gt (x := sv a) (by unfold sv; split <;> split <;> omega)]; simp [j1]
  · by_cases i2 : b % 9223372036854775808 = 9218868437227405312
    · unfold Format.order
      rw [read_fin a ha (by omega), read_inf b hb i2]
      simp only [Datum.order]
      by_cases j1 : 9223372036854775808 ≤ b
      · rw [compare_of_gt (x := sv a) (by unfold sv; split <;> split <;> omega)]; simp [j1]
      · rw [compare_of_lt (x := sv a) (by unfold sv; split <;> split <;> omega)]; simp [j1]
    · exact order_fin a b ha hb (by omega) (by omega)
theorem order_nan_left (a b : Nat) (h : 9218868437227405312 < a % 9223372036854775808) : double.order a b = none := by
  obtain ⟨s, t, e⟩ := read_nan a h
  unfold Format.order
  rw [e]; cases double.read b <;> rfl
theorem order_nan_right (a b : Nat) (h : 9218868437227405312 < b % 9223372036854775808) : double.order a b = none := by
  obtain ⟨s, t, e⟩ := read_nan b h
  unfold Format.order
  rw [e]; cases double.read a <;> rfl

/-- A comparison's answer, by the signed rungs. -/
theorem lt_iff (a b : Nat) (ha : a < 18446744073709551616) (hb : b < 18446744073709551616) :
    (double.order a b == some .lt) = (!nanB a && !nanB b && decide (sv a < sv b)) := by
  unfold nanB
  by_cases h1 : 9218868437227405312 < a % 9223372036854775808
  · rw [order_nan_left a b h1]; simp [h1]
  by_cases h2 : 9218868437227405312 < b % 9223372036854775808
  · rw [order_nan_right a b h2]; simp [h2]
  rw [order_of a b ha hb (by omega) (by omega)]
  by_cases h : sv a < sv b
  · rw [compare_of_lt h]; simp [h1, h2, h]
  · by_cases h' : sv b < sv a
    · rw [compare_of_gt h']; simp [h1, h2, h]
    · have e : sv a = sv b := by omega
      rw [e, compare_self]; simp [h1, h2]
theorem gt_iff (a b : Nat) (ha : a < 18446744073709551616) (hb : b < 18446744073709551616) :
    (double.order a b == some .gt) = (!nanB a && !nanB b && decide (sv b < sv a)) := by
  unfold nanB
  by_cases h1 : 9218868437227405312 < a % 9223372036854775808
  · rw [order_nan_left a b h1]; simp [h1]
  by_cases h2 : 9218868437227405312 < b % 9223372036854775808
  · rw [order_nan_right a b h2]; simp [h2]
  rw [order_of a b ha hb (by omega) (by omega)]
  by_cases h : sv b < sv a
  · rw [compare_of_gt h]; simp [h1, h2, h]
  · by_cases h' : sv a < sv b
    · rw [compare_of_lt h']; simp [h1, h2, h]
    · have e : sv a = sv b := by omega
      rw [e, compare_self]; simp [h1, h2]
theorem eq_iff (a b : Nat) (ha : a < 18446744073709551616) (hb : b < 18446744073709551616) :
    (double.order a b == some .eq) = (!nanB a && !nanB b && decide (sv a = sv b)) := by
  unfold nanB
  by_cases h1 : 9218868437227405312 < a % 9223372036854775808
  · rw [order_nan_left a b h1]; simp [h1]
  by_cases h2 : 9218868437227405312 < b % 9223372036854775808
  · rw [order_nan_right a b h2]; simp [h2]
  rw [order_of a b ha hb (by omega) (by omega)]
  by_cases h : sv b < sv a
  · have e : ¬ sv a = sv b := by omega
    rw [compare_of_gt h]; simp [h1, h2, e]
  · by_cases h' : sv a < sv b
    · have e : ¬ sv a = sv b := by omega
      rw [compare_of_lt h']; simp [h1, h2, e]
    · have e : sv a = sv b := by omega
      rw [e, compare_self]; simp [h1, h2]
theorem ne_iff (a b : Nat) (ha : a < 18446744073709551616) (hb : b < 18446744073709551616) :
    (double.order a b != some .eq) = !(!nanB a && !nanB b && decide (sv a = sv b)) := by
  have := eq_iff a b ha hb
  rw [← this]; rfl
theorem ne_self (a : Nat) (ha : a < 18446744073709551616) : (double.order a a != some .eq) = nanB a := by
  rw [ne_iff a a ha ha]; simp
end Go.Proofs.YtmfnjmgdindlaaaDoor.Flo
/-
  Plain mathematics of 64-bit words: what Go's and, or, xor and and-not at the sign bit come to, and the plain functions of package bits. Nothing of the program.
-/
namespace Go.Proofs.YtmfnjmgdindlaaaDoor
open Flo

theorem andNot_sign (n : Nat) (h : n < 18446744073709551616) : bits .andNot .u64 (n : Int) 9223372036854775808 = ((n % 9223372036854775808 : Nat) : Int) := by
  have := u64_andNot_nat n 9223372036854775808 h (by decide)
  refine this.trans ?_
  rw [show (18446744073709551615 - 9223372036854775808 : Nat) = 2 ^ 63 - 1 from by decide, Nat.and_two_pow_sub_one_eq_mod]
theorem and_sign (n : Nat) (h : n < 18446744073709551616) : bits .and .u64 (n : Int) 9223372036854775808 = if n < 9223372036854775808 then 0 else 9223372036854775808 := by
  have := u64_and_nat n 9223372036854775808 h (by decide)
  refine this.trans ?_
  rw [show (9223372036854775808 : Nat) = 2 ^ 63 from by decide, nat_bit]
  split <;> omega
theorem or_sign (n : Nat) (h : n < 9223372036854775808) : bits .or .u64 (n : Int) 9223372036854775808 = ((n + 9223372036854775808 : Nat) : Int) := by
  have := u64_or_nat n 9223372036854775808 (by omega) (by decide)
  refine this.trans ?_
  rw [Nat.or_comm, nat_join 63 _ _ (by decide) (by omega)]
  omega
theorem not_u64 (n : Nat) (h : n < 18446744073709551616) : bits .xor .u64 IntKind.u64.max (n : Int) = ((18446744073709551615 - n : Nat) : Int) := by
  show IntKind.u64.wrap ((BitVec.ofInt 64 IntKind.u64.max ^^^ BitVec.ofInt 64 (n : Int)).toNat : Int) = _
  have h1 : BitVec.ofInt 64 IntKind.u64.max = BitVec.allOnes 64 := by decide
  rw [h1, BitVec.allOnes_xor, BitVec.toNat_not, ofInt_u64 n h, IntKind.wrap_u64]
  omega

/-- The plain functions of package bits. -/
def sz (n : Nat) : Nat := n % 9223372036854775808
theorem sz_lt (n : Nat) : sz n < 9223372036854775808 := by unfold sz; omega
def bt (n : Nat) : Nat := if 9218868437227405312 < n % 9223372036854775808 then 9221120237041090560 else n
def pl (n : Nat) : Nat := if bt n < 9223372036854775808 then bt n + 9223372036854775808 else 18446744073709551615 - bt n
def att (p : Nat) : Nat := if 9223372036854775808 ≤ p then p - 9223372036854775808 else 18446744073709551615 - p
def up (n : Nat) : Nat := if 9218868437227405312 < n % 9223372036854775808 ∨ n = 9218868437227405312 then n else att (pl n + 1)
def dn (n : Nat) : Nat := if 9218868437227405312 < n % 9223372036854775808 ∨ n = 18442240474082181120 then n else att (pl n - 1)
def cab (b : Nat) : Int := if b = 0 then 5 else if b < 4503599627370496 then 6 else if b < 9218868437227405312 then 7 else if b = 9218868437227405312 then 8 else 9
def cls (n : Nat) : Int := if bt n < 9223372036854775808 then cab (bt n) else 9 - cab (bt n % 9223372036854775808)
def cp (a b : Nat) : Int := if pl a < pl b then -1 else if pl b < pl a then 1 else 0

theorem bt_lt {n : Nat} (h : n < 18446744073709551616) : bt n < 18446744073709551616 := by unfold bt; split <;> omega
theorem pl_lt {n : Nat} (h : n < 18446744073709551616) : pl n < 18446744073709551616 := by have := bt_lt h; unfold pl; split <;> omega
theorem att_lt {p : Nat} (h : p < 18446744073709551616) : att p < 18446744073709551616 := by unfold att; split <;> omega
theorem ret_int {k : IntKind} {a b : Int} (h : a = b) : Ending.returned (.int k a) = .returned (.int k b) := by rw [h]
theorem ret_float {k : FloatKind} {a b : Nat} (h : a = b) : Ending.returned (.float k a) = .returned (.float k b) := by rw [h]
theorem ret_bool {a b : Bool} (h : a = b) : Ending.returned (.bool a) = .returned (.bool b) := by rw [h]
end Go.Proofs.YtmfnjmgdindlaaaDoor
/-
  Plain mathematics of whole numbers kept as words to a base b: tables, how many words, what each word is, products by a word, sums, differences, doubling, halving. No condition; nothing of the program.
-/
namespace Go.Proofs.YtmfnjmgdindlaaaDoor.Wd

def tab (k : Nat) (g : Nat → Nat) : List Nat := (List.range k).map g
theorem tab_len (k : Nat) (g : Nat → Nat) : (tab k g).length = k := by simp [tab]
theorem tab_get {k i : Nat} (g : Nat → Nat) (h : i < k) : (tab k g)[i]? = some (g i) := by simp [tab, h]
theorem tab_getD {k i : Nat} (g : Nat → Nat) (h : i < k) : (tab k g).getD i 0 = g i := by simp [tab, List.getD, h]
theorem tab_succ (k : Nat) (g : Nat → Nat) : tab (k + 1) g = tab k g ++ [g k] := by simp [tab, List.range_succ]
theorem tab_zero (g : Nat → Nat) : tab 0 g = [] := rfl
theorem tab_congr {k : Nat} {g h : Nat → Nat} (e : ∀ j, j < k → g j = h j) : tab k g = tab k h := by
  unfold tab
  exact List.map_congr_left fun j hj => e j (List.mem_range.1 hj)
theorem tab_set {k i : Nat} (g : Nat → Nat) (d : Nat) : (tab k g).set i d = tab k (fun j => if j = i then d else g j) := by
  apply List.ext_getElem?
  intro j
  rw [List.getElem?_set]
  by_cases hj : j < k
  · by_cases hi : i = j
    · subst hi; rw [tab_len, if_pos rfl, if_pos hj, tab_get _ hj, if_pos rfl]
    · rw [if_neg hi, tab_get _ hj, tab_get _ hj, if_neg (fun h => hi h.symm)]
  · rw [List.getElem?_eq_none (l := tab k _) (by rw [tab_len]; omega), List.getElem?_eq_none (l := tab k _) (by rw [tab_len]; omega), tab_len]
    by_cases hi : i = j
    · rw [if_pos hi, if_neg (by omega)]
    · rw [if_neg hi]
theorem tab_take {k i : Nat} (g : Nat → Nat) (h : i ≤ k) : (tab k g).take i = tab i g := by
  unfold tab
  rw [← List.map_take, List.take_range, Nat.min_eq_left h]

/-- word i of n -/
def wd (b n i : Nat) : Nat := n / b ^ i % b
def dl (b k n : Nat) : List Nat := tab k (wd b n)
theorem wd_lt {b : Nat} (hb : 0 < b) (n i : Nat) : wd b n i < b := Nat.mod_lt _ hb
theorem wd_big {b n i : Nat} (h : n < b ^ i) : wd b n i = 0 := by unfold wd; rw [Nat.div_eq_of_lt h]; simp
theorem wd_big' {b n i j : Nat} (hb : 0 < b) (h : n < b ^ i) (hij : i ≤ j) : wd b n j = 0 :=
  wd_big (Nat.lt_of_lt_of_le h (Nat.pow_le_pow_right hb hij))

/-- how many words n has -/
def nwF (b : Nat) : Nat → Nat → Nat
  | 0, _ => 0
  | f + 1, n => if n = 0 ∨ b < 2 then 0 else nwF b f (n / b) + 1
def nw (b n : Nat) : Nat := nwF b n n
theorem nwF_eq {b : Nat} (hb : 2 ≤ b) (f : Nat) : ∀ g n, n ≤ f → n ≤ g → nwF b f n = nwF b g n := by
  induction f with
  | zero =>
    intro g n h _
    have h0 : n = 0 := by omega
    subst h0
    cases g with
    | zero => rfl
    | succ g => simp [nwF]
  | succ f ih =>
    intro g n h h'
    cases g with
    | zero =>
      have h0 : n = 0 := by omega
      subst h0
      simp [nwF]
    | succ g =>
      by_cases h0 : n = 0
      · subst h0; simp [nwF]
      · have hlt : n / b < n := Nat.div_lt_self (by omega) (by omega)
        simp only [nwF]
        rw [if_neg (by omega), if_neg (by omega), ih g (n / b) (by omega) (by omega)]
theorem nw_zero (b : Nat) : nw b 0 = 0 := rfl
theorem nw_pos {b n : Nat} (hb : 2 ≤ b) (h : 0 < n) : nw b n = nw b (n / b) + 1 := by
  obtain ⟨m, rfl⟩ : ∃ m, n = m + 1 := ⟨n - 1, by omega⟩
  have hlt : (m + 1) / b < m + 1 := Nat.div_lt_self (by omega) (by omega)
  unfold nw
  rw [nwF, if_neg (by omega), nwF_eq hb m ((m + 1) / b) ((m + 1) / b) (by omega) (Nat.le_refl _)]
theorem lt_pow_nw {b : Nat} (hb : 2 ≤ b) (n : Nat) : n < b ^ nw b n := by
  induction n using Nat.strongRecOn with
  | ind n ih =>
    rcases Nat.eq_zero_or_pos n with h | h
    · subst h; rw [nw_zero]; simp
    · rw [nw_pos hb h, Nat.pow_succ]
      have := ih (n / b) (Nat.div_lt_self h (by omega))
      exact (Nat.div_lt_iff_lt_mul (by omega)).1 this
theorem pow_le_of_nw {b n : Nat} (hb : 2 ≤ b) (h : 0 < n) : b ^ (nw b n - 1) ≤ n := by
  induction n using Nat.strongRecOn with
  | ind n ih =>
    rw [nw_pos hb h, Nat.add_sub_cancel]
    rcases Nat.eq_zero_or_pos (n / b) with h0 | h0
    · rw [h0, nw_zero]; exact h
    · have := ih (n / b) (Nat.div_lt_self h (by omega)) h0
      have h1 : 1 ≤ nw b (n / b) := by rw [nw_pos hb h0]; omega
      have h2 : b ^ nw b (n / b) = b ^ (nw b (n / b) - 1) * b := by rw [← Nat.pow_succ]; congr 1; omega
      rw [h2]
      exact (Nat.le_div_iff_mul_le (by omega)).1 this
theorem nw_le {b n k : Nat} (hb : 2 ≤ b) (h : n < b ^ k) : nw b n ≤ k := by
  rcases Nat.eq_zero_or_pos n with h0 | h0
  · subst h0; rw [nw_zero]; omega
  · have := pow_le_of_nw hb h0
    have h2 : b ^ (nw b n - 1) < b ^ k := Nat.lt_of_le_of_lt this h
    have := (Nat.pow_lt_pow_iff_right (by omega : 1 < b)).1 h2
    omega
theorem nw_gt {b n k : Nat} (hb : 2 ≤ b) (h : b ^ k ≤ n) : k < nw b n := by
  have h1 := lt_pow_nw hb n
  exact (Nat.pow_lt_pow_iff_right (by omega : 1 < b)).1 (Nat.lt_of_le_of_lt h h1)
theorem nw_eq {b n k : Nat} (hb : 2 ≤ b) (h : n < b ^ k) (h' : k = 0 ∨ b ^ (k - 1) ≤ n) : nw b n = k := by
  have h1 := nw_le hb h
  rcases h' with h' | h'
  · omega
  · have := nw_gt hb h'
    omega
theorem nw_mono {b m n : Nat} (hb : 2 ≤ b) (h : m ≤ n) : nw b m ≤ nw b n := nw_le hb (Nat.lt_of_le_of_lt h (lt_pow_nw hb n))
theorem top_ne {b n : Nat} (hb : 2 ≤ b) (h : 0 < n) : wd b n (nw b n - 1) ≠ 0 := by
  unfold wd
  have h1 := pow_le_of_nw hb h
  have h2 := lt_pow_nw hb n
  have h3 : 0 < nw b n := by rw [nw_pos hb h]; omega
  have h4 : n / b ^ (nw b n - 1) < b := by
    apply (Nat.div_lt_iff_lt_mul (Nat.pow_pos (by omega))).2
    rw [Nat.mul_comm, ← Nat.pow_succ]
    rwa [show (nw b n - 1).succ = nw b n by omega]
  rw [Nat.mod_eq_of_lt h4]
  have := (Nat.le_div_iff_mul_le (Nat.pow_pos (by omega : 0 < b))).2 (by rwa [Nat.one_mul])
  omega
theorem nw_lt_of_top {b n k : Nat} (hb : 2 ≤ b) (h : n < b ^ (k + 1)) (h0 : wd b n k = 0) : n < b ^ k := by
  apply Nat.lt_of_not_le
  intro hc
  have : nw b n = k + 1 := nw_eq hb h (Or.inr hc)
  have hp : 0 < n := Nat.lt_of_lt_of_le (Nat.pow_pos (by omega)) hc
  have := top_ne hb hp
  rw [‹nw b n = k + 1›] at this
  exact this h0
theorem nw_of_top {b n k : Nat} (hb : 2 ≤ b) (h : n < b ^ (k + 1)) (h0 : wd b n k ≠ 0) : nw b n = k + 1 := by
  apply nw_eq hb h
  right
  apply Nat.le_of_not_lt
  intro hc
  exact h0 (wd_big hc)

theorem div_step (b n i : Nat) : n / b ^ (i + 1) = n / b ^ i / b := by rw [Nat.pow_succ, Nat.div_div_eq_div_mul]
theorem div_split {b : Nat} (n i : Nat) : n / b ^ i = n / b ^ (i + 1) * b + wd b n i := by
  unfold wd
  rw [div_step]
  have := Nat.div_add_mod (n / b ^ i) b
  rw [Nat.mul_comm] at this
  exact this.symm
theorem mod_step (b n i : Nat) : n % b ^ (i + 1) = n % b ^ i + b ^ i * wd b n i := by
  unfold wd
  rw [Nat.pow_succ, Nat.mod_mul]

/-- n x f + c, word by word: the carry behind i words -/
def cm (b n f c i : Nat) : Nat := (n % b ^ i * f + c) / b ^ i
theorem cm_zero (b n f c : Nat) : cm b n f c 0 = c := by unfold cm; simp [Nat.mod_one]
theorem cm_mid {b : Nat} (hb : 0 < b) (n f c i : Nat) : (n % b ^ (i + 1) * f + c) / b ^ i = wd b n i * f + cm b n f c i := by
  unfold cm
  rw [mod_step, Nat.add_mul, Nat.mul_assoc, Nat.add_right_comm, Nat.add_mul_div_left _ _ (Nat.pow_pos hb), Nat.add_comm]
theorem cm_succ {b : Nat} (hb : 0 < b) (n f c i : Nat) : cm b n f c (i + 1) = (wd b n i * f + cm b n f c i) / b := by
  rw [← cm_mid hb, cm, Nat.pow_succ, Nat.div_div_eq_div_mul]
theorem cm_word {b : Nat} (hb : 0 < b) (n f c i : Nat) : wd b (n * f + c) i = (wd b n i * f + cm b n f c i) % b := by
  rw [← cm_mid hb]
  unfold wd
  have e : n * f + c = (n % b ^ (i + 1) * f + c) + b ^ i * (b * (n / b ^ (i + 1) * f)) := by
    have h := Nat.div_add_mod n (b ^ (i + 1))
    have : n * f = (b ^ (i + 1) * (n / b ^ (i + 1)) + n % b ^ (i + 1)) * f := by rw [h]
    rw [this, Nat.add_mul, Nat.pow_succ]
    have : b ^ i * b * (n / (b ^ i * b)) * f = b ^ i * (b * (n / (b ^ i * b) * f)) := by simp only [Nat.mul_assoc]
    rw [this]; omega
  rw [e, Nat.add_mul_div_left _ _ (Nat.pow_pos hb), Nat.add_mul_mod_self_left]
theorem cm_lt {b n f c : Nat} (hb : 0 < b) (hf : f < b) (hc : c < b) (i : Nat) : cm b n f c i < b := by
  unfold cm
  apply (Nat.div_lt_iff_lt_mul (Nat.pow_pos hb)).2
  have h1 : n % b ^ i ≤ b ^ i - 1 := by have := Nat.mod_lt n (Nat.pow_pos hb : 0 < b ^ i); omega
  have h2 : n % b ^ i * f ≤ (b ^ i - 1) * (b - 1) := Nat.mul_le_mul h1 (by omega)
  have hp : 0 < b ^ i := Nat.pow_pos hb
  obtain ⟨p, hp'⟩ : ∃ p, b ^ i = p + 1 := ⟨b ^ i - 1, by omega⟩
  obtain ⟨q, hq⟩ : ∃ q, b = q + 1 := ⟨b - 1, by omega⟩
  rw [hp'] at h2 ⊢
  have : (p + 1 - 1) * (b - 1) = p * q := by rw [hq]; simp
  rw [this] at h2
  have : b * (p + 1) = q * p + q + p + 1 := by rw [hq, Nat.add_mul, Nat.mul_add]; omega
  rw [this, Nat.mul_comm q p]
  omega
theorem cm_end {b n f c k : Nat} (h : n < b ^ k) : cm b n f c k = (n * f + c) / b ^ k := by unfold cm; rw [Nat.mod_eq_of_lt h]

/-- sums -/
def ca (b m n i : Nat) : Nat := (m % b ^ i + n % b ^ i) / b ^ i
theorem ca_zero (b m n : Nat) : ca b m n 0 = 0 := by simp [ca, Nat.mod_one]
theorem ca_mid {b : Nat} (hb : 0 < b) (m n i : Nat) : (m % b ^ (i + 1) + n % b ^ (i + 1)) / b ^ i = wd b m i + wd b n i + ca b m n i := by
  unfold ca
  rw [mod_step, mod_step, show m % b ^ i + b ^ i * wd b m i + (n % b ^ i + b ^ i * wd b n i) = (m % b ^ i + n % b ^ i) + b ^ i * (wd b m i + wd b n i) by rw [Nat.mul_add]; omega,
    Nat.add_mul_div_left _ _ (Nat.pow_pos hb)]
  omega
theorem ca_succ {b : Nat} (hb : 0 < b) (m n i : Nat) : ca b m n (i + 1) = (wd b m i + wd b n i + ca b m n i) / b := by
  rw [← ca_mid hb, ca, Nat.pow_succ, Nat.div_div_eq_div_mul]
theorem ca_word {b : Nat} (hb : 0 < b) (m n i : Nat) : wd b (m + n) i = (wd b m i + wd b n i + ca b m n i) % b := by
  rw [← ca_mid hb]
  unfold wd
  have e : m + n = (m % b ^ (i + 1) + n % b ^ (i + 1)) + b ^ i * (b * (m / b ^ (i + 1) + n / b ^ (i + 1))) := by
    have h1 := Nat.div_add_mod m (b ^ (i + 1))
    have h2 := Nat.div_add_mod n (b ^ (i + 1))
    have : b ^ i * (b * (m / b ^ (i + 1) + n / b ^ (i + 1))) = b ^ (i + 1) * (m / b ^ (i + 1)) + b ^ (i + 1) * (n / b ^ (i + 1)) := by
      rw [← Nat.mul_assoc, ← Nat.pow_succ, Nat.mul_add]
    omega
  rw [e, Nat.add_mul_div_left _ _ (Nat.pow_pos hb), Nat.add_mul_mod_self_left]
theorem ca_le {b : Nat} (hb : 0 < b) (m n i : Nat) : ca b m n i ≤ 1 := by
  unfold ca
  have h1 := Nat.mod_lt m (Nat.pow_pos hb : 0 < b ^ i)
  have h2 := Nat.mod_lt n (Nat.pow_pos hb : 0 < b ^ i)
  have : (m % b ^ i + n % b ^ i) / b ^ i < 2 := (Nat.div_lt_iff_lt_mul (Nat.pow_pos hb)).2 (by omega)
  omega
theorem ca_end {b m n k : Nat} (h : m < b ^ k) (h' : n < b ^ k) : ca b m n k = (m + n) / b ^ k := by
  unfold ca; rw [Nat.mod_eq_of_lt h, Nat.mod_eq_of_lt h']

/-- differences: the borrow -/
def br (b m n i : Nat) : Nat := if m % b ^ i < n % b ^ i then 1 else 0
theorem br_zero (b m n : Nat) : br b m n 0 = 0 := by simp [br, Nat.mod_one]
theorem br_le (b m n i : Nat) : br b m n i ≤ 1 := by unfold br; split <;> omega
theorem br_key {b : Nat} (hb : 0 < b) (m n i : Nat) (h : n ≤ m) :
    wd b (m - n) i + wd b n i + br b m n i = wd b m i + b * br b m n (i + 1) := by
  have hp : 0 < b ^ i := Nat.pow_pos hb
  have a1 := mod_step b m i
  have a2 := mod_step b n i
  have a3 := mod_step b (m - n) i
  have l1 := Nat.mod_lt m hp
  have l2 := Nat.mod_lt n hp
  have l3 := Nat.mod_lt (m - n) hp
  have w1 := wd_lt hb m i
  have w2 := wd_lt hb n i
  have w3 := wd_lt hb (m - n) i
  have s0 : ((m - n) % b ^ i + n % b ^ i) % b ^ i = m % b ^ i := by rw [← Nat.add_mod, Nat.sub_add_cancel h]
  have s1 : ((m - n) % b ^ (i + 1) + n % b ^ (i + 1)) % b ^ (i + 1) = m % b ^ (i + 1) := by rw [← Nat.add_mod, Nat.sub_add_cancel h]
  have l4 := Nat.mod_lt m (Nat.pow_pos hb : 0 < b ^ (i + 1))
  have l5 := Nat.mod_lt n (Nat.pow_pos hb : 0 < b ^ (i + 1))
  have l6 := Nat.mod_lt (m - n) (Nat.pow_pos hb : 0 < b ^ (i + 1))
  have key : ∀ (P x y z : Nat), x < P → y < P → z < P → (x + y) % P = z → x + y = z + P * (if z < y then 1 else 0) := by
    intro P x y z hx hy hz hm
    by_cases hc : x + y < P
    · rw [Nat.mod_eq_of_lt hc] at hm
      rw [if_neg (by omega)]; omega
    · rw [Nat.mod_eq_sub_mod (by omega), Nat.mod_eq_of_lt (by omega)] at hm
      rw [if_pos (by omega)]; omega
  have k0 : (m - n) % b ^ i + n % b ^ i = m % b ^ i + b ^ i * br b m n i := key _ _ _ _ l3 l2 l1 s0
  have k1 : (m - n) % b ^ (i + 1) + n % b ^ (i + 1) = m % b ^ (i + 1) + b ^ (i + 1) * br b m n (i + 1) := key _ _ _ _ l6 l5 l4 s1
  rw [a1, a2, a3] at k1
  have e : b ^ i * (wd b (m - n) i + wd b n i + br b m n i) = b ^ i * (wd b m i + b * br b m n (i + 1)) := by
    simp only [Nat.mul_add]
    have : b ^ (i + 1) * br b m n (i + 1) = b ^ i * (b * br b m n (i + 1)) := by rw [Nat.pow_succ, Nat.mul_assoc]
    rw [this] at k1
    clear a1 a2 a3 s0 s1 l4 l5 l6 this key
    generalize (m - n) % b ^ i = x1 at *
    generalize n % b ^ i = x2 at *
    generalize m % b ^ i = x3 at *
    omega
  exact Nat.eq_of_mul_eq_mul_left hp e

/-- comparing from the top -/
theorem cmp_lt {b m n i : Nat} (h : m / b ^ (i + 1) = n / b ^ (i + 1)) (hd : wd b m i < wd b n i) : m < n := by
  have h1 := div_split (b := b) m i
  have h2 := div_split (b := b) n i
  rw [h] at h1
  have : m / b ^ i < n / b ^ i := by omega
  apply Nat.lt_of_not_le
  intro hc
  have := Nat.div_le_div_right (c := b ^ i) hc
  omega
theorem cmp_eq {b m n i : Nat} (h : m / b ^ (i + 1) = n / b ^ (i + 1)) (hd : wd b m i = wd b n i) : m / b ^ i = n / b ^ i := by
  rw [div_split (b := b) m i, div_split (b := b) n i, h, hd]

/-- n x 2^s, s below the word's size: word i out of words i and i - 1 (b = 2^e) -/
theorem shl_word {e s n i : Nat} (hs : s ≤ e) : wd (2 ^ e) (n * 2 ^ s) i = (wd (2 ^ e) n i * 2 ^ s) % 2 ^ e + (if i = 0 then 0 else wd (2 ^ e) n (i - 1) / 2 ^ (e - s)) := by
  have hb : 0 < 2 ^ e := Nat.two_pow_pos e
  have h := cm_word hb n (2 ^ s) 0 i
  rw [Nat.add_zero] at h
  rw [h]
  have hc : cm (2 ^ e) n (2 ^ s) 0 i = if i = 0 then 0 else wd (2 ^ e) n (i - 1) / 2 ^ (e - s) := by
    by_cases h0 : i = 0
    · subst h0; rw [cm_zero]; rfl
    · rw [if_neg h0]
      obtain ⟨j, rfl⟩ : ∃ j, i = j + 1 := ⟨i - 1, by omega⟩
      unfold cm wd
      rw [Nat.add_zero, Nat.add_sub_cancel]
      have e1 : ((2 ^ e) ^ (j + 1) : Nat) = (2 ^ e) ^ j * 2 ^ (e - s) * 2 ^ s := by
        rw [Nat.pow_succ, Nat.mul_assoc, ← Nat.pow_add]; congr 2; omega
      rw [e1, Nat.mul_div_mul_right _ _ (Nat.two_pow_pos s), ← e1, Nat.pow_succ, Nat.mod_mul]
      rw [← Nat.div_div_eq_div_mul, Nat.add_mul_div_left _ _ (Nat.pow_pos hb), Nat.div_eq_of_lt (Nat.mod_lt _ (Nat.pow_pos hb)), Nat.zero_add]
  rw [hc]
  have hlt : (if i = 0 then 0 else wd (2 ^ e) n (i - 1) / 2 ^ (e - s)) < 2 ^ s := by
    split
    · exact Nat.two_pow_pos s
    · apply (Nat.div_lt_iff_lt_mul (Nat.two_pow_pos _)).2
      rw [← Nat.pow_add, show s + (e - s) = e by omega]
      exact wd_lt hb _ _
  generalize (if i = 0 then 0 else wd (2 ^ e) n (i - 1) / 2 ^ (e - s)) = q at *
  have e2 : (2 : Nat) ^ e = 2 ^ s * 2 ^ (e - s) := by rw [← Nat.pow_add]; congr 1; omega
  rw [e2, Nat.mul_comm (wd _ n i) (2 ^ s), Nat.mul_mod_mul_left, Nat.add_comm, Nat.mod_mul]
  rw [Nat.add_comm q, Nat.mul_add_mod, Nat.mod_eq_of_lt hlt, Nat.mul_add_div (Nat.two_pow_pos s), Nat.div_eq_of_lt hlt, Nat.add_zero, Nat.add_comm]
/-- whole words more -/
theorem wd_shift {b : Nat} (hb : 0 < b) (n k i : Nat) : wd b (n * b ^ k) (k + i) = wd b n i := by
  unfold wd
  rw [Nat.pow_add, Nat.mul_comm n, Nat.mul_div_mul_left _ _ (Nat.pow_pos hb)]
theorem wd_shift_low {b : Nat} (hb : 0 < b) (n k i : Nat) (h : i < k) : wd b (n * b ^ k) i = 0 := by
  unfold wd
  obtain ⟨j, rfl⟩ : ∃ j, k = i + (j + 1) := ⟨k - i - 1, by omega⟩
  rw [Nat.pow_add, Nat.mul_comm n, Nat.mul_assoc, Nat.mul_div_cancel_left _ (Nat.pow_pos hb), Nat.pow_succ, Nat.mul_comm (b ^ j) b, Nat.mul_assoc, Nat.mul_mod_right]
/-- n / 2 -/
theorem half_word {b : Nat} (hb : 0 < b) (h2 : 2 ∣ b) (n i : Nat) : wd b (n / 2) i = wd b n i / 2 + b / 2 * (wd b n (i + 1) % 2) := by
  unfold wd
  obtain ⟨c, rfl⟩ := h2
  have hc : 0 < c := by omega
  rw [Nat.div_div_eq_div_mul, Nat.mul_comm 2 ((2 * c) ^ i), ← Nat.div_div_eq_div_mul, div_step]
  generalize n / (2 * c) ^ i = x
  rw [Nat.mul_div_cancel_left _ (by omega : 0 < 2)]
  rw [Nat.mod_mod_of_dvd _ ⟨c, rfl⟩]
  -- x / 2 % (2c) = x % (2c) / 2 + c * (x / (2c) % 2)
  have h3 : x % (2 * c * 2) = x % (2 * c) + 2 * c * (x / (2 * c) % 2) := Nat.mod_mul
  have h4 : x / 2 % (2 * c) = x % (2 * (2 * c)) / 2 := by rw [Nat.mod_mul_right_div_self]
  rw [h4, show 2 * (2 * c) = 2 * c * 2 by omega, h3, Nat.mul_assoc, Nat.add_mul_div_left _ _ (by omega)]
end Go.Proofs.YtmfnjmgdindlaaaDoor.Wd
