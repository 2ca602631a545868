/-
  What PlannerLists and its fellows rest on, joined: Flo Wrd Od0.
-/
import Ieee.Arith
import Derived.WalkKit
import Derived.WalkLawsBesides
namespace Go.Proofs.YtoaccmblaifnmaaDoor.Flo
open Ieee

/-- A word that is a NaN: what lies under the sign bit is above infinity's. -/
def nanB (n : Nat) : Bool := decide (9218868437227405312 < n % 9223372036854775808)
/-- The signed rung. -/
def sv (n : Nat) : Int := if n < 9223372036854775808 then (n : Int) else -((n : Int) - 9223372036854775808)

theorem signWeight_d : double.signWeight = 9223372036854775808 := by decide
theorem binade_d : double.binade = 4503599627370496 := by decide
theorem infRung_d : double.infRung = 9218868437227405312 := by decide

/-- exponent and magnitude of a rung -/
def ex (r : Nat) : Nat := r / 4503599627370496 - 1
def mg (r : Nat) : Nat := r - ex r * 4503599627370496

theorem mg_eq (r : Nat) : mg r + ex r * 4503599627370496 = r := by unfold mg ex; omega
theorem mg_lt (r : Nat) : mg r < 9007199254740992 := by unfold mg ex; omega
theorem mg_ge (r : Nat) (h : 0 < ex r) : 4503599627370496 ≤ mg r := by unfold mg ex at *; omega

theorem read_fin (n : Nat) (h64 : n < 18446744073709551616) (h : n % 9223372036854775808 < 9218868437227405312) :
    double.read n = .number (decide (9223372036854775808 ≤ n)) (mg (n % 9223372036854775808)) (double.leastPlace + ex (n % 9223372036854775808)) := by
  unfold Format.read
  simp only [signWeight_d, binade_d, infRung_d]
  have hs : (n / 9223372036854775808 % 2 == 1) = decide (9223372036854775808 ≤ n) := by
    by_cases hn : 9223372036854775808 ≤ n
    · have e : n / 9223372036854775808 % 2 = 1 := by omega
      simp [hn, e]
    · have e : n / 9223372036854775808 % 2 = 0 := by omega
      simp [hn, e]
  rw [hs]
  by_cases h1 : n % 9223372036854775808 < 4503599627370496
  · rw [if_pos h1]
    have e0 : ex (n % 9223372036854775808) = 0 := by unfold ex; omega
    have m0 : mg (n % 9223372036854775808) = n % 9223372036854775808 := by unfold mg; omega
    rw [e0, m0]; simp
  · rw [if_neg h1, if_pos h]
    have m0 : mg (n % 9223372036854775808) = 4503599627370496 + n % 9223372036854775808 % 4503599627370496 := by unfold mg ex; omega
    rw [m0]; rfl

theorem read_inf (n : Nat) (h64 : n < 18446744073709551616) (h : n % 9223372036854775808 = 9218868437227405312) :
    double.read n = .infinity (decide (9223372036854775808 ≤ n)) := by
  unfold Format.read
  simp only [signWeight_d, binade_d, infRung_d]
  have hs : (n / 9223372036854775808 % 2 == 1) = decide (9223372036854775808 ≤ n) := by
    by_cases hn : 9223372036854775808 ≤ n
    · have e : n / 9223372036854775808 % 2 = 1 := by omega
      simp [hn, e]
    · have e : n / 9223372036854775808 % 2 = 0 := by omega
      simp [hn, e]
  rw [hs, if_neg (by omega), if_neg (by omega), if_pos h]

theorem read_nan (n : Nat) (h : 9218868437227405312 < n % 9223372036854775808) :
    ∃ s t, double.read n = .nan s t := by
  unfold Format.read
  simp only [signWeight_d, binade_d, infRung_d]
  rw [if_neg (by omega), if_neg (by omega), if_neg (by omega)]
  exact ⟨_, _, rfl⟩

/-- The magnitudes' order is the rungs'. -/
theorem shl_lt {r s : Nat} (h : r < s) (c : Nat) (h1 : c ≤ ex r) (h2 : c ≤ ex s) : mg r <<< (ex r - c) < mg s <<< (ex s - c) := by
  rw [Nat.shiftLeft_eq, Nat.shiftLeft_eq]
  have er := mg_eq r; have es := mg_eq s; have lr := mg_lt r
  by_cases e : ex r = ex s
  · rw [e] at er ⊢
    exact Nat.mul_lt_mul_of_pos_right (by omega) (Nat.two_pow_pos _)
  · have hlt : ex r < ex s := by unfold ex at *; omega
    have gs := mg_ge s (by omega)
    have hp : 2 ^ (ex s - c) = 2 ^ (ex r - c) * 2 ^ (ex s - ex r) := by rw [← Nat.pow_add]; congr 1; omega
    have h2' : 2 ≤ 2 ^ (ex s - ex r) := by
      calc 2 = 2 ^ 1 := rfl
        _ ≤ 2 ^ (ex s - ex r) := Nat.pow_le_pow_right (by omega) (by omega)
    have hpos : 0 < 2 ^ (ex r - c) := Nat.two_pow_pos _
    have a1 : mg r * 2 ^ (ex r - c) < 9007199254740992 * 2 ^ (ex r - c) := Nat.mul_lt_mul_of_pos_right lr hpos
    have a2 : 9007199254740992 * 2 ^ (ex r - c) ≤ mg s * 2 ^ (ex s - c) := by
      rw [hp, Nat.mul_comm (2 ^ (ex r - c)), ← Nat.mul_assoc]
      apply Nat.mul_le_mul_right
      calc 9007199254740992 = 4503599627370496 * 2 := rfl
        _ ≤ mg s * 2 ^ (ex s - ex r) := Nat.mul_le_mul gs h2'
    omega

theorem compare_of_lt {x y : Int} (h : x < y) : compare x y = .lt := by simp [compare, compareOfLessAndEq, h]
theorem compare_of_gt {x y : Int} (h : y < x) : compare x y = .gt := by
  have h1 : ¬ x < y := by omega
  have h2 : ¬ x = y := by omega
  simp [compare, compareOfLessAndEq, h1, h2]
theorem compare_self (x : Int) : compare x x = .eq := by simp [compare, compareOfLessAndEq]

/-- The magnitude of a rung at the common base. -/
theorem shl_pos {r : Nat} (c : Nat) (hr : 0 < r) : 0 < mg r <<< (ex r - c) := by
  rw [Nat.shiftLeft_eq]
  apply Nat.mul_pos _ (Nat.two_pow_pos _)
  unfold mg ex; omega
theorem mg_zero : mg 0 = 0 := by decide

theorem order_fin (a b : Nat) (ha : a < 18446744073709551616) (hb : b < 18446744073709551616)
    (h1 : a % 9223372036854775808 < 9218868437227405312) (h2 : b % 9223372036854775808 < 9218868437227405312) :
    double.order a b = some (compare (sv a) (sv b)) := by
  unfold Format.order
  rw [read_fin a ha h1, read_fin b hb h2]
  generalize hr : a % 9223372036854775808 = r at *
  generalize hs : b % 9223372036854775808 = s at *
  simp only [Datum.order]
  have hmin : min (double.leastPlace + (ex r : Int)) (double.leastPlace + (ex s : Int)) = double.leastPlace + ((min (ex r) (ex s) : Nat) : Int) := by omega
  rw [hmin]
  have e1 : (double.leastPlace + (ex r : Int) - (double.leastPlace + ((min (ex r) (ex s) : Nat) : Int))).toNat = ex r - min (ex r) (ex s) := by omega
  have e2 : (double.leastPlace + (ex s : Int) - (double.leastPlace + ((min (ex r) (ex s) : Nat) : Int))).toNat = ex s - min (ex r) (ex s) := by omega
  rw [e1, e2]
  congr 1
  unfold signed
  have c1 : min (ex r) (ex s) ≤ ex r := Nat.min_le_left _ _
  have c2 : min (ex r) (ex s) ≤ ex s := Nat.min_le_right _ _
  generalize min (ex r) (ex s) = c at *
  have L1 : r < s → mg r <<< (ex r - c) < mg s <<< (ex s - c) := fun h => shl_lt h c c1 c2
  have L2 : s < r → mg s <<< (ex s - c) < mg r <<< (ex r - c) := fun h => shl_lt h c c2 c1
  have L3 : r = s → mg r <<< (ex r - c) = mg s <<< (ex s - c) := fun h => by rw [h]
  have P1 : 0 < r → 0 < mg r <<< (ex r - c) := shl_pos c
  have P2 : 0 < s → 0 < mg s <<< (ex s - c) := shl_pos c
  have Z1 : r = 0 → mg r <<< (ex r - c) = 0 := fun h => by rw [h, mg_zero]; simp
  have Z2 : s = 0 → mg s <<< (ex s - c) = 0 := fun h => by rw [h, mg_zero]; simp
  generalize mg r <<< (ex r - c) = x at *
  generalize mg s <<< (ex s - c) = y at *
  have key : ∀ p q u v : Int, ((p < q ↔ u < v) ∧ (q < p ↔ v < u)) → compare p q = compare u v := by
    intro p q u v ⟨i1, i2⟩
    by_cases h : p < q
    · rw [compare_of_lt h, compare_of_lt (i1.1 h)]
    · by_cases h' : q < p
      · rw [compare_of_gt h', compare_of_gt (i2.1 h')]
      · have e3 : p = q := by omega
        have h3 : ¬ u < v := fun h9 => h (i1.2 h9)
        have h4 : ¬ v < u := fun h9 => h' (i2.2 h9)
        have e4 : u = v := by omega
        rw [e3, e4, compare_self, compare_self]
  apply key
  unfold sv
  simp only [decide_eq_true_eq]
  split <;> split <;> split <;> split <;> constructor <;> constructor <;> intro h <;> omega
theorem order_of (a b : Nat) (ha : a < 18446744073709551616) (hb : b < 18446744073709551616)
    (h1 : a % 9223372036854775808 ≤ 9218868437227405312) (h2 : b % 9223372036854775808 ≤ 9218868437227405312) :
    double.order a b = some (compare (sv a) (sv b)) := by
  by_cases i1 : a % 9223372036854775808 = 9218868437227405312
  · by_cases i2 : b % 9223372036854775808 = 9218868437227405312
    · unfold Format.order
      rw [read_inf a ha i1, read_inf b hb i2]
      simp only [Datum.order]
      by_cases j1 : 9223372036854775808 ≤ a <;> by_cases j2 : 9223372036854775808 ≤ b
      · have e : a = b := by omega
        subst e; simp [j1]
      · rw [compare_of_lt (x := sv a) (by unfold sv; split <;> split <;> omega)]; simp [j1, j2]; decide
      · rw [compare_of_gt (x := sv a) (by unfold sv; split <;> split <;> omega)]; simp [j1, j2]; decide
      · have e : a = b := by omega
        subst e; simp [j1]
    · unfold Format.order
      rw [read_inf a ha i1, read_fin b hb (by omega)]
      simp only [Datum.order]
      by_cases j1 : 9223372036854775808 ≤ a
      · rw [compare_of_lt (x := sv a) (by unfold sv; split <;> split <;> omega)]; simp [j1]
      · rw [compare_of_gt (x := sv a) (by unfold sv; split <;> split <;> omega)]; simp [j1]
  · by_cases i2 : b % 9223372036854775808 = 9218868437227405312
    · unfold Format.order
      rw [read_fin a ha (by omega), read_inf b hb i2]
      simp only [Datum.order]
      by_cases j1 : 9223372036854775808 ≤ b
      · rw [compare_of_gt (x := sv a) (by unfold sv; split <;> split <;> omega)]; simp [j1]
      · rw [compare_of_lt (x := sv a) (by unfold sv; split <;> split <;> omega)]; simp [j1]
    · exact order_fin a b ha hb (by omega) (by omega)
theorem order_nan_left (a b : Nat) (h : 9218868437227405312 < a % 9223372036854775808) : double.order a b = none := by
  obtain ⟨s, t, e⟩ := read_nan a h
  unfold Format.order
  rw [e]; cases double.read b <;> rfl
theorem order_nan_right (a b : Nat) (h : 9218868437227405312 < b % 9223372036854775808) : double.order a b = none := by
  obtain ⟨s, t, e⟩ := read_nan b h
  unfold Format.order
  rw [e]; cases double.read a <;> rfl

/-- A comparison's answer, by the signed rungs. -/
theorem lt_iff (a b : Nat) (ha : a < 18446744073709551616) (hb : b < 18446744073709551616) :
    (double.order a b == some .lt) = (!nanB a && !nanB b && decide (sv a < sv b)) := by
  unfold nanB
  by_cases h1 : 9218868437227405312 < a % 9223372036854775808
  · rw [order_nan_left a b h1]; simp [h1]
  by_cases h2 : 9218868437227405312 < b % 9223372036854775808
  · rw [order_nan_right a b h2]; simp [h2]
  rw [order_of a b ha hb (by omega) (by omega)]
  by_cases h : sv a < sv b
  · rw [compare_of_lt h]; simp [h1, h2, h]
  · by_cases h' : sv b < sv a
    · rw [compare_of_gt h']; simp [h1, h2, h]
    · have e : sv a = sv b := by omega
      rw [e, compare_self]; simp [h1, h2]
theorem gt_iff (a b : Nat) (ha : a < 18446744073709551616) (hb : b < 18446744073709551616) :
    (double.order a b == some .gt) = (!nanB a && !nanB b && decide (sv b < sv a)) := by
  unfold nanB
  by_cases h1 : 9218868437227405312 < a % 9223372036854775808
  · rw [order_nan_left a b h1]; simp [h1]
  by_cases h2 : 9218868437227405312 < b % 9223372036854775808
  · rw [order_nan_right a b h2]; simp [h2]
  rw [order_of a b ha hb (by omega) (by omega)]
  by_cases h : sv b < sv a
  · rw [compare_of_gt h]; simp [h1, h2, h]
  · by_cases h' : sv a < sv b
    · rw [compare_of_lt h']; simp [h1, h2, h]
    · have e : sv a = sv b := by omega
      rw [e, compare_self]; simp [h1, h2]
theorem eq_iff (a b : Nat) (ha : a < 18446744073709551616) (hb : b < 18446744073709551616) :
    (double.order a b == some .eq) = (!nanB a && !nanB b && decide (sv a = sv b)) := by
  unfold nanB
  by_cases h1 : 9218868437227405312 < a % 9223372036854775808
  · rw [order_nan_left a b h1]; simp [h1]
  by_cases h2 : 9218868437227405312 < b % 9223372036854775808
  · rw [order_nan_right a b h2]; simp [h2]
  rw [order_of a b ha hb (by omega) (by omega)]
  by_cases h : sv b < sv a
  · have e : ¬ sv a = sv b := by omega
    rw [compare_of_gt h]; simp [h1, h2, e]
  · by_cases h' : sv a < sv b
    · have e : ¬ sv a = sv b := by omega
      rw [compare_of_lt h']; simp [h1, h2, e]
    · have e : sv a = sv b := by omega
      rw [e, compare_self]; simp [h1, h2]
end Go.Proofs.YtoaccmblaifnmaaDoor.Flo
namespace Go.Proofs.YtoaccmblaifnmaaDoor
open Flo

/-- The plain functions of package bits. -/
def sz (n : Nat) : Nat := n % 9223372036854775808
def bt (n : Nat) : Nat := if 9218868437227405312 < n % 9223372036854775808 then 9221120237041090560 else n
def pl (n : Nat) : Nat := if bt n < 9223372036854775808 then bt n + 9223372036854775808 else 18446744073709551615 - bt n
def att (p : Nat) : Nat := if 9223372036854775808 ≤ p then p - 9223372036854775808 else 18446744073709551615 - p
def up (n : Nat) : Nat := if 9218868437227405312 < n % 9223372036854775808 ∨ n = 9218868437227405312 then n else att (pl n + 1)
def cp (a b : Nat) : Int := if pl a < pl b then -1 else if pl b < pl a then 1 else 0

theorem ret_bool {a b : Bool} (h : a = b) : Ending.returned (.bool a) = .returned (.bool b) := by rw [h]
end Go.Proofs.YtoaccmblaifnmaaDoor
namespace Go.Proofs.YtoaccmblaifnmaaDoor
open Go.RowKit
/-- an order: its kind, its number, its Kids -/
structure Tr where
  k : Int
  n : Int
  ks : List Tr
namespace Tr
theorem mem_lt {t : Tr} {k n : Int} {ks : List Tr} (h : t ∈ ks) : SizeOf.sizeOf t < SizeOf.sizeOf (Tr.mk k n ks) := by
  have h1 := List.sizeOf_lt_of_mem h
  have h2 : SizeOf.sizeOf (Tr.mk k n ks) = 1 + SizeOf.sizeOf k + SizeOf.sizeOf n + SizeOf.sizeOf ks := Tr.mk.sizeOf_spec k n ks
  omega
theorem ind {P : Tr → Prop} (h : ∀ k n ks, (∀ t ∈ ks, P t) → P ⟨k, n, ks⟩) (t : Tr) : P t := by
  have key : ∀ m : Nat, ∀ t : Tr, SizeOf.sizeOf t < m → P t := by
    intro m
    induction m with
    | zero => intro t ht; omega
    | succ m ih =>
      intro t ht
      obtain ⟨k, n, ks⟩ := t
      exact h k n ks fun u hu => ih u (by have := mem_lt (k := k) (n := n) hu; omega)
  exact key _ t (Nat.lt_succ_self _)
/-- how many parts -/
def pt : Tr → Nat
  | ⟨_, _, ks⟩ => 1 + (ks.map pt).sum
/-- how deep -/
def dp : Tr → Nat
  | ⟨_, _, ks⟩ => 1 + (ks.map dp).foldl max 0
theorem pt_eq (k n : Int) (ks : List Tr) : pt ⟨k, n, ks⟩ = 1 + (ks.map pt).sum := by rw [pt]
theorem dp_eq (k n : Int) (ks : List Tr) : dp ⟨k, n, ks⟩ = 1 + (ks.map dp).foldl max 0 := by rw [dp]
def tms : List Nat → Nat
  | [a, b] => if 2 ≤ a ∧ 2 ≤ b ∧ a ≤ 16384 / b then a * b else 0
  | _ => 0
def blu (n : Int) : List Nat → Nat
  | [m] => if 2 * n - 1 ≤ (m : Int) then n.toNat else 0
  | _ => 0
/-- the length, out of the Kids' lengths -/
def lnc (k n : Int) (ls : List Nat) : Nat :=
  if k = 1 then (if 1 ≤ n ∧ n ≤ 64 ∧ ls = [] then n.toNat else 0)
  else if k = 2 then (if 2 ≤ n ∧ n ≤ 5 ∧ ls = [] then n.toNat else 0)
  else if k = 3 then (if n = 0 then tms ls else 0)
  else if k = 4 then (if 2 ≤ n ∧ n ≤ 8192 then blu n ls else 0)
  else 0
def ln : Tr → Nat
  | ⟨k, n, ks⟩ => lnc k n (ks.map ln)
theorem ln_eq (k n : Int) (ks : List Tr) : ln ⟨k, n, ks⟩ = lnc k n (ks.map ln) := by rw [ln]
/-- the length of a good order, else 0 -/
def len (t : Tr) : Nat := if pt t ≤ 4096 ∧ dp t ≤ 16 then ln t else 0
/-- the leaves -/
def lv : Tr → List Tr
  | ⟨k, n, ks⟩ => if ks = [] then [⟨k, n, ks⟩] else (ks.map lv).flatten
theorem pt_pos (t : Tr) : 1 ≤ pt t := by obtain ⟨k, n, ks⟩ := t; rw [pt_eq]; omega
theorem sum_take_le {ls : List Nat} (i : Nat) : (ls.take i).sum ≤ ls.sum := by
  have h : ls.sum = (ls.take i).sum + (ls.drop i).sum := by rw [← List.sum_append, List.take_append_drop]
  omega
theorem mem_le_sum {ls : List Nat} {a : Nat} (h : a ∈ ls) : a ≤ ls.sum := by
  induction ls with
  | nil => cases h
  | cons b r ih =>
    rw [List.sum_cons]
    rcases List.mem_cons.1 h with rfl | h
    · omega
    · have := ih h; omega
theorem pt_kid {k n : Int} {ks : List Tr} {t : Tr} (h : t ∈ ks) : pt t < pt ⟨k, n, ks⟩ := by
  rw [pt_eq]
  have := mem_le_sum (List.mem_map_of_mem (f := pt) h)
  omega
theorem fm_le (ls : List Nat) : ∀ a m, ls.foldl max a ≤ m ↔ a ≤ m ∧ ∀ x ∈ ls, x ≤ m := by
  induction ls with
  | nil => intro a m; simp
  | cons b r ih =>
    intro a m
    rw [List.foldl_cons, ih]
    simp only [List.mem_cons, forall_eq_or_imp]
    rw [Nat.max_le, and_assoc]
theorem dp_le {k n : Int} {ks : List Tr} {m : Nat} : dp ⟨k, n, ks⟩ ≤ m ↔ 1 ≤ m ∧ ∀ t ∈ ks, dp t ≤ m - 1 := by
  rw [dp_eq]
  have h := fm_le (ks.map dp) 0 (m - 1)
  constructor
  · intro h1
    have h2 := h.1 (by omega)
    exact ⟨by omega, fun t ht => h2.2 _ (List.mem_map_of_mem ht)⟩
  · rintro ⟨h1, h2⟩
    have h3 := h.2 ⟨Nat.zero_le _, fun x hx => by obtain ⟨t, ht, rfl⟩ := List.mem_map.1 hx; exact h2 t ht⟩
    omega
theorem dp_pos (t : Tr) : 1 ≤ dp t := by obtain ⟨k, n, ks⟩ := t; rw [dp_eq]; omega
end Tr
open Tr
/-- both fit into an int -/
def fit (k n : Int) : Prop := (-9223372036854775808 ≤ k ∧ k ≤ 9223372036854775807) ∧ (-9223372036854775808 ≤ n ∧ n ≤ 9223372036854775807)
/-- an order in memory: its value -/
def OdF (w : World) : Nat → Tr → Value → Prop
  | 0, _, _ => False
  | m + 1, ⟨k, n, ks⟩, v => ∃ ao cap, v = .agg #[.int .i64 k, .int .i64 n, .slice ao ks.length cap] ∧ (ks.length ≤ 9223372036854775807 ∧ fit k n) ∧ ∀ i (h : i < ks.length), ∃ b off s, ao = some ⟨b, off, none⟩ ∧ b < w.heap.size ∧
      w.cell? ⟨b, off + i * 3, none⟩ = some (.int .i64 (ks[i]).k) ∧ w.cell? ⟨b, off + i * 3 + 1, none⟩ = some (.int .i64 (ks[i]).n) ∧ w.cell? ⟨b, off + i * 3 + 2, none⟩ = some s ∧ OdF w m ks[i] (.agg #[.int .i64 (ks[i]).k, .int .i64 (ks[i]).n, s])
def Od (w : World) (t : Tr) (v : Value) : Prop := OdF w (pt t) t v
theorem odf_pt {w : World} (t : Tr) : ∀ m m' v, OdF w m t v → pt t ≤ m' → OdF w m' t v := by
  refine Tr.ind (P := fun t => ∀ m m' v, OdF w m t v → pt t ≤ m' → OdF w m' t v) (fun k n ks ih m m' v h hm => ?_) t
  cases m with
  | zero => exact h.elim
  | succ m =>
    cases m' with
    | zero => have := pt_pos ⟨k, n, ks⟩; omega
    | succ m' =>
      obtain ⟨ao, cap, rfl, hl, hc⟩ := h
      refine ⟨ao, cap, rfl, hl, fun i hi => ?_⟩
      obtain ⟨b, off, s, e1, e2, c0, c1, c2, ho⟩ := hc i hi
      have := pt_kid (k := k) (n := n) (List.getElem_mem hi)
      exact ⟨b, off, s, e1, e2, c0, c1, c2, ih _ (List.getElem_mem hi) m m' _ ho (by omega)⟩
theorem od_eq (w : World) (k n : Int) (ks : List Tr) (v : Value) : Od w ⟨k, n, ks⟩ v ↔ ∃ ao cap, v = .agg #[.int .i64 k, .int .i64 n, .slice ao ks.length cap] ∧ (ks.length ≤ 9223372036854775807 ∧ fit k n) ∧ ∀ i (h : i < ks.length), ∃ b off s, ao = some ⟨b, off, none⟩ ∧ b < w.heap.size ∧
      w.cell? ⟨b, off + i * 3, none⟩ = some (.int .i64 (ks[i]).k) ∧ w.cell? ⟨b, off + i * 3 + 1, none⟩ = some (.int .i64 (ks[i]).n) ∧ w.cell? ⟨b, off + i * 3 + 2, none⟩ = some s ∧ Od w ks[i] (.agg #[.int .i64 (ks[i]).k, .int .i64 (ks[i]).n, s]) := by
  constructor
  · intro h
    obtain ⟨ao, cap, rfl, hl, hc⟩ := odf_pt _ _ (pt ⟨k, n, ks⟩ + 1) _ h (Nat.le_succ _)
    refine ⟨ao, cap, rfl, hl, fun i hi => ?_⟩
    obtain ⟨b, off, s, e1, e2, c0, c1, c2, ho⟩ := hc i hi
    exact ⟨b, off, s, e1, e2, c0, c1, c2, odf_pt _ _ _ _ ho (Nat.le_refl _)⟩
  · rintro ⟨ao, cap, rfl, hl, hc⟩
    have h : OdF w (pt ⟨k, n, ks⟩ + 1) ⟨k, n, ks⟩ (.agg #[.int .i64 k, .int .i64 n, .slice ao ks.length cap]) := by
      refine ⟨ao, cap, rfl, hl, fun i hi => ?_⟩
      obtain ⟨b, off, s, e1, e2, c0, c1, c2, ho⟩ := hc i hi
      exact ⟨b, off, s, e1, e2, c0, c1, c2, odf_pt _ _ _ _ ho (Nat.le_of_lt (pt_kid (List.getElem_mem hi)))⟩
    exact odf_pt _ _ _ _ h (Nat.le_refl _)
theorem Od.below {w w' : World} (hb : Below w.heap.size w w') (t : Tr) : ∀ v, Od w t v → Od w' t v := by
  refine Tr.ind (P := fun t => ∀ v, Od w t v → Od w' t v) (fun k n ks ih v h => ?_) t
  rw [od_eq] at h ⊢
  obtain ⟨ao, cap, rfl, hl, hc⟩ := h
  refine ⟨ao, cap, rfl, hl, fun i hi => ?_⟩
  obtain ⟨b, off, s, e1, e2, c0, c1, c2, ho⟩ := hc i hi
  exact ⟨b, off, s, e1, Nat.lt_of_lt_of_le e2 hb.size, (hb.cell (p := ⟨b, off + i * 3, none⟩) e2).trans c0, (hb.cell (p := ⟨b, off + i * 3 + 1, none⟩) e2).trans c1, (hb.cell (p := ⟨b, off + i * 3 + 2, none⟩) e2).trans c2, ih _ (List.getElem_mem hi) _ ho⟩
end Go.Proofs.YtoaccmblaifnmaaDoor
