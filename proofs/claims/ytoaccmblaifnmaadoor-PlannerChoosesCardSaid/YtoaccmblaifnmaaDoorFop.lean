/-
  Operations between floats in the walk, NaN or not: the result and the world behind it, as plain functions of the operands and the world; the result up to which NaN it is ('bt') hangs on the operands up to that alone.
-/
import Derived.Test.YtoaccmblaifnmaaDoorWrd
import Derived.Test.YtoaccmblaifnmaaDoorAri
import Derived.Laws.FloatArith
import Derived.WalkLawsBesides
namespace Go.Proofs.YtoaccmblaifnmaaDoor
open Flo Go.RowKit Ieee

def nanAt (w : World) (x y : Nat) : Nat := Question.cut (.nanBits .f64 x y) (w.tape w.drawn (.nanBits .f64 x y))
theorem nanAt_lt (w : World) (x y : Nat) : nanAt w x y < 18446744073709551616 := by
  unfold nanAt Question.cut; simp only; omega
theorem nanAt_nan (w : World) (x y : Nat) : nanB (nanAt w x y) = true := by
  unfold nanAt nanB Question.cut
  simp only [decide_eq_true_eq]
  generalize w.tape w.drawn (Question.nanBits FloatKind.f64 x y) = t
  have h1 : t % 2 = 0 ∨ t % 2 = 1 := by omega
  have h2 : t / 2 % (2 ^ 52 - 1) < 4503599627370495 := by omega
  generalize t / 2 % (2 ^ 52 - 1) = q at *
  rcases h1 with h | h <;> rw [h] <;> omega

/-- what an operation gives in a world -/
def fr (op : BinOp) (x y : Nat) (w : World) : Nat := match floatBits op .f64 x y with | some r => r | none => nanAt w x y
/-- how many draws it takes -/
def fk (op : BinOp) (x y : Nat) : Nat := match floatBits op .f64 x y with | some _ => 0 | none => 1
/-- what it gives, all NaN being one -/
def co (op : BinOp) (x y : Nat) : Nat := match floatBits op .f64 x y with | some r => r | none => 9221120237041090560

def arith (op : BinOp) : Bool := match op with | .add | .sub | .mul | .quo => true | _ => false

theorem run_fop {P : Program} {op : BinOp} (h : arith op = true) (t : TypeId) (x y : Nat) (w : World) :
    (binOp op t (.float .f64 x) (.float .f64 y)).run P w = .ok (.float .f64 (fr op x y w)) (w.drewN (fk op x y)) := by
  unfold fr fk
  cases hr : floatBits op .f64 x y with
  | some r => rw [run_float_arith w op t .f64 x y r hr]; rfl
  | none =>
    unfold floatBits at hr
    cases op <;> simp only [arith, Bool.false_eq_true] at h hr
    all_goals
      simp [binOp, Op.floatArith, hr, Question.forced]
      exact ⟨rfl, rfl⟩

theorem run_fadd {P : Program} (t : TypeId) (x y : Nat) (w : World) : (binOp .add t (.float .f64 x) (.float .f64 y)).run P w = .ok (.float .f64 (fr .add x y w)) (w.drewN (fk .add x y)) := run_fop rfl t x y w
theorem run_fsub {P : Program} (t : TypeId) (x y : Nat) (w : World) : (binOp .sub t (.float .f64 x) (.float .f64 y)).run P w = .ok (.float .f64 (fr .sub x y w)) (w.drewN (fk .sub x y)) := run_fop rfl t x y w
theorem run_fmul {P : Program} (t : TypeId) (x y : Nat) (w : World) : (binOp .mul t (.float .f64 x) (.float .f64 y)).run P w = .ok (.float .f64 (fr .mul x y w)) (w.drewN (fk .mul x y)) := run_fop rfl t x y w
theorem run_fquo {P : Program} (t : TypeId) (x y : Nat) (w : World) : (binOp .quo t (.float .f64 x) (.float .f64 y)).run P w = .ok (.float .f64 (fr .quo x y w)) (w.drewN (fk .quo x y)) := run_fop rfl t x y w

/-- a datum that is no NaN is written as a word that is none -/
theorem write_fit {d : Datum} (h : d.isNaN = false) : double.write d % 9223372036854775808 ≤ 9218868437227405312 ∧ double.write d < 18446744073709551616 := by
  cases d with
  | number s m i =>
    refine ⟨?_, Ari.near_lt s m i⟩
    change double.nearest s m i % _ ≤ _
    rw [Ari.nearest_eq, Ari.word_eq]
    generalize Ari.rg m i = r
    cases s
    · simp only [Bool.false_eq_true, if_false]; omega
    · simp only [if_true]; omega
  | infinity s => cases s <;> decide
  | nan s f => cases h

theorem sum_notNaN {a b c : Datum} (h : a.sum b = some c) : c.isNaN = false := by
  cases a <;> cases b <;> simp only [Datum.sum] at h <;> (try cases h) <;> (try rfl)
  split at h <;> cases h
  rfl
theorem product_notNaN {a b c : Datum} (h : a.product b = some c) : c.isNaN = false := by
  cases a <;> cases b <;> simp only [Datum.product] at h <;> (try split at h) <;> (try cases h) <;> rfl
theorem quotient_notNaN {n : Nat} {a b c : Datum} (h : a.quotient n b = some c) : c.isNaN = false := by
  cases a <;> cases b <;> simp only [Datum.quotient] at h <;> (try split at h) <;> (try split at h) <;> (try cases h) <;> rfl

theorem floatBits_fit {op : BinOp} {x y r : Nat} (h : floatBits op .f64 x y = some r) : nanB r = false ∧ r < 18446744073709551616 := by
  have key : ∀ {d : Option Datum}, (∀ c, d = some c → c.isNaN = false) → d.map double.write = some r → nanB r = false ∧ r < 18446744073709551616 := by
    intro d hd hr
    cases d with
    | none => cases hr
    | some c =>
      cases hr
      have := write_fit (hd c rfl)
      refine ⟨?_, this.2⟩
      unfold nanB; simp only [decide_eq_false_iff_not]; omega
  unfold floatBits at h
  cases op <;> simp only at h <;> (try cases h)
  · exact key (fun c hc => sum_notNaN hc) h
  · exact key (fun c hc => sum_notNaN hc) h
  · exact key (fun c hc => product_notNaN hc) h
  · exact key (fun c hc => quotient_notNaN hc) h

theorem bt_fin {n : Nat} (h : nanB n = false) : bt n = n := by
  unfold nanB at h; unfold bt; simp only [decide_eq_false_iff_not] at h; rw [if_neg h]
theorem bt_nan {n : Nat} (h : nanB n = true) : bt n = 9221120237041090560 := by
  unfold nanB at h; unfold bt; simp only [decide_eq_true_eq] at h; rw [if_pos h]
theorem bt_bt (n : Nat) : bt (bt n) = bt n := by
  cases h : nanB n
  · rw [bt_fin h, bt_fin h]
  · rw [bt_nan h]; decide
theorem nan_bt (n : Nat) : nanB (bt n) = nanB n := by
  cases h : nanB n
  · rw [bt_fin h, h]
  · rw [bt_nan h]; decide

theorem fr_lt (op : BinOp) (x y : Nat) (w : World) : fr op x y w < 18446744073709551616 := by
  unfold fr
  cases h : floatBits op .f64 x y with
  | some r => exact (floatBits_fit h).2
  | none => exact nanAt_lt w x y
theorem bt_fr (op : BinOp) (x y : Nat) (w : World) : bt (fr op x y w) = co op x y := by
  unfold fr co
  cases h : floatBits op .f64 x y with
  | some r => exact bt_fin (floatBits_fit h).1
  | none => exact bt_nan (nanAt_nan w x y)
theorem co_lt (op : BinOp) (x y : Nat) : co op x y < 18446744073709551616 := by
  unfold co
  cases h : floatBits op .f64 x y with
  | some r => exact (floatBits_fit h).2
  | none => decide
theorem bt_co (op : BinOp) (x y : Nat) : bt (co op x y) = co op x y := by
  unfold co
  cases h : floatBits op .f64 x y with
  | some r => exact bt_fin (floatBits_fit h).1
  | none => decide

theorem nan_left (op : BinOp) {x : Nat} (y : Nat) (h : nanB x = true) : floatBits op .f64 x y = none := by
  unfold nanB at h; simp only [decide_eq_true_eq] at h
  obtain ⟨s, t, e⟩ := read_nan x h
  unfold floatBits
  cases op <;> simp only
  · change double.add x y = none; unfold Format.add; rw [e]; cases double.read y <;> rfl
  · change double.sub x y = none; unfold Format.sub; rw [e]; cases double.read y <;> rfl
  · change double.mul x y = none; unfold Format.mul; rw [e]; cases double.read y <;> rfl
  · change double.div x y = none; unfold Format.div; rw [e]; cases double.read y <;> rfl
theorem nan_right (op : BinOp) (x : Nat) {y : Nat} (h : nanB y = true) : floatBits op .f64 x y = none := by
  unfold nanB at h; simp only [decide_eq_true_eq] at h
  obtain ⟨s, t, e⟩ := read_nan y h
  unfold floatBits
  cases op <;> simp only
  · change double.add x y = none; unfold Format.add; rw [e]; cases double.read x <;> rfl
  · change double.sub x y = none; unfold Format.sub; rw [e]; cases double.read x <;> rfl
  · change double.mul x y = none; unfold Format.mul; rw [e]; cases double.read x <;> rfl
  · change double.div x y = none; unfold Format.div; rw [e]; cases double.read x <;> rfl

theorem co_bt (op : BinOp) (x y : Nat) : co op (bt x) (bt y) = co op x y := by
  unfold co
  cases hx : nanB x
  · rw [bt_fin hx]
    cases hy : nanB y
    · rw [bt_fin hy]
    · rw [nan_right op x hy, nan_right op x (y := bt y) (by rw [nan_bt, hy])]
  · rw [nan_left op y hx, nan_left op (x := bt x) (bt y) (by rw [nan_bt, hx])]
/-- the operands may be any of their kind -/
theorem co_of {op : BinOp} {x y u v : Nat} (h1 : bt x = bt u) (h2 : bt y = bt v) : co op x y = co op u v := by
  rw [← co_bt op x y, h1, h2, co_bt]
theorem co_of_left {op : BinOp} {x y u : Nat} (h1 : bt x = bt u) : co op x y = co op u y := co_of h1 rfl

theorem co_fr_left (op o : BinOp) (x y z : Nat) (w : World) : co op (fr o x y w) z = co op (co o x y) z := co_of (by rw [bt_fr, bt_co]) rfl
theorem co_fr_right (op o : BinOp) (x y z : Nat) (w : World) : co op z (fr o x y w) = co op z (co o x y) := co_of rfl (by rw [bt_fr, bt_co])

/-- a complex number comes back whose parts are these, all NaN being one; the world has drawn, if anything -/
def RC (w : World) (re im : Nat) (e : Ending) (w' : World) : Prop :=
  ∃ x y k, e = .returned (.complex .f64 x y) ∧ w' = w.drewN k ∧ x < 18446744073709551616 ∧ y < 18446744073709551616 ∧ bt x = re ∧ bt y = im
/-- likewise a float -/
def RF (w : World) (r : Nat) (e : Ending) (w' : World) : Prop :=
  ∃ x k, e = .returned (.float .f64 x) ∧ w' = w.drewN k ∧ x < 18446744073709551616 ∧ bt x = r

theorem negFloat_eq {n : Nat} (h : n < 18446744073709551616) : Op.negFloat .f64 n = Ari.ng n := by
  unfold Op.negFloat Ari.ng
  change n ^^^ 2 ^ 63 = _
  apply Nat.eq_of_testBit_eq
  intro i
  rw [Nat.testBit_xor, Nat.testBit_two_pow]
  split
  · rename_i c
    have e : n + 9223372036854775808 = 2 ^ 63 * 1 + n := by omega
    rw [e, Nat.testBit_two_pow_mul_add _ (by omega : n < 2 ^ 63)]
    by_cases hi : i < 63
    · have : ¬ 63 = i := by omega
      simp [hi, this]
    · rw [if_neg hi]
      have : n.testBit i = false := Nat.testBit_lt_two_pow (Nat.lt_of_lt_of_le c (Nat.pow_le_pow_right (by omega) (by omega) : 2 ^ 63 ≤ 2 ^ i))
      rw [this]
      by_cases h63 : 63 = i
      · subst h63; decide
      · have h1 : Nat.testBit 1 (i - 63) = false := Nat.testBit_lt_two_pow (Nat.one_lt_two_pow (by omega))
        simp [h63, h1]
  · rename_i c
    have e : n = 2 ^ 63 * 1 + (n - 9223372036854775808) := by omega
    have hm : n - 9223372036854775808 < 2 ^ 63 := by omega
    generalize n - 9223372036854775808 = m at *
    rw [e, Nat.testBit_two_pow_mul_add _ hm]
    by_cases hi : i < 63
    · have : ¬ 63 = i := by omega
      simp [hi, this]
    · rw [if_neg hi]
      have : m.testBit i = false := Nat.testBit_lt_two_pow (Nat.lt_of_lt_of_le hm (Nat.pow_le_pow_right (by omega) (by omega) : 2 ^ 63 ≤ 2 ^ i))
      rw [this]
      by_cases h63 : 63 = i
      · subst h63; decide
      · have h1 : Nat.testBit 1 (i - 63) = false := Nat.testBit_lt_two_pow (Nat.one_lt_two_pow (by omega))
        simp [h63, h1]

theorem run_fneg {P : Program} (x : Nat) (w : World) (h : x < 18446744073709551616) : (Op.unary .neg (.float .f64 x)).run P w = .ok (.float .f64 (Ari.ng x)) w := by
  have e : (Op.unary .neg (.float .f64 x)).run P w = .ok (.float .f64 (Op.negFloat .f64 x)) w := by simp [Op.unary]
  rw [e, negFloat_eq h]
theorem bt_ng {n : Nat} (h : n < 18446744073709551616) : bt (Ari.ng n) = if nanB n then 9221120237041090560 else Ari.ng n := by
  cases hn : nanB n
  · rw [bt_fin (by rw [Ari.nan_ng h, hn]), if_neg Bool.false_ne_true]
  · rw [bt_nan (by rw [Ari.nan_ng h, hn]), if_pos rfl]
end Go.Proofs.YtoaccmblaifnmaaDoor
