/-
  Plain mathematics of scaling by powers of two: to 1 and back, and by k and by minus k where nothing is lost.
-/
import Derived.Test.YtabkbhmjblfajabDoorSca
namespace Go.Proofs.YtabkbhmjblfajabDoor
open Flo Go.RowKit
theorem finT {n : Nat} (h : nanB n = false) : bt n = n ∧ n % 9223372036854775808 ≤ 9218868437227405312 := by
  unfold nanB at h
  have := of_decide_eq_false h
  unfold bt; rw [if_neg this]; omega
/-- The size of a normal float by its exponent and digits. -/
def bld (q m : Nat) : Nat := q * 4503599627370496 + m % 4503599627370496
theorem bld_bounds {q : Nat} (m : Nat) (h1 : 1 ≤ q) (h2 : q ≤ 2046) : 4503599627370496 ≤ bld q m ∧ bld q m < 9218868437227405312 := by unfold bld; omega
theorem bld_dm {q m : Nat} (h1 : 1 ≤ q) (hm : 4503599627370496 ≤ m) (hm2 : m < 9007199254740992) : dm (bld q m) = m := by
  unfold dm bld; rw [if_neg (by omega)]; omega
theorem bld_dp {q : Nat} (m : Nat) (h1 : 1 ≤ q) : dp (bld q m) = (q : Int) - 1075 := by
  unfold dp bld; rw [if_neg (by omega)]; omega
theorem cm_bld {m : Nat} {p : Int} (h1 : -1074 ≤ p) (h2 : p ≤ 971) : cm m p = bld (p + 1075).toNat m := by
  unfold cm bld; rw [if_neg (by omega), if_neg (by omega)]
theorem cm_back {v : Nat} (h0 : 0 < v) (h1 : v < 9218868437227405312) : cm (dm v) (dp v) = v := by
  by_cases h : v < 4503599627370496
  · have hl := bitLen_lt (k := 52) h
    have e1 : dp v = -1074 - (53 - (bitLen v : Int)) := by unfold dp; rw [if_pos h]
    have e2 : dm v = v * 2 ^ (53 - bitLen v) := by unfold dm; rw [if_pos h]
    have es : (-1074 - dp v).toNat = 53 - bitLen v := by rw [e1]; omega
    have hp : 0 < 2 ^ (53 - bitLen v) := Nat.two_pow_pos _
    unfold cm
    rw [if_neg (by omega), if_pos (by omega), es]
    unfold hv
    rw [e2, if_neg (by omega), Nat.mul_mod_left, Nat.mul_div_cancel _ hp, if_neg]
    have hq : 0 < 2 ^ (53 - bitLen v - 1) := Nat.two_pow_pos _
    omega
  · have e1 : dp v = ((v / 4503599627370496 : Nat) : Int) - 1075 := by unfold dp; rw [if_neg h]
    have e2 : dm v = v % 4503599627370496 + 4503599627370496 := by unfold dm; rw [if_neg h]
    rw [cm_bld (by omega) (by omega), e1, e2]
    unfold bld; omega
/-- A float of a sign and a size. -/
theorem szs {g u : Nat} (s : Nat) (hs : s = 0 ∨ s = 9223372036854775808) (hg : g = s + u) (hu : u < 9218868437227405312) : nanB g = false ∧ bt g = g ∧ sz (bt g) = u ∧ g < 18446744073709551616 ∧ (g < 9223372036854775808 ↔ s = 0) := by
  have hn : nanB g = false := by unfold nanB; exact decide_eq_false (by omega)
  have e := (finT hn).1
  refine ⟨hn, e, ?_, by omega, by omega⟩
  rw [e]; unfold sz; omega
theorem sc_val {g u : Nat} (k : Int) (s : Nat) (hs : s = 0 ∨ s = 9223372036854775808) (hg : g = s + u) (h0 : 0 < u) (hu : u < 9218868437227405312) (k1 : -2200 ≤ k) (k2 : k ≤ 2200) :
    sc g k = s + cm (dm u) (dp u + k) := by
  obtain ⟨n1, n2, n3, n4, n5⟩ := szs s hs hg hu
  have ek : ck k = k := by unfold ck; rw [if_neg (by omega), if_neg (by omega)]
  unfold sc
  rw [n3, if_neg (by omega), ek]
  congr 1
  rw [n2]
  split <;> omega
/-- What the statement asks of a finite float other than 0. -/
structure Sc (a : Nat) : Prop where
  e1 : -1074 ≤ xp a
  e2 : xp a ≤ 1023
  gn : sc a (-xp a) < 18446744073709551616
  one : (FloatKind.f64.format.order (sz (sc a (-xp a))) 4607182418800017408 == some Ordering.gt || FloatKind.f64.format.order (sz (sc a (-xp a))) 4607182418800017408 == some Ordering.eq) = true
  two : (FloatKind.f64.format.order (sz (sc a (-xp a))) 4611686018427387904 == some Ordering.lt) = true
  sgn : decide (sc a (-xp a) < 9223372036854775808) = decide (a < 9223372036854775808)
  back : sc (sc a (-xp a)) (xp a) = a
theorem split_a {a : Nat} (ha : a < 18446744073709551616) (h1 : sz (bt a) < 9218868437227405312) :
    ∃ s, (s = 0 ∨ s = 9223372036854775808) ∧ a = s + sz (bt a) ∧ bt a = a := by
  have e : bt a = a := by
    unfold bt sz at *
    split at h1
    · simp at h1
    · split
      · omega
      · rfl
  refine ⟨if a < 9223372036854775808 then 0 else 9223372036854775808, ?_, ?_, e⟩
  · split <;> omega
  · rw [e]; unfold sz; split <;> omega
theorem scs {a : Nat} (ha : a < 18446744073709551616) (h0 : 0 < sz (bt a)) (h1 : sz (bt a) < 9218868437227405312) : Sc a := by
  obtain ⟨s, hs, ea, eb⟩ := split_a ha h1
  obtain ⟨b1, b2⟩ := dp_bounds _ h0 h1
  obtain ⟨m1, m2⟩ := dm_bounds _ h0
  have ex : xp a = dp (sz (bt a)) + 52 := rfl
  have eg : sc a (-xp a) = s + bld 1023 (dm (sz (bt a))) := by
    rw [sc_val (-xp a) s hs ea h0 h1 (by omega) (by omega), cm_bld (by omega) (by omega)]
    congr 2; omega
  have q := bld_bounds (q := 1023) (dm (sz (bt a))) (by decide) (by decide)
  obtain ⟨n1, n2, n3, n4, n5⟩ := szs s hs eg q.2
  have q3 : sz (sc a (-xp a)) = bld 1023 (dm (sz (bt a))) := by rw [← n2]; rw [n2] at *; rw [n3]
  have q4 : 4607182418800017408 ≤ bld 1023 (dm (sz (bt a))) ∧ bld 1023 (dm (sz (bt a))) < 4611686018427387904 := by unfold bld; omega
  have nq : nanB (bld 1023 (dm (sz (bt a)))) = false := by unfold nanB; exact decide_eq_false (by omega)
  have sq : sv (bld 1023 (dm (sz (bt a)))) = (bld 1023 (dm (sz (bt a))) : Int) := by unfold sv; rw [if_pos (by omega)]
  have z1 : nanB 4607182418800017408 = false := by decide
  have z2 : sv 4607182418800017408 = 4607182418800017408 := by decide
  have z3 : nanB 4611686018427387904 = false := by decide
  have z4 : sv 4611686018427387904 = 4611686018427387904 := by decide
  refine ⟨by omega, by omega, n4, ?_, ?_, ?_, ?_⟩
  · have g1 := gt_iff (bld 1023 (dm (sz (bt a)))) 4607182418800017408 (by omega) (by decide)
    have g2 := eq_iff (bld 1023 (dm (sz (bt a)))) 4607182418800017408 (by omega) (by decide)
    rw [q3]
    show ((Ieee.double.order _ _ == some Ordering.gt) || (Ieee.double.order _ _ == some Ordering.eq)) = true
    rw [g1, g2, nq, z1, sq, z2]
    simp only [Bool.not_false, Bool.true_and, Bool.or_eq_true, decide_eq_true_eq]
    omega
  · rw [q3]
    refine (lt_iff _ _ (by omega) (by decide)).trans ?_
    rw [nq, z3, sq, z4]
    simp only [Bool.not_false, Bool.true_and, decide_eq_true_eq]
    omega
  · refine decide_eq_decide.2 ?_
    rw [n5]; omega
  · rw [sc_val (xp a) s hs eg (by omega) q.2 (by omega) (by omega), bld_dm (by decide) m1 m2, bld_dp _ (by decide)]
    rw [show ((1023 : Nat) : Int) - 1075 + xp a = dp (sz (bt a)) by rw [ex]; omega, cm_back h0 h1]
    exact ea.symm
/-- By k and by minus k. -/
structure Sk (a : Nat) (k : Int) : Prop where
  hn : sc a k < 18446744073709551616
  z0 : 0 < sz (bt (sc a k))
  z1 : sz (bt (sc a k)) < 9218868437227405312
  x : xp (sc a k) = xp a + k
  back : sc (sc a k) (-k) = a
theorem sks {a : Nat} {k : Int} (ha : a < 18446744073709551616) (h0 : 0 < sz (bt a)) (h1 : sz (bt a) < 9218868437227405312) (c1 : -1022 ≤ xp a + k) (c2 : xp a + k ≤ 1023) (c3 : -1022 ≤ xp a) : Sk a k := by
  obtain ⟨s, hs, ea, eb⟩ := split_a ha h1
  obtain ⟨b1, b2⟩ := dp_bounds _ h0 h1
  obtain ⟨m1, m2⟩ := dm_bounds _ h0
  have ex : xp a = dp (sz (bt a)) + 52 := rfl
  have eg : sc a k = s + bld (xp a + k + 1023).toNat (dm (sz (bt a))) := by
    rw [sc_val k s hs ea h0 h1 (by omega) (by omega), cm_bld (by omega) (by omega)]
    congr 2; omega
  have q := bld_bounds (q := (xp a + k + 1023).toNat) (dm (sz (bt a))) (by omega) (by omega)
  obtain ⟨n1, n2, n3, n4, n5⟩ := szs s hs eg q.2
  refine ⟨n4, by rw [n3]; omega, by rw [n3]; exact q.2, ?_, ?_⟩
  · unfold xp at *
    rw [n3, bld_dp _ (by omega)]; omega
  · rw [sc_val (-k) s hs eg (by omega) q.2 (by omega) (by omega), bld_dm (by omega) m1 m2, bld_dp _ (by omega)]
    rw [show (((xp a + k + 1023).toNat : Nat) : Int) - 1075 + -k = dp (sz (bt a)) by omega, cm_back h0 h1]
    exact ea.symm
end Go.Proofs.YtabkbhmjblfajabDoor
