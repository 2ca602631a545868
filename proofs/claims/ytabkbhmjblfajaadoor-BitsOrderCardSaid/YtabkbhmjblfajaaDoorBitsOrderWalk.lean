/-
  The walk of the statement BitsOrder: at all bits it returns true, and nothing that was in memory has turned.
-/
import Derived.Test.YtabkbhmjblfajaaDoorLiv
import Derived.Test.YtabkbhmjblfajaaDoorSgn
import Derived.Test.YtabkbhmjblfajaaDoorRows
import Derived.Stop.Joined
namespace Go.Proofs.YtabkbhmjblfajaaDoor.bitsOrder
open Flo Go.RowKit
theorem bt_nan {a : Nat} (h : nanB a = true) : bt a = 9221120237041090560 := by
  unfold nanB at h; unfold bt; rw [if_pos (of_decide_eq_true h)]
theorem bt_fin {a : Nat} (h : nanB a = false) : bt a = a := by
  unfold nanB at h; unfold bt; rw [if_neg (of_decide_eq_false h)]
theorem nan_le {a : Nat} (h : nanB a = false) : a % 9223372036854775808 ≤ 9218868437227405312 := by
  unfold nanB at h; have := of_decide_eq_false h; omega
theorem pl_inj {a b : Nat} (ha : a < 18446744073709551616) (hb : b < 18446744073709551616) (h : pl a = pl b) : bt a = bt b := by
  have h1 := bt_lt ha
  have h2 := bt_lt hb
  unfold pl at h; split at h <;> split at h <;> omega
theorem same_of {a b : Nat} (ha : a < 18446744073709551616) (hb : b < 18446744073709551616) : ((bt a : Int) == (bt b : Int)) = decide (pl a = pl b) := by
  by_cases h : pl a = pl b
  · rw [decide_eq_true h, pl_inj ha hb h]; exact beq_self_eq_true _
  · rw [decide_eq_false h]; refine beq_eq_false_iff_ne.2 fun e => h ?_
    have e' : bt a = bt b := by omega
    unfold pl; rw [e']
/-- A NaN stands above all others. -/
theorem pl_nan {a b : Nat} (h : nanB a = true) (hb : b < 18446744073709551616) (h' : nanB b = false) : pl b < pl a := by
  have := nan_le h'
  have e : pl a = 18444492273895866368 := by unfold pl; rw [bt_nan h]; decide
  rw [e]
  unfold pl; rw [bt_fin h']; split <;> omega
theorem pl_nan2 {a b : Nat} (h : nanB a = true) (h' : nanB b = true) : pl a = pl b := by
  unfold pl; rw [bt_nan h, bt_nan h']
/-- The line's order is that of the values, and -0 stands ahead of 0. -/
theorem pl_lt_sv {a b : Nat} (ha : a < 18446744073709551616) (hb : b < 18446744073709551616) (h : nanB a = false) (h' : nanB b = false) (hp : pl a < pl b) :
    sv a < sv b ∨ (sv a = 0 ∧ sv b = 0 ∧ ¬ a < 9223372036854775808) := by
  have h1 := nan_le h
  have h2 := nan_le h'
  unfold pl at hp; rw [bt_fin h, bt_fin h'] at hp
  unfold sv
  split at hp <;> split at hp <;> split <;> omega
theorem three (a b c : Nat) : (cp a b = 1) ∨ (cp b c = 1) ∨ ((cp b c = 0 ∨ cp b c = -1) ∧ cp a c = -1) ∨ (cp a b = 0 ∧ cp b c = 0 ∧ cp a c = 0) := by
  unfold cp
  split <;> split <;> split <;> (try split) <;> (try split) <;> (try split) <;> omega
theorem cp_anti (a b : Nat) : cp b a = - cp a b := by
  unfold cp
  split <;> split <;> (try split) <;> (try split) <;> omega
theorem cp_cases (a b : Nat) : (cp a b = -1 ∧ pl a < pl b) ∨ (cp a b = 0 ∧ pl a = pl b) ∨ (cp a b = 1 ∧ pl b < pl a) := by
  unfold cp
  split <;> (try split) <;> omega
/-- What is known of f, g and x, as the walk asks it. -/
structure Know (a b : Nat) (x : Int) (p na nb : Bool) : Prop where
  x1 : cp a b = x
  x2 : cp b a = -x
  s : ((bt a : Int) == (bt b : Int)) = p
  a1 : (FloatKind.f64.format.order a a != some Ordering.eq) = na
  a2 : (FloatKind.f64.format.order a a == some Ordering.eq) = !na
  b1 : (FloatKind.f64.format.order b b != some Ordering.eq) = nb
  b2 : (FloatKind.f64.format.order b b == some Ordering.eq) = !nb
theorem eq_self {a : Nat} (ha : a < 18446744073709551616) : (FloatKind.f64.format.order a a == some Ordering.eq) = !nanB a := by
  have := eq_iff a a ha ha
  refine this.trans ?_
  simp
theorem know {a b : Nat} (ha : a < 18446744073709551616) (hb : b < 18446744073709551616) {x : Int} {p na nb : Bool} (h : cp a b = x) (hp : decide (pl a = pl b) = p) (h1 : nanB a = na) (h2 : nanB b = nb) : Know a b x p na nb :=
  ⟨h, by rw [cp_anti, h], (same_of ha hb).trans hp, (ne_self a ha).trans h1, by rw [eq_self ha, h1], (ne_self b hb).trans h2, by rw [eq_self hb, h2]⟩
set_option maxHeartbeats 2000000 in
/-- x = 1: the second test isn't asked. -/
theorem walk_gt (a b c : Nat) (w : World) (na nb : Bool) (ha : a < 18446744073709551616) (hb : b < 18446744073709551616) (hc : c < 18446744073709551616) (k : Know a b 1 false na nb)
    (hh : (na = true ∧ nb = false) ∨ (na = false ∧ nb = false)) :
    Calls Tryd.prog 7 #[.int .u64 a, .int .u64 b, .int .u64 c] w fun e w' => e = .returned (.bool true) ∧ w = w' := by
  obtain ⟨x1, x2, s, a1, a2, b1, b2⟩ := k
  rcases hh with ⟨rfl, rfl⟩ | ⟨rfl, rfl⟩
  all_goals
    go_enter Tryd.func7, Tryd.ntmps7
    go_wp2_with (first
      | (go_at_call 9; refine (lives_c _).mono ?_; rintro e w' ⟨rfl, rfl⟩)
      | (go_at_call 10; refine (lof_c _ _).mono ?_; rintro e w' ⟨rfl, rfl⟩)
      | (go_at_call 32; refine (compare_c _ _ _ (by assumption) (by assumption)).mono ?_; rintro e w' ⟨rfl, rfl⟩)
      | (go_at_call 30; refine (same_c _ _ _ (by assumption) (by assumption)).mono ?_; rintro e w' ⟨rfl, rfl⟩))
    go_ret
    exact ⟨rfl, rfl⟩
set_option maxHeartbeats 4000000 in
theorem walk_eq (a b c : Nat) (w : World) (na : Bool) (ha : a < 18446744073709551616) (hb : b < 18446744073709551616) (hc : c < 18446744073709551616) (k : Know a b 0 true na na)
    (ht : cp b c = 1 ∨ (cp b c = -1 ∧ cp a c = -1) ∨ (cp b c = 0 ∧ cp a c = -1) ∨ (cp b c = 0 ∧ cp a c = 0)) :
    Calls Tryd.prog 7 #[.int .u64 a, .int .u64 b, .int .u64 c] w fun e w' => e = .returned (.bool true) ∧ w = w' := by
  obtain ⟨x1, x2, s, a1, a2, b1, b2⟩ := k
  cases na
  all_goals rcases ht with t1 | ⟨t1, t2⟩ | ⟨t1, t2⟩ | ⟨t1, t2⟩
  all_goals
    go_enter Tryd.func7, Tryd.ntmps7
    go_wp2_with (first
      | (go_at_call 9; refine (lives_c _).mono ?_; rintro e w' ⟨rfl, rfl⟩)
      | (go_at_call 10; refine (lof_c _ _).mono ?_; rintro e w' ⟨rfl, rfl⟩)
      | (go_at_call 32; refine (compare_c _ _ _ (by assumption) (by assumption)).mono ?_; rintro e w' ⟨rfl, rfl⟩)
      | (go_at_call 30; refine (same_c _ _ _ (by assumption) (by assumption)).mono ?_; rintro e w' ⟨rfl, rfl⟩))
    go_ret
    exact ⟨rfl, rfl⟩
set_option maxHeartbeats 4000000 in
theorem walk_lt (a b c : Nat) (w : World) (nb : Bool) (ha : a < 18446744073709551616) (hb : b < 18446744073709551616) (hc : c < 18446744073709551616) (k : Know a b (-1) false false nb)
    (ht : cp b c = 1 ∨ (cp b c = -1 ∧ cp a c = -1) ∨ (cp b c = 0 ∧ cp a c = -1))
    (hf : nb = true ∨ (nb = false ∧ (FloatKind.f64.format.order a b == some Ordering.lt) = true) ∨
      (nb = false ∧ (FloatKind.f64.format.order a b == some Ordering.lt) = false ∧ (FloatKind.f64.format.order a 0 == some Ordering.eq) = true ∧ (FloatKind.f64.format.order b 0 == some Ordering.eq) = true ∧ (!decide (a < 9223372036854775808)) = true)) :
    Calls Tryd.prog 7 #[.int .u64 a, .int .u64 b, .int .u64 c] w fun e w' => e = .returned (.bool true) ∧ w = w' := by
  obtain ⟨x1, x2, s, a1, a2, b1, b2⟩ := k
  rcases hf with rfl | ⟨rfl, f1⟩ | ⟨rfl, f1, f2, f3, f4⟩
  all_goals rcases ht with t1 | ⟨t1, t2⟩ | ⟨t1, t2⟩
  all_goals
    go_enter Tryd.func7, Tryd.ntmps7
    go_wp2_with (first
      | (go_at_call 9; refine (lives_c _).mono ?_; rintro e w' ⟨rfl, rfl⟩)
      | (go_at_call 10; refine (lof_c _ _).mono ?_; rintro e w' ⟨rfl, rfl⟩)
      | (go_at_call 32; refine (compare_c _ _ _ (by assumption) (by assumption)).mono ?_; rintro e w' ⟨rfl, rfl⟩)
      | (go_at_call 30; refine (same_c _ _ _ (by assumption) (by assumption)).mono ?_; rintro e w' ⟨rfl, rfl⟩)
      | (go_at_call 38; refine (signbit_c _ _ (by assumption)).mono ?_; rintro e w' ⟨rfl, rfl⟩))
    go_ret
    exact ⟨rfl, rfl⟩
theorem all (a b c : Nat) (w : World) (ha : a < 18446744073709551616) (hb : b < 18446744073709551616) (hc : c < 18446744073709551616) :
    Calls Tryd.prog 7 #[.int .u64 a, .int .u64 b, .int .u64 c] w fun e w' => e = .returned (.bool true) ∧ w = w' := by
  have h3 := three a b c
  rcases cp_cases a b with ⟨hx, hp⟩ | ⟨hx, hp⟩ | ⟨hx, hp⟩
  · have na : nanB a = false := by
      cases hn : nanB a
      · rfl
      · cases hm : nanB b
        · have := pl_nan hn hb hm; omega
        · have := pl_nan2 hn hm; omega
    refine walk_lt a b c w (nanB b) ha hb hc (know ha hb hx (decide_eq_false (by omega)) na rfl) ?_ ?_
    · omega
    · cases hm : nanB b
      · right
        rcases pl_lt_sv ha hb na hm hp with h | ⟨h1, h2, h4⟩
        · left
          refine ⟨rfl, (lt_iff a b ha hb).trans ?_⟩
          rw [na, hm, decide_eq_true h]; rfl
        · right
          have z : nanB 0 = false := by decide
          have z2 : sv 0 = 0 := by decide
          refine ⟨rfl, (lt_iff a b ha hb).trans ?_, (eq_iff a 0 ha (by decide)).trans ?_, (eq_iff b 0 hb (by decide)).trans ?_, ?_⟩
          · rw [na, hm, decide_eq_false (by omega)]; rfl
          · rw [na, z, z2, decide_eq_true h1]; rfl
          · rw [hm, z, z2, decide_eq_true h2]; rfl
          · rw [decide_eq_false h4]; rfl
      · left; rfl
  · have nab : nanB b = nanB a := by
      cases hn : nanB a
      · cases hm : nanB b
        · rfl
        · have := pl_nan hm ha hn; omega
      · cases hm : nanB b
        · have := pl_nan hn hb hm; omega
        · rfl
    refine walk_eq a b c w (nanB a) ha hb hc (know ha hb hx (decide_eq_true hp) rfl nab) ?_
    omega
  · have nb : nanB b = false := by
      cases hm : nanB b
      · rfl
      · cases hn : nanB a
        · have := pl_nan hm ha hn; omega
        · have := pl_nan2 hn hm; omega
    refine walk_gt a b c w (nanB a) (nanB b) ha hb hc (know ha hb hx (decide_eq_false (by omega)) rfl rfl) ?_
    rw [nb]
    cases nanB a
    · right; exact ⟨rfl, rfl⟩
    · left; exact ⟨rfl, rfl⟩
theorem walk (x0 x1 x2 : Int) (w : World) (l0 : 0 ≤ x0) (u0 : x0 ≤ 18446744073709551615) (l1 : 0 ≤ x1) (u1 : x1 ≤ 18446744073709551615) (l2 : 0 ≤ x2) (u2 : x2 ≤ 18446744073709551615) (_hL : laidMetH Tryd.prog Rows.bitsOrderRow.laid w) :
    Calls Tryd.prog 7 #[.int .u64 x0, .int .u64 x1, .int .u64 x2] w fun e w' => e = .returned (.bool true) ∧ Grown w w' := by
  obtain ⟨a, rfl⟩ := Int.eq_ofNat_of_zero_le l0
  obtain ⟨b, rfl⟩ := Int.eq_ofNat_of_zero_le l1
  obtain ⟨c, rfl⟩ := Int.eq_ofNat_of_zero_le l2
  refine (all a b c w (by omega) (by omega) (by omega)).mono ?_
  rintro e w' ⟨rfl, rfl⟩
  exact ⟨rfl, Grown.refl _⟩
end Go.Proofs.YtabkbhmjblfajaaDoor.bitsOrder
