/-
  Contracts of the document's answers of layer 1 (timbreref01): Bits, Same, Place, Compare, Apart, at, Up, Down, Class: each is the plain function that package bits' own call was shown to be.
-/
import Derived.Test.YtabkbhmjblfajaaDoorApa
import Derived.Test.YtabkbhmjblfajaaDoorSca
namespace Go.Proofs.YtabkbhmjblfajaaDoor
open Flo Go.RowKit
set_option maxHeartbeats 400000 in
theorem rbits_c (n : Nat) (w : World) (h : n < 18446744073709551616) :
    Calls Tryd.prog 15 #[.float .f64 n] w fun e w' => e = .returned (.int .u64 (bt n : Nat)) ∧ w = w' := by
  have h2 := run_tobits
  by_cases hc : 9218868437227405312 < n % 9223372036854775808
  · have e1 : (9218868437227405312 : Int) < (n : Int) % 9223372036854775808 := by omega
    have hr : Hid (bt n = 9221120237041090560) := by unfold bt; rw [if_pos hc]; trivial
    clear hc
    go_enter Tryd.func15, Tryd.ntmps15
    go_wp2
    go_ret
    exact ⟨ret_int (by rw [hr.out]; rfl), rfl⟩
  · have e1 : decide ((9218868437227405312 : Int) < (n : Int) % 9223372036854775808) = false := decide_eq_false (by omega)
    have hr : Hid (bt n = n) := by unfold bt; rw [if_neg hc]; trivial
    clear hc
    go_enter Tryd.func15, Tryd.ntmps15
    go_wp2
    go_ret
    exact ⟨ret_int (by rw [hr.out]), rfl⟩
set_option maxHeartbeats 400000 in
theorem rsame_c (a b : Nat) (w : World) (ha : a < 18446744073709551616) (hb : b < 18446744073709551616) :
    Calls Tryd.prog 31 #[.float .f64 a, .float .f64 b] w fun e w' => e = .returned (.bool ((bt a : Int) == (bt b : Int))) ∧ w = w' := by
  go_enter Tryd.func31, Tryd.ntmps31
  go_wp2_with (go_at_call 15; refine (rbits_c _ _ (by assumption)).mono ?_; rintro e w' ⟨rfl, rfl⟩)
  all_goals go_ret
  exact ⟨rfl, rfl⟩
/-- The document's place of a float. -/
def rp (n : Nat) : Int := if bt n = 9221120237041090560 then 9223372036854775807 else if 9223372036854775808 ≤ bt n then -1 - ((bt n : Int) - 9223372036854775808) else (bt n : Int)
theorem rp_bounds {n : Nat} (h : n < 18446744073709551616) : -9223372036854775808 ≤ rp n ∧ rp n ≤ 9223372036854775807 := by
  have := bt_lt h
  unfold rp; split <;> (try split) <;> omega
set_option maxHeartbeats 400000 in
theorem rplace_c (n : Nat) (w : World) (h : n < 18446744073709551616) :
    Calls Tryd.prog 51 #[.float .f64 n] w fun e w' => e = .returned (.int .i64 (rp n)) ∧ w = w' := by
  have hb := bt_lt h
  by_cases c1 : bt n = 9221120237041090560
  · have e1 : ((bt n : Int) == 9221120237041090560) = true := by rw [c1]; rfl
    have hr : Hid (9223372036854775807 = rp n) := by unfold rp; rw [if_pos c1]; trivial
    clear c1
    go_enter Tryd.func51, Tryd.ntmps51
    go_wp2_with (go_at_call 15; refine (rbits_c _ _ (by assumption)).mono ?_; rintro e w' ⟨rfl, rfl⟩)
    go_ret
    exact ⟨ret_int hr.out, rfl⟩
  · have e1 : ((bt n : Int) == 9221120237041090560) = false := beq_eq_false_iff_ne.2 (by omega)
    by_cases c2 : 9223372036854775808 ≤ bt n
    · have e2 : (9223372036854775808 : Int) ≤ (bt n : Int) := by omega
      have hr : Hid (-1 - ((bt n : Int) - 9223372036854775808) = rp n) := by unfold rp; rw [if_neg c1, if_pos c2]; trivial
      clear c1
      go_enter Tryd.func51, Tryd.ntmps51
      go_wp2_with (go_at_call 15; refine (rbits_c _ _ (by assumption)).mono ?_; rintro e w' ⟨rfl, rfl⟩)
      go_ret
      exact ⟨ret_int hr.out, rfl⟩
    · have e2 : decide ((9223372036854775808 : Int) ≤ (bt n : Int)) = false := decide_eq_false (by omega)
      have e3 : (bt n : Int) < 9223372036854775808 := by omega
      have hr : Hid ((bt n : Int) = rp n) := by unfold Hid rp; rw [if_neg c1, if_neg c2]
      clear c1 c2
      go_enter Tryd.func51, Tryd.ntmps51
      go_wp2_with (go_at_call 15; refine (rbits_c _ _ (by assumption)).mono ?_; rintro e w' ⟨rfl, rfl⟩)
      go_ret
      exact ⟨ret_int hr.out, rfl⟩
theorem nan_iff {n : Nat} : nanB n = true ↔ bt n = 9221120237041090560 := by
  unfold nanB bt
  by_cases h : 9218868437227405312 < n % 9223372036854775808
  · simp [h]
  · rw [if_neg h, decide_eq_false h]
    constructor
    · intro h'; cases h'
    · intro h'; omega
theorem fin_of {n : Nat} (h : nanB n = false) : bt n = n ∧ n % 9223372036854775808 ≤ 9218868437227405312 := by
  unfold nanB at h
  have := of_decide_eq_false h
  unfold bt; rw [if_neg this]; omega
theorem rp_nan {n : Nat} (h : nanB n = true) : rp n = 9223372036854775807 := by unfold rp; rw [if_pos (nan_iff.1 h)]
theorem rp_fin {n : Nat} (hn : n < 18446744073709551616) (h : nanB n = false) : rp n = (pl n : Int) - 9223372036854775808 ∧ -9218868437227405313 ≤ rp n ∧ rp n ≤ 9218868437227405312 := by
  obtain ⟨e, hl⟩ := fin_of h
  unfold rp pl
  rw [e, if_neg (by omega)]
  split <;> split <;> omega
theorem pl_nanR {n : Nat} (h : nanB n = true) : pl n = 18444492273895866368 := by unfold pl; rw [nan_iff.1 h]; decide
theorem rp_lt {a b : Nat} (ha : a < 18446744073709551616) (hb : b < 18446744073709551616) : rp a < rp b ↔ pl a < pl b := by
  cases h1 : nanB a
  · have x := rp_fin ha h1
    cases h2 : nanB b
    · have y := rp_fin hb h2; omega
    · have y := rp_nan h2; have z := pl_nanR h2; omega
  · have x := rp_nan h1; have x' := pl_nanR h1
    cases h2 : nanB b
    · have y := rp_fin hb h2; omega
    · have y := rp_nan h2; have z := pl_nanR h2; omega
set_option maxHeartbeats 400000 in
theorem rcompare_c (a b : Nat) (w : World) (ha : a < 18446744073709551616) (hb : b < 18446744073709551616) :
    Calls Tryd.prog 33 #[.float .f64 a, .float .f64 b] w fun e w' => e = .returned (.int .i64 (cp a b)) ∧ w = w' := by
  have r1 : Hid (rp a < rp b ↔ pl a < pl b) := rp_lt ha hb
  have r2 : Hid (rp b < rp a ↔ pl b < pl a) := rp_lt hb ha
  go_enter Tryd.func33, Tryd.ntmps33
  go_wp2_with (go_at_call 51; refine (rplace_c _ _ (by assumption)).mono ?_; rintro e w' ⟨rfl, rfl⟩)
  all_goals go_ret
  all_goals refine ⟨ret_int ?_, rfl⟩
  all_goals have q1 := r1.out
  all_goals have q2 := r2.out
  all_goals unfold cp
  all_goals split <;> (try split) <;> omega
/-- The float of a place, the document's way. -/
def rat (p : Int) : Nat := if p < 0 then (-1 - p).toNat + 9223372036854775808 else p.toNat
set_option maxHeartbeats 400000 in
theorem rat_c (p : Int) (w : World) (h0 : -9223372036854775808 ≤ p) (h : p ≤ 9223372036854775807) :
    Calls Tryd.prog 52 #[.int .i64 p] w fun e w' => e = .returned (.float .f64 (rat p)) ∧ w = w' := by
  have h1 := run_frombits
  by_cases c : p < 0
  · have hr : Hid (((-1 - p) + 9223372036854775808).toNat = rat p) := by unfold Hid rat; rw [if_pos c]; omega
    go_enter Tryd.func52, Tryd.ntmps52
    go_wp2
    go_ret
    exact ⟨ret_float hr.out, rfl⟩
  · have hr : Hid (p.toNat = rat p) := by unfold Hid rat; rw [if_neg c]
    have c' : decide (p < 0) = false := decide_eq_false c
    have c2 : 0 ≤ p := by omega
    go_enter Tryd.func52, Tryd.ntmps52
    go_wp2
    go_ret
    exact ⟨ret_float hr.out, rfl⟩
theorem rup_eq {n : Nat} (hn : n < 18446744073709551616) : (9218868437227405312 ≤ rp n → up n = n) ∧ (rp n < 9218868437227405312 → up n = rat (rp n + 1)) := by
  cases h : nanB n
  · have x := rp_fin hn h
    obtain ⟨e, hl⟩ := fin_of h
    constructor
    · intro h1
      have : n = 9218868437227405312 := by unfold pl at x; rw [e] at x; split at x <;> omega
      unfold up; rw [if_pos (Or.inr this)]
    · intro h1
      have : n ≠ 9218868437227405312 := by unfold pl at x; rw [e] at x; split at x <;> omega
      unfold up; rw [if_neg (by omega)]
      unfold att rat
      split <;> split <;> omega
  · have x := rp_nan h
    constructor
    · intro _; unfold up; rw [if_pos (Or.inl (of_decide_eq_true h))]
    · intro h1; omega
theorem rdn_eq {n : Nat} (hn : n < 18446744073709551616) : ((rp n = 9223372036854775807 ∨ rp n = -9218868437227405313) → dn n = n) ∧ (rp n ≠ 9223372036854775807 → rp n ≠ -9218868437227405313 → dn n = rat (rp n - 1)) := by
  cases h : nanB n
  · have x := rp_fin hn h
    obtain ⟨e, hl⟩ := fin_of h
    constructor
    · intro h1
      have : n = 18442240474082181120 := by unfold pl at x; rw [e] at x; split at x <;> omega
      unfold dn; rw [if_pos (Or.inr this)]
    · intro _ h1
      have : n ≠ 18442240474082181120 := by unfold pl at x; rw [e] at x; split at x <;> omega
      have p1 : 1 ≤ pl n := by omega
      unfold dn; rw [if_neg (by omega)]
      unfold att rat
      split <;> split <;> omega
  · have x := rp_nan h
    constructor
    · intro _; unfold dn; rw [if_pos (Or.inl (of_decide_eq_true h))]
    · intro h1; omega
set_option maxHeartbeats 400000 in
theorem rup_c (n : Nat) (w : World) (h : n < 18446744073709551616) :
    Calls Tryd.prog 23 #[.float .f64 n] w fun e w' => e = .returned (.float .f64 (up n)) ∧ w = w' := by
  obtain ⟨b1, b2⟩ := rp_bounds h
  by_cases c : 9218868437227405312 ≤ rp n
  · have hr : Hid (n = up n) := ((rup_eq h).1 c).symm
    go_enter Tryd.func23, Tryd.ntmps23
    go_wp2_with (first | (go_at_call 51; refine (rplace_c _ _ (by assumption)).mono ?_; rintro e w' ⟨rfl, rfl⟩) | (go_at_call 52; refine (rat_c _ _ (by omega) (by omega)).mono ?_; rintro e w' ⟨rfl, rfl⟩))
    go_ret
    exact ⟨ret_float hr.out, rfl⟩
  · have hr : Hid (rat (rp n + 1) = up n) := ((rup_eq h).2 (by omega)).symm
    have c' : decide (9218868437227405312 ≤ rp n) = false := decide_eq_false c
    go_enter Tryd.func23, Tryd.ntmps23
    go_wp2_with (first | (go_at_call 51; refine (rplace_c _ _ (by assumption)).mono ?_; rintro e w' ⟨rfl, rfl⟩) | (go_at_call 52; refine (rat_c _ _ (by omega) (by omega)).mono ?_; rintro e w' ⟨rfl, rfl⟩))
    go_ret
    exact ⟨ret_float hr.out, rfl⟩
set_option maxHeartbeats 400000 in
theorem rdn_c (n : Nat) (w : World) (h : n < 18446744073709551616) :
    Calls Tryd.prog 25 #[.float .f64 n] w fun e w' => e = .returned (.float .f64 (dn n)) ∧ w = w' := by
  obtain ⟨b1, b2⟩ := rp_bounds h
  by_cases c : rp n = 9223372036854775807
  · have hr : Hid (n = dn n) := ((rdn_eq h).1 (Or.inl c)).symm
    have e1 : (rp n == 9223372036854775807) = true := beq_iff_eq.2 c
    clear c
    go_enter Tryd.func25, Tryd.ntmps25
    go_wp2_with (first | (go_at_call 51; refine (rplace_c _ _ (by assumption)).mono ?_; rintro e w' ⟨rfl, rfl⟩) | (go_at_call 52; refine (rat_c _ _ (by omega) (by omega)).mono ?_; rintro e w' ⟨rfl, rfl⟩))
    go_ret
    exact ⟨ret_float hr.out, rfl⟩
  · have e1 : (rp n == 9223372036854775807) = false := beq_eq_false_iff_ne.2 c
    by_cases d : rp n = -9218868437227405313
    · have hr : Hid (n = dn n) := ((rdn_eq h).1 (Or.inr d)).symm
      have e2 : (rp n == -9218868437227405313) = true := beq_iff_eq.2 d
      clear c d
      go_enter Tryd.func25, Tryd.ntmps25
      go_wp2_with (first | (go_at_call 51; refine (rplace_c _ _ (by assumption)).mono ?_; rintro e w' ⟨rfl, rfl⟩) | (go_at_call 52; refine (rat_c _ _ (by omega) (by omega)).mono ?_; rintro e w' ⟨rfl, rfl⟩))
      go_ret
      exact ⟨ret_float hr.out, rfl⟩
    · have e2 : (rp n == -9218868437227405313) = false := beq_eq_false_iff_ne.2 d
      have hr : Hid (rat (rp n - 1) = dn n) := ((rdn_eq h).2 c d).symm
      have b3 : -9223372036854775808 ≤ rp n - 1 := by
        cases hn : nanB n
        · have x := rp_fin h hn; omega
        · have x := rp_nan hn; omega
      clear c d
      go_enter Tryd.func25, Tryd.ntmps25
      go_wp2_with (first | (go_at_call 51; refine (rplace_c _ _ (by assumption)).mono ?_; rintro e w' ⟨rfl, rfl⟩) | (go_at_call 52; refine (rat_c _ _ (by omega) (by omega)).mono ?_; rintro e w' ⟨rfl, rfl⟩))
      go_ret
      exact ⟨ret_float hr.out, rfl⟩
end Go.Proofs.YtabkbhmjblfajaaDoor
