/-
  Contracts of the document's answers of layer 1 (timbreref01): Bits, Same, Place, Compare, Apart, at, Up, Down, Class: each is the plain function that package bits' own call was shown to be.
-/
import Derived.Test.YtgfmimmiaalhcaaDoorApa
import Derived.Test.YtgfmimmiaalhcaaDoorSca
namespace Go.Proofs.YtgfmimmiaalhcaaDoor
open Flo Go.RowKit
set_option maxHeartbeats 400000 in
theorem rbits_c (n : Nat) (w : World) (h : n < 18446744073709551616) :
    Calls Tryd.prog 42 #[.float .f64 n] w fun e w' => e = .returned (.int .u64 (bt n : Nat)) ∧ w = w' := by
  have h2 := run_tobits
  by_cases hc : 9218868437227405312 < n % 9223372036854775808
  · have e1 : (9218868437227405312 : Int) < (n : Int) % 9223372036854775808 := by omega
    have hr : Hid (bt n = 9221120237041090560) := by unfold bt; rw [if_pos hc]; trivial
    clear hc
    go_enter Tryd.func42, Tryd.ntmps42
    go_wp2
    go_ret
    exact ⟨ret_int (by rw [hr.out]; rfl), rfl⟩
  · have e1 : decide ((9218868437227405312 : Int) < (n : Int) % 9223372036854775808) = false := decide_eq_false (by omega)
    have hr : Hid (bt n = n) := by unfold bt; rw [if_neg hc]; trivial
    clear hc
    go_enter Tryd.func42, Tryd.ntmps42
    go_wp2
    go_ret
    exact ⟨ret_int (by rw [hr.out]), rfl⟩
set_option maxHeartbeats 400000 in
theorem rsame_c (a b : Nat) (w : World) (ha : a < 18446744073709551616) (hb : b < 18446744073709551616) :
    Calls Tryd.prog 31 #[.float .f64 a, .float .f64 b] w fun e w' => e = .returned (.bool ((bt a : Int) == (bt b : Int))) ∧ w = w' := by
  go_enter Tryd.func31, Tryd.ntmps31
  go_wp2_with (go_at_call 42; refine (rbits_c _ _ (by assumption)).mono ?_; rintro e w' ⟨rfl, rfl⟩)
  all_goals go_ret
  exact ⟨rfl, rfl⟩
/-- The document's place of a float. -/
def rp (n : Nat) : Int := if bt n = 9221120237041090560 then 9223372036854775807 else if 9223372036854775808 ≤ bt n then -1 - ((bt n : Int) - 9223372036854775808) else (bt n : Int)
theorem rp_bounds {n : Nat} (h : n < 18446744073709551616) : -9223372036854775808 ≤ rp n ∧ rp n ≤ 9223372036854775807 := by
  have := bt_lt h
  unfold rp; split <;> (try split) <;> omega
theorem nan_iff {n : Nat} : nanB n = true ↔ bt n = 9221120237041090560 := by
  unfold nanB bt
  by_cases h : 9218868437227405312 < n % 9223372036854775808
  · simp [h]
  · rw [if_neg h, decide_eq_false h]
    constructor
    · intro h'; cases h'
    · intro h'; omega
theorem fin_of {n : Nat} (h : nanB n = false) : bt n = n ∧ n % 9223372036854775808 ≤ 9218868437227405312 := by
  unfold nanB at h
  have := of_decide_eq_false h
  unfold bt; rw [if_neg this]; omega
theorem rp_nan {n : Nat} (h : nanB n = true) : rp n = 9223372036854775807 := by unfold rp; rw [if_pos (nan_iff.1 h)]
theorem rp_fin {n : Nat} (hn : n < 18446744073709551616) (h : nanB n = false) : rp n = (pl n : Int) - 9223372036854775808 ∧ -9218868437227405313 ≤ rp n ∧ rp n ≤ 9218868437227405312 := by
  obtain ⟨e, hl⟩ := fin_of h
  unfold rp pl
  rw [e, if_neg (by omega)]
  split <;> split <;> omega
theorem pl_nanR {n : Nat} (h : nanB n = true) : pl n = 18444492273895866368 := by unfold pl; rw [nan_iff.1 h]; decide
theorem rp_lt {a b : Nat} (ha : a < 18446744073709551616) (hb : b < 18446744073709551616) : rp a < rp b ↔ pl a < pl b := by
  cases h1 : nanB a
  · have x := rp_fin ha h1
    cases h2 : nanB b
    · have y := rp_fin hb h2; omega
    · have y := rp_nan h2; have z := pl_nanR h2; omega
  · have x := rp_nan h1; have x' := pl_nanR h1
    cases h2 : nanB b
    · have y := rp_fin hb h2; omega
    · have y := rp_nan h2; have z := pl_nanR h2; omega
/-- The float of a place, the document's way. -/
def rat (p : Int) : Nat := if p < 0 then (-1 - p).toNat + 9223372036854775808 else p.toNat
theorem rup_eq {n : Nat} (hn : n < 18446744073709551616) : (9218868437227405312 ≤ rp n → up n = n) ∧ (rp n < 9218868437227405312 → up n = rat (rp n + 1)) := by
  cases h : nanB n
  · have x := rp_fin hn h
    obtain ⟨e, hl⟩ := fin_of h
    constructor
    · intro h1
      have : n = 9218868437227405312 := by unfold pl at x; rw [e] at x; split at x <;> omega
      unfold up; rw [if_pos (Or.inr this)]
    · intro h1
      have : n ≠ 9218868437227405312 := by unfold pl at x; rw [e] at x; split at x <;> omega
      unfold up; rw [if_neg (by omega)]
      unfold att rat
      split <;> split <;> omega
  · have x := rp_nan h
    constructor
    · intro _; unfold up; rw [if_pos (Or.inl (of_decide_eq_true h))]
    · intro h1; omega
theorem rdn_eq {n : Nat} (hn : n < 18446744073709551616) : ((rp n = 9223372036854775807 ∨ rp n = -9218868437227405313) → dn n = n) ∧ (rp n ≠ 9223372036854775807 → rp n ≠ -9218868437227405313 → dn n = rat (rp n - 1)) := by
  cases h : nanB n
  · have x := rp_fin hn h
    obtain ⟨e, hl⟩ := fin_of h
    constructor
    · intro h1
      have : n = 18442240474082181120 := by unfold pl at x; rw [e] at x; split at x <;> omega
      unfold dn; rw [if_pos (Or.inr this)]
    · intro _ h1
      have : n ≠ 18442240474082181120 := by unfold pl at x; rw [e] at x; split at x <;> omega
      have p1 : 1 ≤ pl n := by omega
      unfold dn; rw [if_neg (by omega)]
      unfold att rat
      split <;> split <;> omega
  · have x := rp_nan h
    constructor
    · intro _; unfold dn; rw [if_pos (Or.inl (of_decide_eq_true h))]
    · intro h1; omega
end Go.Proofs.YtgfmimmiaalhcaaDoor
