/-
  The walk of the statement BitsBack: at all bits it returns true, and nothing that was in memory has turned.
-/
import Derived.Test.YtabkbhmjblfajaaDoorLiv
import Derived.Test.YtabkbhmjblfajaaDoorRows
import Derived.Stop.Joined
namespace Go.Proofs.YtabkbhmjblfajaaDoor.bitsBack
open Flo Go.RowKit
theorem bt_bt (a : Nat) : bt (bt a) = bt a := by
  unfold bt
  by_cases h : 9218868437227405312 < a % 9223372036854775808
  · rw [if_pos h, if_pos (by decide)]
  · rw [if_neg h, if_neg h]
theorem bt_nan {a : Nat} (h : nanB a = true) : bt a = 9221120237041090560 := by
  unfold nanB at h; unfold bt; rw [if_pos (of_decide_eq_true h)]
theorem bt_fin {a : Nat} (h : nanB a = false) : bt a = a := by
  unfold nanB at h; unfold bt; rw [if_neg (of_decide_eq_false h)]
theorem bt_fin_ne {b : Nat} (h : nanB b = false) : b ≠ 9221120237041090560 := by
  unfold nanB at h; have := of_decide_eq_false h; omega
theorem beq_nat (a b : Nat) : ((a : Int) == (b : Int)) = decide (a = b) := by
  by_cases h : a = b
  · simp [h]
  · rw [decide_eq_false h]; exact beq_eq_false_iff_ne.2 (by omega)
set_option maxHeartbeats 1000000 in
theorem walk_nan (a b : Nat) (w : World) (ha : a < 18446744073709551616) (hb : b < 18446744073709551616) (hn : nanB a = true) :
    Calls Tryd.prog 6 #[.int .u64 a, .int .u64 b] w fun e w' => e = .returned (.bool true) ∧ w = w' := by
  have f1 := bt_bt a
  have f2 : (FloatKind.f64.format.order a a != some Ordering.eq) = true := (ne_self a ha).trans hn
  obtain ⟨x, f3, f4, f5⟩ : ∃ x, ((bt a : Int) == (bt b : Int)) = x ∧ ((bt b : Int) == (bt a : Int)) = x ∧ (FloatKind.f64.format.order b b != some Ordering.eq) = x := by
    refine ⟨nanB b, ?_, ?_, ne_self b hb⟩
    all_goals
      rw [beq_nat, bt_nan hn]
      cases hq : nanB b
      · rw [bt_fin hq]; have := bt_fin_ne hq; exact decide_eq_false (by omega)
      · rw [bt_nan hq]; exact decide_eq_true rfl
  have f6 : ((bt a : Int) == 9221120237041090560) = true := by rw [bt_nan hn]; rfl
  have f7 : cls a = 9 := by unfold cls; rw [bt_nan hn]; decide
  clear hn
  go_enter Tryd.func6, Tryd.ntmps6
  go_wp2_with (first
    | (go_at_call 9; refine (lives_c _).mono ?_; rintro e w' ⟨rfl, rfl⟩)
    | (go_at_call 10; refine (lof_c _ _).mono ?_; rintro e w' ⟨rfl, rfl⟩)
    | (go_at_call 14; refine (bits_c _ _ (by assumption)).mono ?_; rintro e w' ⟨rfl, rfl⟩)
    | (go_at_call 17; refine (of_c _ _).mono ?_; rintro e w' ⟨rfl, rfl⟩)
    | (go_at_call 30; refine (same_c _ _ _ (by first | assumption | exact bt_lt ha) (by assumption)).mono ?_; rintro e w' ⟨rfl, rfl⟩)
    | (go_at_call 18; refine (class_c _ _ (by assumption)).mono ?_; rintro e w' ⟨rfl, rfl⟩))
  go_ret
  exact ⟨rfl, rfl⟩
set_option maxHeartbeats 1000000 in
theorem walk_fin (a b : Nat) (w : World) (ha : a < 18446744073709551616) (hb : b < 18446744073709551616) (hn : nanB a = false) :
    Calls Tryd.prog 6 #[.int .u64 a, .int .u64 b] w fun e w' => e = .returned (.bool true) ∧ w = w' := by
  have f1 := bt_bt a
  have f2 : (FloatKind.f64.format.order a a != some Ordering.eq) = false := (ne_self a ha).trans hn
  obtain ⟨x, f3, f4, f5⟩ : ∃ x, ((bt a : Int) == (bt b : Int)) = x ∧ ((bt b : Int) == (bt a : Int)) = x ∧ ((a : Int) == (b : Int)) = x := by
    refine ⟨decide (a = b), ?_, ?_, beq_nat a b⟩
    all_goals
      rw [beq_nat, bt_fin hn]
      cases hq : nanB b
      · simp only [bt_fin hq]; try exact decide_eq_decide.2 (by omega)
      · have := bt_fin_ne hn
        have h2 : a ≠ b := by intro e; rw [e, hq] at hn; cases hn
        rw [bt_nan hq]; exact decide_eq_decide.2 (by omega)
  have f6 : ((bt a : Int) == (a : Int)) = true := by rw [bt_fin hn]; exact beq_self_eq_true _
  clear hn
  go_enter Tryd.func6, Tryd.ntmps6
  go_wp2_with (first
    | (go_at_call 9; refine (lives_c _).mono ?_; rintro e w' ⟨rfl, rfl⟩)
    | (go_at_call 10; refine (lof_c _ _).mono ?_; rintro e w' ⟨rfl, rfl⟩)
    | (go_at_call 14; refine (bits_c _ _ (by assumption)).mono ?_; rintro e w' ⟨rfl, rfl⟩)
    | (go_at_call 17; refine (of_c _ _).mono ?_; rintro e w' ⟨rfl, rfl⟩)
    | (go_at_call 30; refine (same_c _ _ _ (by first | assumption | exact bt_lt ha) (by assumption)).mono ?_; rintro e w' ⟨rfl, rfl⟩)
    | (go_at_call 18; refine (class_c _ _ (by assumption)).mono ?_; rintro e w' ⟨rfl, rfl⟩))
  go_ret
  exact ⟨rfl, rfl⟩
theorem walk (x0 x1 : Int) (w : World) (l0 : 0 ≤ x0) (u0 : x0 ≤ 18446744073709551615) (l1 : 0 ≤ x1) (u1 : x1 ≤ 18446744073709551615) (_hL : laidMetH Tryd.prog Rows.bitsBackRow.laid w) :
    Calls Tryd.prog 6 #[.int .u64 x0, .int .u64 x1] w fun e w' => e = .returned (.bool true) ∧ Grown w w' := by
  obtain ⟨a, rfl⟩ := Int.eq_ofNat_of_zero_le l0
  obtain ⟨b, rfl⟩ := Int.eq_ofNat_of_zero_le l1
  cases hn : nanB a
  · refine (walk_fin a b w (by omega) (by omega) hn).mono ?_
    rintro e w' ⟨rfl, rfl⟩
    exact ⟨rfl, Grown.refl _⟩
  · refine (walk_nan a b w (by omega) (by omega) hn).mono ?_
    rintro e w' ⟨rfl, rfl⟩
    exact ⟨rfl, Grown.refl _⟩
end Go.Proofs.YtabkbhmjblfajaaDoor.bitsBack
