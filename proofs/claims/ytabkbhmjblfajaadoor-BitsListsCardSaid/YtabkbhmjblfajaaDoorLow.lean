/-
  Contracts of package bits' plain functions: what each returns at every float, the world as it was.
-/
import Derived.Test.YtabkbhmjblfajaaDoorProg
import Derived.Test.YtabkbhmjblfajaaDoorWrd
import Derived.WalkLawsBesides
namespace Go.Proofs.YtabkbhmjblfajaaDoor
open Flo Go.RowKit

theorem run_frombits (b : Int) (w : World) : (callFunc 41 #[.int .u64 b]).run Tryd.prog w = .ok (.value (.float .f64 b.toNat)) w := by kernel_rfl
theorem run_tobits (b : Nat) (w : World) : (callFunc 37 #[.float .f64 b]).run Tryd.prog w = .ok (.value (.int .u64 b)) w := by kernel_rfl

set_option maxHeartbeats 400000 in
theorem of_c (b : Int) (w : World) :
    Calls Tryd.prog 17 #[.int .u64 b] w fun e w' => e = .returned (.float .f64 b.toNat) ∧ w = w' := by
  have h1 := run_frombits
  go_enter Tryd.func17, Tryd.ntmps17
  go_wp2
  go_ret
  exact ⟨rfl, rfl⟩
set_option maxHeartbeats 400000 in
theorem lof_c (b : Int) (w : World) :
    Calls Tryd.prog 10 #[.int .u64 b] w fun e w' => e = .returned (.float .f64 b.toNat) ∧ w = w' := by
  have h1 := run_frombits
  go_enter Tryd.func10, Tryd.ntmps10
  go_wp2
  go_ret
  exact ⟨rfl, rfl⟩
set_option maxHeartbeats 400000 in
theorem sizeOf_c (n : Nat) (w : World) (h : n < 18446744073709551616) :
    Calls Tryd.prog 42 #[.int .u64 n] w fun e w' => e = .returned (.int .u64 (sz n : Nat)) ∧ w = w' := by
  go_enter Tryd.func42, Tryd.ntmps42
  go_wp2
  go_ret
  exact ⟨ret_int (andNot_sign n h), rfl⟩
set_option maxHeartbeats 400000 in
theorem bits_c (n : Nat) (w : World) (h : n < 18446744073709551616) :
    Calls Tryd.prog 14 #[.float .f64 n] w fun e w' => e = .returned (.int .u64 (bt n : Nat)) ∧ w = w' := by
  have h2 := run_tobits
  go_enter Tryd.func14, Tryd.ntmps14
  go_wp2_with (go_at_call 42; refine (sizeOf_c _ _ h).mono ?_; rintro e w' ⟨rfl, rfl⟩)
  all_goals go_ret
  · exact ⟨ret_int (by unfold sz at *; unfold bt; rw [if_pos (by omega)]; rfl), rfl⟩
  · exact ⟨ret_int (by unfold sz at *; unfold bt; rw [if_neg (by omega)]), rfl⟩

set_option maxHeartbeats 400000 in
theorem same_c (a b : Nat) (w : World) (ha : a < 18446744073709551616) (hb : b < 18446744073709551616) :
    Calls Tryd.prog 30 #[.float .f64 a, .float .f64 b] w fun e w' => e = .returned (.bool ((bt a : Int) == (bt b : Int))) ∧ w = w' := by
  go_enter Tryd.func30, Tryd.ntmps30
  go_wp2_with (go_at_call 14; refine (bits_c _ _ (by assumption)).mono ?_; rintro e w' ⟨rfl, rfl⟩)
  all_goals go_ret
  exact ⟨rfl, rfl⟩
set_option maxHeartbeats 400000 in
theorem isNaN_c (n : Nat) (w : World) (h : n < 18446744073709551616) :
    Calls Tryd.prog 48 #[.float .f64 n] w fun e w' => e = .returned (.bool (nanB n)) ∧ w = w' := by
  go_enter Tryd.func48, Tryd.ntmps48
  go_wp2_with (go_at_call 14; refine (bits_c _ _ (by assumption)).mono ?_; rintro e w' ⟨rfl, rfl⟩)
  all_goals go_ret
  refine ⟨ret_bool ?_, rfl⟩
  unfold bt nanB
  by_cases hc : 9218868437227405312 < n % 9223372036854775808
  · simp [hc]
  · rw [if_neg hc, decide_eq_false hc]
    exact beq_eq_false_iff_ne.2 (by omega)
set_option maxHeartbeats 400000 in
theorem place_c (n : Nat) (w : World) (h : n < 18446744073709551616) :
    Calls Tryd.prog 50 #[.float .f64 n] w fun e w' => e = .returned (.int .u64 (pl n : Nat)) ∧ w = w' := by
  have hb := bt_lt h
  have e1 := and_sign (bt n) hb
  have e2 := not_u64 (bt n) hb
  by_cases hc : bt n < 9223372036854775808
  · have e3 := or_sign (bt n) hc
    rw [if_pos hc] at e1
    go_enter Tryd.func50, Tryd.ntmps50
    go_wp2_with (go_at_call 14; refine (bits_c _ _ (by assumption)).mono ?_; rintro e w' ⟨rfl, rfl⟩)
    all_goals go_ret
    exact ⟨ret_int (by unfold pl; rw [if_pos hc]; omega), rfl⟩
  · rw [if_neg hc] at e1
    go_enter Tryd.func50, Tryd.ntmps50
    go_wp2_with (go_at_call 14; refine (bits_c _ _ (by assumption)).mono ?_; rintro e w' ⟨rfl, rfl⟩)
    all_goals go_ret
    exact ⟨ret_int (by unfold pl; rw [if_neg hc]), rfl⟩
set_option maxHeartbeats 400000 in
theorem at_c (q : Int) (w : World) (h0 : 0 ≤ q) (h : q < 18446744073709551616) :
    Calls Tryd.prog 49 #[.int .u64 q] w fun e w' => e = .returned (.float .f64 (att q.toNat)) ∧ w = w' := by
  obtain ⟨p, rfl⟩ := Int.eq_ofNat_of_zero_le h0
  rw [Int.toNat_natCast]
  replace h : p < 18446744073709551616 := by omega
  clear h0
  have e1 := and_sign p h
  have e2 := not_u64 p h
  have e3 := andNot_sign p h
  by_cases hc : p < 9223372036854775808
  · rw [if_pos hc] at e1
    go_enter Tryd.func49, Tryd.ntmps49
    go_wp2_with (go_at_call 17; refine (of_c _ _).mono ?_; rintro e w' ⟨rfl, rfl⟩)
    all_goals go_ret
    exact ⟨ret_float (by unfold att; rw [if_neg (by omega)]), rfl⟩
  · rw [if_neg hc] at e1
    go_enter Tryd.func49, Tryd.ntmps49
    go_wp2_with (go_at_call 17; refine (of_c _ _).mono ?_; rintro e w' ⟨rfl, rfl⟩)
    all_goals go_ret
    exact ⟨ret_float (by unfold att; rw [if_pos (by omega)]; omega), rfl⟩

set_option maxRecDepth 100000 in
set_option maxHeartbeats 400000 in
theorem classAbove_c (b : Nat) (w : World) :
    Calls Tryd.prog 47 #[.int .u64 b] w fun e w' => e = .returned (.int .i64 (cab b)) ∧ w = w' := by
  by_cases h1 : b = 0
  · have hv : Hid (5 = cab b) := by unfold cab; rw [if_pos h1]; trivial
    have h1' : ((b : Int) == 0) = true := by rw [h1]; rfl
    clear h1
    go_enter Tryd.func47, Tryd.ntmps47
    go_wp2
    all_goals go_ret
    exact ⟨ret_int hv.out, rfl⟩
  by_cases h2 : b < 4503599627370496
  · have hv : Hid (6 = cab b) := by unfold cab; rw [if_neg h1]; rw [if_pos h2]; trivial
    have h2' : (b : Int) < 4503599627370496 := by omega
    have h1' : ((b : Int) == 0) = false := beq_eq_false_iff_ne.2 (by omega)
    go_enter Tryd.func47, Tryd.ntmps47
    go_wp2
    all_goals go_ret
    exact ⟨ret_int hv.out, rfl⟩
  by_cases h3 : b < 9218868437227405312
  · have hv : Hid (7 = cab b) := by unfold cab; rw [if_neg h1]; rw [if_neg h2]; rw [if_pos h3]; trivial
    have h3' : (b : Int) < 9218868437227405312 := by omega
    have h1' : ((b : Int) == 0) = false := beq_eq_false_iff_ne.2 (by omega)
    have h2' : ¬ (b : Int) < 4503599627370496 := by omega
    go_enter Tryd.func47, Tryd.ntmps47
    go_wp2
    all_goals go_ret
    exact ⟨ret_int hv.out, rfl⟩
  by_cases h4 : b = 9218868437227405312
  · have hv : Hid (8 = cab b) := by unfold cab; rw [if_neg h1]; rw [if_neg h2]; rw [if_neg h3]; rw [if_pos h4]; trivial
    have h4' : ((b : Int) == 9218868437227405312) = true := by rw [h4]; rfl
    have h1' : ((b : Int) == 0) = false := beq_eq_false_iff_ne.2 (by omega)
    have h2' : ¬ (b : Int) < 4503599627370496 := by omega
    have h3' : ¬ (b : Int) < 9218868437227405312 := by omega
    clear h4
    go_enter Tryd.func47, Tryd.ntmps47
    go_wp2
    all_goals go_ret
    exact ⟨ret_int hv.out, rfl⟩
  have hv : Hid (9 = cab b) := by unfold cab; rw [if_neg h1]; rw [if_neg h2]; rw [if_neg h3]; rw [if_neg h4]; rfl
  have h1' : ((b : Int) == 0) = false := beq_eq_false_iff_ne.2 (by omega)
  have h2' : ¬ (b : Int) < 4503599627370496 := by omega
  have h3' : ¬ (b : Int) < 9218868437227405312 := by omega
  have h4' : ((b : Int) == 9218868437227405312) = false := beq_eq_false_iff_ne.2 (by omega)
  go_enter Tryd.func47, Tryd.ntmps47
  go_wp2
  all_goals go_ret
  exact ⟨ret_int hv.out, rfl⟩
set_option maxHeartbeats 400000 in
theorem class_c (n : Nat) (w : World) (h : n < 18446744073709551616) :
    Calls Tryd.prog 18 #[.float .f64 n] w fun e w' => e = .returned (.int .i64 (cls n)) ∧ w = w' := by
  have hb := bt_lt h
  have e1 := and_sign (bt n) hb
  have h3 : 5 ≤ cab (sz (bt n)) ∧ cab (sz (bt n)) ≤ 9 := by unfold cab; split <;> (try split) <;> (try split) <;> (try split) <;> omega
  obtain ⟨h3, h4⟩ := h3
  by_cases hc : bt n < 9223372036854775808
  · rw [if_pos hc] at e1
    go_enter Tryd.func18, Tryd.ntmps18
    go_wp2_with (first | (go_at_call 14; refine (bits_c _ _ (by assumption)).mono ?_; rintro e w' ⟨rfl, rfl⟩) | (go_at_call 47; refine (classAbove_c _ _).mono ?_; rintro e w' ⟨rfl, rfl⟩))
    all_goals go_ret
    exact ⟨ret_int (by unfold cls; rw [if_pos hc]), rfl⟩
  · rw [if_neg hc] at e1
    go_enter Tryd.func18, Tryd.ntmps18
    go_wp2_with (first | (go_at_call 14; refine (bits_c _ _ (by assumption)).mono ?_; rintro e w' ⟨rfl, rfl⟩) | (go_at_call 42; refine (sizeOf_c _ _ hb).mono ?_; rintro e w' ⟨rfl, rfl⟩) | (go_at_call 47; refine (classAbove_c _ _).mono ?_; rintro e w' ⟨rfl, rfl⟩))
    all_goals go_ret
    exact ⟨ret_int (by unfold cls; rw [if_neg hc]; unfold sz; omega), rfl⟩
set_option maxHeartbeats 400000 in
theorem compare_c (a b : Nat) (w : World) (ha : a < 18446744073709551616) (hb : b < 18446744073709551616) :
    Calls Tryd.prog 32 #[.float .f64 a, .float .f64 b] w fun e w' => e = .returned (.int .i64 (cp a b)) ∧ w = w' := by
  go_enter Tryd.func32, Tryd.ntmps32
  go_wp2_with (go_at_call 50; refine (place_c _ _ (by assumption)).mono ?_; rintro e w' ⟨rfl, rfl⟩)
  all_goals go_ret
  all_goals exact ⟨ret_int (by unfold cp; first | rw [if_pos (by omega)] | (rw [if_neg (by omega)]; first | rw [if_pos (by omega)] | rw [if_neg (by omega)])), rfl⟩
set_option maxHeartbeats 400000 in
theorem up_c (n : Nat) (w : World) (h : n < 18446744073709551616) :
    Calls Tryd.prog 22 #[.float .f64 n] w fun e w' => e = .returned (.float .f64 (up n)) ∧ w = w' := by
  have hp := pl_lt h
  by_cases hc : 9218868437227405312 < n % 9223372036854775808
  · have e1 : nanB n = true := by simp [nanB, hc]
    go_enter Tryd.func22, Tryd.ntmps22
    go_wp2_with (first | (go_at_call 48; refine (isNaN_c _ _ (by assumption)).mono ?_; rintro e w' ⟨rfl, rfl⟩) | (go_at_call 14; refine (bits_c _ _ (by assumption)).mono ?_; rintro e w' ⟨rfl, rfl⟩))
    all_goals go_ret
    all_goals exact ⟨ret_float (by unfold up; rw [if_pos (Or.inl hc)]), rfl⟩
  · have e1 : nanB n = false := by simp [nanB]; omega
    have e2 : bt n = n := by unfold bt; rw [if_neg hc]
    by_cases hi : n = 9218868437227405312
    · have e3 : ((bt n : Int) == 9218868437227405312) = true := by rw [e2, hi]; rfl
      have hu : Hid (up n = n) := by unfold up; rw [if_pos (Or.inr hi)]; trivial
      clear e2 hi
      go_enter Tryd.func22, Tryd.ntmps22
      go_wp2_with (first | (go_at_call 48; refine (isNaN_c _ _ (by assumption)).mono ?_; rintro e w' ⟨rfl, rfl⟩) | (go_at_call 14; refine (bits_c _ _ (by assumption)).mono ?_; rintro e w' ⟨rfl, rfl⟩))
      all_goals go_ret
      all_goals exact ⟨ret_float (by rw [hu.out]), rfl⟩
    · have e3 : ((bt n : Int) == 9218868437227405312) = false := by rw [e2]; exact beq_eq_false_iff_ne.2 (by omega)
      have hp2 : pl n + 1 < 18446744073709551616 := by unfold pl; rw [e2]; split <;> omega
      have hu : Hid (up n = att (pl n + 1)) := by unfold up; rw [if_neg (by omega)]; trivial
      clear e2 hi
      go_enter Tryd.func22, Tryd.ntmps22
      go_wp2_with (first | (go_at_call 48; refine (isNaN_c _ _ (by assumption)).mono ?_; rintro e w' ⟨rfl, rfl⟩) | (go_at_call 14; refine (bits_c _ _ (by assumption)).mono ?_; rintro e w' ⟨rfl, rfl⟩) | (go_at_call 50; refine (place_c _ _ (by assumption)).mono ?_; rintro e w' ⟨rfl, rfl⟩) | (go_at_call 49; refine (at_c _ _ (by omega) (by omega)).mono ?_; rintro e w' ⟨rfl, rfl⟩))
      all_goals go_ret
      all_goals exact ⟨ret_float (by rw [hu.out]), rfl⟩
set_option maxHeartbeats 400000 in
theorem dn_c (n : Nat) (w : World) (h : n < 18446744073709551616) :
    Calls Tryd.prog 24 #[.float .f64 n] w fun e w' => e = .returned (.float .f64 (dn n)) ∧ w = w' := by
  have hp := pl_lt h
  by_cases hc : 9218868437227405312 < n % 9223372036854775808
  · have e1 : nanB n = true := by simp [nanB, hc]
    go_enter Tryd.func24, Tryd.ntmps24
    go_wp2_with (first | (go_at_call 48; refine (isNaN_c _ _ (by assumption)).mono ?_; rintro e w' ⟨rfl, rfl⟩) | (go_at_call 14; refine (bits_c _ _ (by assumption)).mono ?_; rintro e w' ⟨rfl, rfl⟩))
    all_goals go_ret
    all_goals exact ⟨ret_float (by unfold dn; rw [if_pos (Or.inl hc)]), rfl⟩
  · have e1 : nanB n = false := by simp [nanB]; omega
    have e2 : bt n = n := by unfold bt; rw [if_neg hc]
    by_cases hi : n = 18442240474082181120
    · have e3 : ((bt n : Int) == 18442240474082181120) = true := by rw [e2, hi]; rfl
      have hu : Hid (dn n = n) := by unfold dn; rw [if_pos (Or.inr hi)]; trivial
      clear e2 hi
      go_enter Tryd.func24, Tryd.ntmps24
      go_wp2_with (first | (go_at_call 48; refine (isNaN_c _ _ (by assumption)).mono ?_; rintro e w' ⟨rfl, rfl⟩) | (go_at_call 14; refine (bits_c _ _ (by assumption)).mono ?_; rintro e w' ⟨rfl, rfl⟩))
      all_goals go_ret
      all_goals exact ⟨ret_float (by rw [hu.out]), rfl⟩
    · have e3 : ((bt n : Int) == 18442240474082181120) = false := by rw [e2]; exact beq_eq_false_iff_ne.2 (by omega)
      have hp2 : 1 ≤ pl n := by unfold pl; rw [e2]; split <;> omega
      have hu : Hid (dn n = att (pl n - 1)) := by unfold dn; rw [if_neg (by omega)]; trivial
      clear e2 hi
      go_enter Tryd.func24, Tryd.ntmps24
      go_wp2_with (first | (go_at_call 48; refine (isNaN_c _ _ (by assumption)).mono ?_; rintro e w' ⟨rfl, rfl⟩) | (go_at_call 14; refine (bits_c _ _ (by assumption)).mono ?_; rintro e w' ⟨rfl, rfl⟩) | (go_at_call 50; refine (place_c _ _ (by assumption)).mono ?_; rintro e w' ⟨rfl, rfl⟩) | (go_at_call 49; refine (at_c _ _ (by omega) (by omega)).mono ?_; rintro e w' ⟨rfl, rfl⟩))
      all_goals go_ret
      all_goals exact ⟨ret_float (by rw [hu.out]), rfl⟩
end Go.Proofs.YtabkbhmjblfajaaDoor
