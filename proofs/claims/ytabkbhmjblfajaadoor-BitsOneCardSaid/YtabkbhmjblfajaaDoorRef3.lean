/-
  Contracts of the document's Class, parts, Exponent, Whole of layer 1.
-/
import Derived.Test.YtabkbhmjblfajaaDoorRef
namespace Go.Proofs.YtabkbhmjblfajaaDoor
open Flo Go.RowKit
set_option maxHeartbeats 400000 in
theorem rclass_inf_p (n : Nat) (w : World) (h : n < 18446744073709551616) (h0 : ((bt n : Int) == 9221120237041090560) = false) (h1 : ((bt n : Int) % 9223372036854775808 == 9218868437227405312) = true) (hs : decide ((9223372036854775808 : Int) ≤ (bt n : Int)) = false) (hr : Hid (8 = cls n)) :
    Calls Tryd.prog 19 #[.float .f64 n] w fun e w' => e = .returned (.int .i64 (cls n)) ∧ w = w' := by
  go_enter Tryd.func19, Tryd.ntmps19
  go_wp2_with (go_at_call 15; refine (rbits_c _ _ (by assumption)).mono ?_; rintro e w' ⟨rfl, rfl⟩)
  go_ret
  exact ⟨ret_int hr.out, rfl⟩
set_option maxHeartbeats 400000 in
theorem rclass_inf_m (n : Nat) (w : World) (h : n < 18446744073709551616) (h0 : ((bt n : Int) == 9221120237041090560) = false) (h1 : ((bt n : Int) % 9223372036854775808 == 9218868437227405312) = true) (hs : (9223372036854775808 : Int) ≤ (bt n : Int)) (hr : Hid (1 = cls n)) :
    Calls Tryd.prog 19 #[.float .f64 n] w fun e w' => e = .returned (.int .i64 (cls n)) ∧ w = w' := by
  go_enter Tryd.func19, Tryd.ntmps19
  go_wp2_with (go_at_call 15; refine (rbits_c _ _ (by assumption)).mono ?_; rintro e w' ⟨rfl, rfl⟩)
  go_ret
  exact ⟨ret_int hr.out, rfl⟩
set_option maxHeartbeats 400000 in
theorem rclass_zero_p (n : Nat) (w : World) (h : n < 18446744073709551616) (h0 : ((bt n : Int) == 9221120237041090560) = false) (h1 : ((bt n : Int) % 9223372036854775808 == 9218868437227405312) = false) (h2 : ((bt n : Int) % 9223372036854775808 == 0) = true) (hs : decide ((9223372036854775808 : Int) ≤ (bt n : Int)) = false) (hr : Hid (5 = cls n)) :
    Calls Tryd.prog 19 #[.float .f64 n] w fun e w' => e = .returned (.int .i64 (cls n)) ∧ w = w' := by
  go_enter Tryd.func19, Tryd.ntmps19
  go_wp2_with (go_at_call 15; refine (rbits_c _ _ (by assumption)).mono ?_; rintro e w' ⟨rfl, rfl⟩)
  go_ret
  exact ⟨ret_int hr.out, rfl⟩
set_option maxHeartbeats 400000 in
theorem rclass_zero_m (n : Nat) (w : World) (h : n < 18446744073709551616) (h0 : ((bt n : Int) == 9221120237041090560) = false) (h1 : ((bt n : Int) % 9223372036854775808 == 9218868437227405312) = false) (h2 : ((bt n : Int) % 9223372036854775808 == 0) = true) (hs : (9223372036854775808 : Int) ≤ (bt n : Int)) (hr : Hid (4 = cls n)) :
    Calls Tryd.prog 19 #[.float .f64 n] w fun e w' => e = .returned (.int .i64 (cls n)) ∧ w = w' := by
  go_enter Tryd.func19, Tryd.ntmps19
  go_wp2_with (go_at_call 15; refine (rbits_c _ _ (by assumption)).mono ?_; rintro e w' ⟨rfl, rfl⟩)
  go_ret
  exact ⟨ret_int hr.out, rfl⟩
set_option maxHeartbeats 400000 in
theorem rclass_small_p (n : Nat) (w : World) (h : n < 18446744073709551616) (h0 : ((bt n : Int) == 9221120237041090560) = false) (h1 : ((bt n : Int) % 9223372036854775808 == 9218868437227405312) = false) (h2 : ((bt n : Int) % 9223372036854775808 == 0) = false) (h3 : (bt n : Int) % 9223372036854775808 < 4503599627370496) (hs : decide ((9223372036854775808 : Int) ≤ (bt n : Int)) = false) (hr : Hid (6 = cls n)) :
    Calls Tryd.prog 19 #[.float .f64 n] w fun e w' => e = .returned (.int .i64 (cls n)) ∧ w = w' := by
  go_enter Tryd.func19, Tryd.ntmps19
  go_wp2_with (go_at_call 15; refine (rbits_c _ _ (by assumption)).mono ?_; rintro e w' ⟨rfl, rfl⟩)
  go_ret
  exact ⟨ret_int hr.out, rfl⟩
set_option maxHeartbeats 400000 in
theorem rclass_small_m (n : Nat) (w : World) (h : n < 18446744073709551616) (h0 : ((bt n : Int) == 9221120237041090560) = false) (h1 : ((bt n : Int) % 9223372036854775808 == 9218868437227405312) = false) (h2 : ((bt n : Int) % 9223372036854775808 == 0) = false) (h3 : (bt n : Int) % 9223372036854775808 < 4503599627370496) (hs : (9223372036854775808 : Int) ≤ (bt n : Int)) (hr : Hid (3 = cls n)) :
    Calls Tryd.prog 19 #[.float .f64 n] w fun e w' => e = .returned (.int .i64 (cls n)) ∧ w = w' := by
  go_enter Tryd.func19, Tryd.ntmps19
  go_wp2_with (go_at_call 15; refine (rbits_c _ _ (by assumption)).mono ?_; rintro e w' ⟨rfl, rfl⟩)
  go_ret
  exact ⟨ret_int hr.out, rfl⟩
set_option maxHeartbeats 400000 in
theorem rclass_norm_p (n : Nat) (w : World) (h : n < 18446744073709551616) (h0 : ((bt n : Int) == 9221120237041090560) = false) (h1 : ((bt n : Int) % 9223372036854775808 == 9218868437227405312) = false) (h2 : ((bt n : Int) % 9223372036854775808 == 0) = false) (h3 : decide ((bt n : Int) % 9223372036854775808 < 4503599627370496) = false) (hs : decide ((9223372036854775808 : Int) ≤ (bt n : Int)) = false) (hr : Hid (7 = cls n)) :
    Calls Tryd.prog 19 #[.float .f64 n] w fun e w' => e = .returned (.int .i64 (cls n)) ∧ w = w' := by
  go_enter Tryd.func19, Tryd.ntmps19
  go_wp2_with (go_at_call 15; refine (rbits_c _ _ (by assumption)).mono ?_; rintro e w' ⟨rfl, rfl⟩)
  go_ret
  exact ⟨ret_int hr.out, rfl⟩
set_option maxHeartbeats 400000 in
theorem rclass_norm_m (n : Nat) (w : World) (h : n < 18446744073709551616) (h0 : ((bt n : Int) == 9221120237041090560) = false) (h1 : ((bt n : Int) % 9223372036854775808 == 9218868437227405312) = false) (h2 : ((bt n : Int) % 9223372036854775808 == 0) = false) (h3 : decide ((bt n : Int) % 9223372036854775808 < 4503599627370496) = false) (hs : (9223372036854775808 : Int) ≤ (bt n : Int)) (hr : Hid (2 = cls n)) :
    Calls Tryd.prog 19 #[.float .f64 n] w fun e w' => e = .returned (.int .i64 (cls n)) ∧ w = w' := by
  go_enter Tryd.func19, Tryd.ntmps19
  go_wp2_with (go_at_call 15; refine (rbits_c _ _ (by assumption)).mono ?_; rintro e w' ⟨rfl, rfl⟩)
  go_ret
  exact ⟨ret_int hr.out, rfl⟩
set_option maxHeartbeats 400000 in
theorem rclass_nan (n : Nat) (w : World) (h : n < 18446744073709551616) (h0 : ((bt n : Int) == 9221120237041090560) = true) (hr : Hid (9 = cls n)) :
    Calls Tryd.prog 19 #[.float .f64 n] w fun e w' => e = .returned (.int .i64 (cls n)) ∧ w = w' := by
  go_enter Tryd.func19, Tryd.ntmps19
  go_wp2_with (go_at_call 15; refine (rbits_c _ _ (by assumption)).mono ?_; rintro e w' ⟨rfl, rfl⟩)
  go_ret
  exact ⟨ret_int hr.out, rfl⟩
theorem cab_zero {b : Nat} (h : b = 0) : cab b = 5 := by unfold cab; rw [if_pos h]
theorem cab_small {b : Nat} (h : 0 < b) (h' : b < 4503599627370496) : cab b = 6 := by unfold cab; rw [if_neg (by omega), if_pos h']
theorem cab_norm {b : Nat} (h : 4503599627370496 ≤ b) (h' : b < 9218868437227405312) : cab b = 7 := by unfold cab; rw [if_neg (by omega), if_neg (by omega), if_pos h']
theorem cab_inf {b : Nat} (h : b = 9218868437227405312) : cab b = 8 := by unfold cab; rw [if_neg (by omega), if_neg (by omega), if_neg (by omega), if_pos h]
theorem cls_p {n : Nat} {c : Int} (h : bt n < 9223372036854775808) (hc : cab (bt n % 9223372036854775808) = c) : Hid (c = cls n) := by
  unfold Hid cls; rw [if_pos h, ← hc, Nat.mod_eq_of_lt h]
theorem cls_m {n : Nat} {c : Int} (h : ¬ bt n < 9223372036854775808) (hc : cab (bt n % 9223372036854775808) = c) : Hid (9 - c = cls n) := by
  unfold Hid cls; rw [if_neg h, ← hc]
theorem rclass_c (n : Nat) (w : World) (h : n < 18446744073709551616) :
    Calls Tryd.prog 19 #[.float .f64 n] w fun e w' => e = .returned (.int .i64 (cls n)) ∧ w = w' := by
  have hb := bt_lt h
  cases hn : nanB n
  · have hne : bt n ≠ 9221120237041090560 := by intro e; rw [nan_iff.2 e] at hn; cases hn
    have h0 : ((bt n : Int) == 9221120237041090560) = false := beq_eq_false_iff_ne.2 (by omega)
    obtain ⟨eb, hl⟩ := fin_of hn
    rw [← eb] at hl
    by_cases c1 : bt n % 9223372036854775808 = 9218868437227405312
    · have h1 : ((bt n : Int) % 9223372036854775808 == 9218868437227405312) = true := beq_iff_eq.2 (by omega)
      by_cases hs : bt n < 9223372036854775808
      · exact rclass_inf_p n w h h0 h1 (decide_eq_false (by omega)) (cls_p hs (cab_inf c1))
      · exact rclass_inf_m n w h h0 h1 (by omega) (cls_m hs (cab_inf c1))
    · have h1 : ((bt n : Int) % 9223372036854775808 == 9218868437227405312) = false := beq_eq_false_iff_ne.2 (by omega)
      by_cases c2 : bt n % 9223372036854775808 = 0
      · have h2 : ((bt n : Int) % 9223372036854775808 == 0) = true := beq_iff_eq.2 (by omega)
        by_cases hs : bt n < 9223372036854775808
        · exact rclass_zero_p n w h h0 h1 h2 (decide_eq_false (by omega)) (cls_p hs (cab_zero c2))
        · exact rclass_zero_m n w h h0 h1 h2 (by omega) (cls_m hs (cab_zero c2))
      · have h2 : ((bt n : Int) % 9223372036854775808 == 0) = false := beq_eq_false_iff_ne.2 (by omega)
        by_cases c3 : bt n % 9223372036854775808 < 4503599627370496
        · have h3 : (bt n : Int) % 9223372036854775808 < 4503599627370496 := by omega
          by_cases hs : bt n < 9223372036854775808
          · exact rclass_small_p n w h h0 h1 h2 h3 (decide_eq_false (by omega)) (cls_p hs (cab_small (by omega) c3))
          · exact rclass_small_m n w h h0 h1 h2 h3 (by omega) (cls_m hs (cab_small (by omega) c3))
        · have h3 : decide ((bt n : Int) % 9223372036854775808 < 4503599627370496) = false := decide_eq_false (by omega)
          by_cases hs : bt n < 9223372036854775808
          · exact rclass_norm_p n w h h0 h1 h2 h3 (decide_eq_false (by omega)) (cls_p hs (cab_norm (by omega) (by omega)))
          · exact rclass_norm_m n w h h0 h1 h2 h3 (by omega) (cls_m hs (cab_norm (by omega) (by omega)))
  · have e := nan_iff.1 hn
    refine rclass_nan n w h (by rw [e]; rfl) ?_
    unfold Hid cls; rw [e]; decide
/-- A finite float's digits and power, the document's way. -/
def pm (v : Nat) : Nat := if v < 4503599627370496 then v else v % 4503599627370496 + 4503599627370496
def pe (v : Nat) : Int := if v < 4503599627370496 then -1074 else ((v / 4503599627370496 : Nat) : Int) - 1075
set_option maxHeartbeats 400000 in
theorem parts_c (n : Nat) (w : World) (h : n < 18446744073709551616) :
    Calls Tryd.prog 44 #[.float .f64 n] w fun e w' => e = .returned (.tuple #[.int .u64 (pm (sz (bt n)) : Nat), .int .i64 (pe (sz (bt n)))]) ∧ w = w' := by
  have hb := bt_lt h
  by_cases c : sz (bt n) < 4503599627370496
  · have e1 : ((bt n : Int) % 9223372036854775808 / 4503599627370496 == 0) = true := beq_iff_eq.2 (by unfold sz at c; omega)
    have r1 : Hid ((bt n : Int) % 9223372036854775808 = (pm (sz (bt n)) : Nat)) := by unfold Hid pm; rw [if_pos c]; unfold sz; omega
    have r2 : Hid (-1074 = pe (sz (bt n))) := by unfold Hid pe; rw [if_pos c]
    clear c
    go_enter Tryd.func44, Tryd.ntmps44
    go_wp2_with (go_at_call 15; refine (rbits_c _ _ (by assumption)).mono ?_; rintro e w' ⟨rfl, rfl⟩)
    go_ret2
    exact ⟨ret_two r1.out r2.out, rfl⟩
  · have e1 : ((bt n : Int) % 9223372036854775808 / 4503599627370496 == 0) = false := beq_eq_false_iff_ne.2 (by unfold sz at c; omega)
    have r1 : Hid ((bt n : Int) % 4503599627370496 + 4503599627370496 = (pm (sz (bt n)) : Nat)) := by unfold Hid pm; rw [if_neg c]; unfold sz; omega
    have r2 : Hid ((bt n : Int) % 9223372036854775808 / 4503599627370496 - 1075 = pe (sz (bt n))) := by unfold Hid pe; rw [if_neg c]; unfold sz; omega
    clear c
    go_enter Tryd.func44, Tryd.ntmps44
    go_wp2_with (go_at_call 15; refine (rbits_c _ _ (by assumption)).mono ?_; rintro e w' ⟨rfl, rfl⟩)
    go_ret2
    exact ⟨ret_two r1.out r2.out, rfl⟩
theorem bitLen_53 {m : Nat} (h : 4503599627370496 ≤ m) (h' : m < 9007199254740992) : bitLen m = 53 := by
  have h1 := bitLen_lt (s := m) (k := 53) h'
  have sp := (bitLen_spec m).1
  rcases Nat.lt_or_ge (bitLen m) 53 with h2 | h2
  · have := pow_le (bitLen m) 52 (by omega); omega
  · omega
theorem pm_lt {v : Nat} : pm v < 9007199254740992 := by unfold pm; split <;> omega
theorem pe_bounds {v : Nat} (h : v < 9218868437227405312) : -1074 ≤ pe v ∧ pe v ≤ 971 := by unfold pe; split <;> omega
theorem xp_eq {v : Nat} : pe v + (bitLen (pm v) : Int) - 1 = dp v + 52 := by
  unfold pe pm dp
  by_cases h : v < 4503599627370496
  · rw [if_pos h, if_pos h, if_pos h]; omega
  · rw [if_neg h, if_neg h, if_neg h, bitLen_53 (by omega) (by omega)]; omega
set_option maxHeartbeats 400000 in
theorem rexponent_c (n : Nat) (w : World) (h : n < 18446744073709551616) (h0 : 0 < sz (bt n)) (h1 : sz (bt n) < 9218868437227405312) :
    Calls Tryd.prog 12 #[.float .f64 n] w fun e w' => e = .returned (.tuple #[.int .i64 (xp n), .int .i64 0]) ∧ w = w' := by
  have hb := bt_lt h
  have hx : (sz (bt n) : Int) = (bt n : Int) % 9223372036854775808 := by unfold sz; omega
  have e1 : ((bt n : Int) % 9223372036854775808 == 0) = false := beq_eq_false_iff_ne.2 (by omega)
  have e2 : decide ((9218868437227405312 : Int) ≤ (bt n : Int) % 9223372036854775808) = false := decide_eq_false (by omega)
  obtain ⟨p1, p2⟩ := pe_bounds h1
  have p3 : pm (sz (bt n)) < 9007199254740992 := pm_lt
  have p4 : bitLen (pm (sz (bt n))) ≤ 53 := bitLen_lt (k := 53) p3
  have hr : Hid (pe (sz (bt n)) + (bitLen (pm (sz (bt n))) : Int) - 1 = xp n) := by unfold Hid xp; exact xp_eq
  clear hx h0 h1
  go_enter Tryd.func12, Tryd.ntmps12
  go_wp2_with (first | (go_at_call 15; refine (rbits_c _ _ h).mono ?_; rintro e w' ⟨rfl, rfl⟩) | (go_at_call 44; refine (parts_c _ _ h).mono ?_; rintro e w' ⟨rfl, rfl⟩) | (go_at_call 45; refine (len64_c _ _ (by omega) (by omega)).mono ?_; rintro e w' ⟨rfl, rfl⟩))
  go_ret2
  exact ⟨ret_two hr.out rfl, rfl⟩
set_option maxHeartbeats 400000 in
theorem rexponent_z (n : Nat) (w : World) (h : n < 18446744073709551616) (e1 : ((bt n : Int) % 9223372036854775808 == 0) = true) :
    Calls Tryd.prog 12 #[.float .f64 n] w fun e w' => e = .returned (.tuple #[.int .i64 0, .int .i64 13]) ∧ w = w' := by
  go_enter Tryd.func12, Tryd.ntmps12
  go_wp2_with (go_at_call 15; refine (rbits_c _ _ h).mono ?_; rintro e w' ⟨rfl, rfl⟩)
  go_ret2
  exact ⟨rfl, rfl⟩
set_option maxHeartbeats 400000 in
theorem rexponent_i (n : Nat) (w : World) (h : n < 18446744073709551616) (e1 : ((bt n : Int) % 9223372036854775808 == 0) = false) (e2 : (9218868437227405312 : Int) ≤ (bt n : Int) % 9223372036854775808) :
    Calls Tryd.prog 12 #[.float .f64 n] w fun e w' => e = .returned (.tuple #[.int .i64 0, .int .i64 13]) ∧ w = w' := by
  go_enter Tryd.func12, Tryd.ntmps12
  go_wp2_with (go_at_call 15; refine (rbits_c _ _ h).mono ?_; rintro e w' ⟨rfl, rfl⟩)
  go_ret2
  exact ⟨rfl, rfl⟩
theorem rexponent_no (n : Nat) (w : World) (h : n < 18446744073709551616) (h0 : sz (bt n) = 0 ∨ 9218868437227405312 ≤ sz (bt n)) :
    Calls Tryd.prog 12 #[.float .f64 n] w fun e w' => e = .returned (.tuple #[.int .i64 0, .int .i64 13]) ∧ w = w' := by
  have hx : (sz (bt n) : Int) = (bt n : Int) % 9223372036854775808 := by unfold sz; omega
  by_cases hz : sz (bt n) = 0
  · exact rexponent_z n w h (beq_iff_eq.2 (by omega))
  · exact rexponent_i n w h (beq_eq_false_iff_ne.2 (by omega)) (by omega)
set_option maxHeartbeats 400000 in
theorem rwhole_i (n : Nat) (w : World) (h : n < 18446744073709551616) (e2 : (9218868437227405312 : Int) ≤ (bt n : Int) % 9223372036854775808) :
    Calls Tryd.prog 21 #[.float .f64 n] w fun e w' => e = .returned (.bool false) ∧ w = w' := by
  go_enter Tryd.func21, Tryd.ntmps21
  go_wp2_with (go_at_call 15; refine (rbits_c _ _ h).mono ?_; rintro e w' ⟨rfl, rfl⟩)
  go_ret
  exact ⟨rfl, rfl⟩
set_option maxHeartbeats 400000 in
theorem rwhole_y (n : Nat) (w : World) (h : n < 18446744073709551616) (e2 : decide ((9218868437227405312 : Int) ≤ (bt n : Int) % 9223372036854775808) = false)
    (hh : ((pm (sz (bt n)) : Int) == 0) = true ∨ (((pm (sz (bt n)) : Int) == 0) = false ∧ 0 ≤ pe (sz (bt n)))) :
    Calls Tryd.prog 21 #[.float .f64 n] w fun e w' => e = .returned (.bool true) ∧ w = w' := by
  rcases hh with e3 | ⟨e3, e4⟩
  all_goals
    go_enter Tryd.func21, Tryd.ntmps21
    go_wp2_with (first | (go_at_call 15; refine (rbits_c _ _ h).mono ?_; rintro e w' ⟨rfl, rfl⟩) | (go_at_call 44; refine (parts_c _ _ h).mono ?_; rintro e w' ⟨rfl, rfl⟩))
    go_ret
    exact ⟨rfl, rfl⟩
set_option maxHeartbeats 400000 in
theorem rwhole_f (n : Nat) (w : World) (h : n < 18446744073709551616) (e2 : decide ((9218868437227405312 : Int) ≤ (bt n : Int) % 9223372036854775808) = false)
    (e3 : ((pm (sz (bt n)) : Int) == 0) = false) (e4 : decide (0 ≤ pe (sz (bt n))) = false) (e5 : decide (-53 < pe (sz (bt n))) = false) :
    Calls Tryd.prog 21 #[.float .f64 n] w fun e w' => e = .returned (.bool false) ∧ w = w' := by
  go_enter Tryd.func21, Tryd.ntmps21
  go_wp2_with (first | (go_at_call 15; refine (rbits_c _ _ h).mono ?_; rintro e w' ⟨rfl, rfl⟩) | (go_at_call 44; refine (parts_c _ _ h).mono ?_; rintro e w' ⟨rfl, rfl⟩))
  go_ret
  exact ⟨rfl, rfl⟩
set_option maxHeartbeats 400000 in
theorem rwhole_d (n : Nat) (w : World) (h : n < 18446744073709551616) (e2 : decide ((9218868437227405312 : Int) ≤ (bt n : Int) % 9223372036854775808) = false)
    (e3 : ((pm (sz (bt n)) : Int) == 0) = false) (e4 : decide (0 ≤ pe (sz (bt n))) = false) (e5 : -53 < pe (sz (bt n))) (e6 : pe (sz (bt n)) < 0) :
    Calls Tryd.prog 21 #[.float .f64 n] w fun e w' => e = .returned (.bool (decide (pm (sz (bt n)) % 2 ^ (-pe (sz (bt n))).toNat = 0))) ∧ w = w' := by
  have hq := pow_le (-pe (sz (bt n))).toNat 52 (by omega)
  have h2 : 0 < 2 ^ (-pe (sz (bt n))).toNat := Nat.two_pow_pos _
  have e0 := shl_wrap 1 (-pe (sz (bt n))).toNat (by omega)
  have e1 : IntKind.u64.wrap (2 ^ (-pe (sz (bt n))).toNat) = ((2 ^ (-pe (sz (bt n))).toNat : Nat) : Int) := by simpa using e0
  have hne : ¬ IntKind.u64.wrap (2 ^ (-pe (sz (bt n))).toNat) = 0 := by rw [e1]; omega
  have hr : Hid (((pm (sz (bt n)) : Int) % IntKind.u64.wrap (2 ^ (-pe (sz (bt n))).toNat) == 0) = decide (pm (sz (bt n)) % 2 ^ (-pe (sz (bt n))).toNat = 0)) := by
    unfold Hid
    rw [e1, Bool.eq_iff_iff]
    simp only [beq_iff_eq, decide_eq_true_eq]
    rw [← Int.natCast_emod]
    omega
  clear hq h2 e0 e1
  go_enter Tryd.func21, Tryd.ntmps21
  go_wp2_with (first | (go_at_call 15; refine (rbits_c _ _ h).mono ?_; rintro e w' ⟨rfl, rfl⟩) | (go_at_call 44; refine (parts_c _ _ h).mono ?_; rintro e w' ⟨rfl, rfl⟩))
  go_ret
  exact ⟨ret_bool hr.out, rfl⟩
theorem rwhole_c (n : Nat) (w : World) (h : n < 18446744073709551616) :
    Calls Tryd.prog 21 #[.float .f64 n] w fun e w' => e = .returned (.bool (wh n)) ∧ w = w' := by
  have hx : (sz (bt n) : Int) = (bt n : Int) % 9223372036854775808 := by unfold sz; omega
  by_cases hi : 9218868437227405312 ≤ sz (bt n)
  · have e : wh n = false := by unfold wh; rw [if_neg (by omega), if_pos hi]
    rw [e]
    exact rwhole_i n w h (by omega)
  · have e2 : decide ((9218868437227405312 : Int) ≤ (bt n : Int) % 9223372036854775808) = false := decide_eq_false (by omega)
    by_cases hz : sz (bt n) = 0
    · have e : wh n = true := by unfold wh; rw [if_pos hz]
      rw [e]
      refine rwhole_y n w h e2 (Or.inl ?_)
      rw [hz]; decide
    · have e3 : ((pm (sz (bt n)) : Int) == 0) = false := beq_eq_false_iff_ne.2 (by unfold pm; split <;> omega)
      by_cases hl : sz (bt n) < 4503599627370496
      · have ep : pe (sz (bt n)) = -1074 := by unfold pe; rw [if_pos hl]
        have ed : dp (sz (bt n)) < -52 := by have := bitLen_lt (k := 52) hl; unfold dp; rw [if_pos hl]; omega
        have e : wh n = false := by unfold wh; rw [if_neg hz, if_neg hi, if_neg (by omega), if_pos ed]
        rw [e]
        exact rwhole_f n w h e2 e3 (decide_eq_false (by omega)) (decide_eq_false (by omega))
      · have ep : pe (sz (bt n)) = dp (sz (bt n)) := by unfold pe dp; rw [if_neg hl, if_neg hl]
        have em : pm (sz (bt n)) = dm (sz (bt n)) := by unfold pm dm; rw [if_neg hl, if_neg hl]
        by_cases h0 : 0 ≤ dp (sz (bt n))
        · have e : wh n = true := by unfold wh; rw [if_neg hz, if_neg hi, if_pos h0]
          rw [e]
          exact rwhole_y n w h e2 (Or.inr ⟨e3, by omega⟩)
        · by_cases h5 : dp (sz (bt n)) < -52
          · have e : wh n = false := by unfold wh; rw [if_neg hz, if_neg hi, if_neg h0, if_pos h5]
            rw [e]
            exact rwhole_f n w h e2 e3 (decide_eq_false (by omega)) (decide_eq_false (by omega))
          · have e : wh n = decide (pm (sz (bt n)) % 2 ^ (-pe (sz (bt n))).toNat = 0) := by unfold wh; rw [if_neg hz, if_neg hi, if_neg h0, if_neg h5, ep, em]
            rw [e]
            exact rwhole_d n w h e2 e3 (decide_eq_false (by omega)) (by omega) (by omega)
end Go.Proofs.YtabkbhmjblfajaaDoor
