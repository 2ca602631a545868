/-
  Contracts of the document's Scale of layer 1.
-/
import Derived.Test.YtabkbhmjblfajaaDoorRef3
import Derived.Deep.Cut
namespace Go.Proofs.YtabkbhmjblfajaaDoor
open Flo Go.RowKit
/-- The digits of the document's loop behind i rounds. -/
def lm (v i : Nat) : Nat := pm v * 2 ^ i
def lr (v : Nat) : Nat := 53 - bitLen (pm v)
theorem pm_pos {v : Nat} (h : 0 < v) : 0 < pm v := by unfold pm; split <;> omega
theorem lm_lt {v : Nat} (i : Nat) (hi : i < lr v) : lm v i < 4503599627370496 := by
  unfold lm; unfold lr at hi
  have sp := (bitLen_spec (pm v)).1
  have e : 2 ^ bitLen (pm v) * 2 ^ i ≤ 2 ^ 52 := by rw [← Nat.pow_add]; exact pow_le _ _ (by omega)
  have : pm v * 2 ^ i < 2 ^ bitLen (pm v) * 2 ^ i := Nat.mul_lt_mul_of_pos_right sp (Nat.two_pow_pos _)
  omega
theorem lm_end {v : Nat} : lm v (lr v) = dm v := by
  unfold lm lr dm
  by_cases h : v < 4503599627370496
  · rw [if_pos h]; unfold pm; rw [if_pos h]
  · rw [if_neg h]; unfold pm; rw [if_neg h, bitLen_53 (by omega) (by omega)]; omega
theorem le_end {v : Nat} : pe v - (lr v : Int) = dp v := by
  have h1 := bitLen_lt (s := pm v) (k := 53) pm_lt
  have h2 := @xp_eq v
  unfold lr; omega
theorem lm_succ (v i : Nat) : lm v (i + 1) = lm v i * 2 := by unfold lm; rw [Nat.pow_succ, Nat.mul_assoc]
def rk (k : Int) : Int := if k < -5000 then -5000 else if 5000 < k then 5000 else k
set_option maxHeartbeats 1000000 in
set_option maxRecDepth 100000 in
theorem rscale_A2 (n : Nat) (k : Int) (w : World) (h : n < 18446744073709551616) (k0 : k ≤ 9223372036854775807) (k1 : 5000 < k) (h0 : 0 < sz (bt n)) (h1 : sz (bt n) < 9218868437227405312)
    (E : Int) (f1 : 971 < E) (f2 : E ≤ 6000) (hE : Hid (dp (sz (bt n)) + 5000 = E)) (hr : Hid (bt n - bt n % 9223372036854775808 + 9218868437227405312 = sc n k)) :
    Calls Tryd.prog 27 #[.float .f64 n, .int .i64 k] w fun e w' => e = .returned (.float .f64 (sc n k)) ∧ w = w' := by
  have hb := bt_lt h
  have g1 := run_frombits
  have hx : (sz (bt n) : Int) = (bt n : Int) % 9223372036854775808 := by unfold sz; omega
  have e1 : ((bt n : Int) % 9223372036854775808 == 0) = false := beq_eq_false_iff_ne.2 (by omega)
  have e2 : decide ((9218868437227405312 : Int) ≤ (bt n : Int) % 9223372036854775808) = false := decide_eq_false (by omega)
  obtain ⟨p1, p2⟩ := pe_bounds h1
  have hl : lr (sz (bt n)) ≤ 53 := by unfold lr; omega
  have z : Hid (0 < sz (bt n) ∧ sz (bt n) < 9218868437227405312) := ⟨h0, h1⟩
  clear hx h0 h1
  go_enter Tryd.func27, Tryd.ntmps27
  go_wp2_with (first | (go_at_call 15; refine (rbits_c _ _ h).mono ?_; rintro e w' ⟨rfl, rfl⟩) | (go_at_call 44; refine (parts_c _ _ h).mono ?_; rintro e w' ⟨rfl, rfl⟩))
  go_loop [7, 8] (fun m e => ∃ i : Nat, i ≤ lr (sz (bt n)) ∧ m = .int .u64 (lm (sz (bt n)) i : Nat) ∧ e = .int .i64 (pe (sz (bt n)) + 5000 - i)) (fun _ e => (intOf e - (pe (sz (bt n)) + 5000 - 60)).toNat)
  case atStart => exact ⟨0, Nat.zero_le _, by unfold lm; go_num, by go_num⟩
  case round =>
    obtain ⟨i, hi, rfl, rfl⟩ := hrel
    by_cases hlt : i < lr (sz (bt n))
    · have a1 : (lm (sz (bt n)) i : Int) < 4503599627370496 := by have := lm_lt i hlt; omega
      go_wp2
      go_round
      case rel => exact ⟨i + 1, by omega, by rw [lm_succ]; go_num, by go_num⟩
      case measure => simp [intOf]; omega
    · have ei : i = lr (sz (bt n)) := by omega
      subst ei
      have eM : lm (sz (bt n)) (lr (sz (bt n))) = dm (sz (bt n)) := lm_end
      have eE : pe (sz (bt n)) + 5000 - (lr (sz (bt n)) : Int) = E := by have := @le_end (sz (bt n)); have := hE.out; omega
      have bM := dm_bounds _ z.out.1
      have m1 : decide ((dm (sz (bt n)) : Int) < 4503599627370496) = false := decide_eq_false (by omega)
      have m2 : decide ((9007199254740992 : Int) ≤ (dm (sz (bt n)) : Int)) = false := decide_eq_false (by omega)
      have m3 : (4503599627370496 : Int) ≤ (dm (sz (bt n)) : Int) := by omega
      have m4 : (dm (sz (bt n)) : Int) < 9007199254740992 := by omega
      clear bM
      go_wp2
      go_ret
      exact ⟨ret_float hr.out, rfl⟩
set_option maxHeartbeats 1000000 in
set_option maxRecDepth 100000 in
theorem rscale_A3 (n : Nat) (k : Int) (w : World) (h : n < 18446744073709551616) (k1 : k ≤ 5000) (k2 : -5000 ≤ k) (h0 : 0 < sz (bt n)) (h1 : sz (bt n) < 9218868437227405312)
    (E : Int) (f1 : 971 < E) (f2 : E ≤ 6000) (hE : Hid (dp (sz (bt n)) + k = E)) (hr : Hid (bt n - bt n % 9223372036854775808 + 9218868437227405312 = sc n k)) :
    Calls Tryd.prog 27 #[.float .f64 n, .int .i64 k] w fun e w' => e = .returned (.float .f64 (sc n k)) ∧ w = w' := by
  have hb := bt_lt h
  have g1 := run_frombits
  have hx : (sz (bt n) : Int) = (bt n : Int) % 9223372036854775808 := by unfold sz; omega
  have e1 : ((bt n : Int) % 9223372036854775808 == 0) = false := beq_eq_false_iff_ne.2 (by omega)
  have e2 : decide ((9218868437227405312 : Int) ≤ (bt n : Int) % 9223372036854775808) = false := decide_eq_false (by omega)
  obtain ⟨p1, p2⟩ := pe_bounds h1
  have hl : lr (sz (bt n)) ≤ 53 := by unfold lr; omega
  have z : Hid (0 < sz (bt n) ∧ sz (bt n) < 9218868437227405312) := ⟨h0, h1⟩
  clear hx h0 h1
  go_enter Tryd.func27, Tryd.ntmps27
  go_wp2_with (first | (go_at_call 15; refine (rbits_c _ _ h).mono ?_; rintro e w' ⟨rfl, rfl⟩) | (go_at_call 44; refine (parts_c _ _ h).mono ?_; rintro e w' ⟨rfl, rfl⟩))
  go_loop [7, 8] (fun m e => ∃ i : Nat, i ≤ lr (sz (bt n)) ∧ m = .int .u64 (lm (sz (bt n)) i : Nat) ∧ e = .int .i64 (pe (sz (bt n)) + k - i)) (fun _ e => (intOf e - (pe (sz (bt n)) + k - 60)).toNat)
  case atStart => exact ⟨0, Nat.zero_le _, by unfold lm; go_num, by go_num⟩
  case round =>
    obtain ⟨i, hi, rfl, rfl⟩ := hrel
    by_cases hlt : i < lr (sz (bt n))
    · have a1 : (lm (sz (bt n)) i : Int) < 4503599627370496 := by have := lm_lt i hlt; omega
      go_wp2
      go_round
      case rel => exact ⟨i + 1, by omega, by rw [lm_succ]; go_num, by go_num⟩
      case measure => simp [intOf]; omega
    · have ei : i = lr (sz (bt n)) := by omega
      subst ei
      have eM : lm (sz (bt n)) (lr (sz (bt n))) = dm (sz (bt n)) := lm_end
      have eE : pe (sz (bt n)) + k - (lr (sz (bt n)) : Int) = E := by have := @le_end (sz (bt n)); have := hE.out; omega
      have bM := dm_bounds _ z.out.1
      have m1 : decide ((dm (sz (bt n)) : Int) < 4503599627370496) = false := decide_eq_false (by omega)
      have m2 : decide ((9007199254740992 : Int) ≤ (dm (sz (bt n)) : Int)) = false := decide_eq_false (by omega)
      have m3 : (4503599627370496 : Int) ≤ (dm (sz (bt n)) : Int) := by omega
      have m4 : (dm (sz (bt n)) : Int) < 9007199254740992 := by omega
      clear bM
      go_wp2
      go_ret
      exact ⟨ret_float hr.out, rfl⟩
set_option maxHeartbeats 1000000 in
set_option maxRecDepth 100000 in
theorem rscale_D1 (n : Nat) (k : Int) (w : World) (h : n < 18446744073709551616) (k1 : k < -5000) (h0 : 0 < sz (bt n)) (h1 : sz (bt n) < 9218868437227405312)
    (E : Int) (f1 : 60 < -1074 - E) (f2 : -6200 ≤ E) (hE : Hid (dp (sz (bt n)) + -5000 = E)) (hr : Hid (bt n - bt n % 9223372036854775808 = sc n k)) :
    Calls Tryd.prog 27 #[.float .f64 n, .int .i64 k] w fun e w' => e = .returned (.float .f64 (sc n k)) ∧ w = w' := by
  have hb := bt_lt h
  have g1 := run_frombits
  have hx : (sz (bt n) : Int) = (bt n : Int) % 9223372036854775808 := by unfold sz; omega
  have e1 : ((bt n : Int) % 9223372036854775808 == 0) = false := beq_eq_false_iff_ne.2 (by omega)
  have e2 : decide ((9218868437227405312 : Int) ≤ (bt n : Int) % 9223372036854775808) = false := decide_eq_false (by omega)
  obtain ⟨p1, p2⟩ := pe_bounds h1
  have hl : lr (sz (bt n)) ≤ 53 := by unfold lr; omega
  have z : Hid (0 < sz (bt n) ∧ sz (bt n) < 9218868437227405312) := ⟨h0, h1⟩
  clear hx h0 h1
  go_enter Tryd.func27, Tryd.ntmps27
  go_wp2_with (first | (go_at_call 15; refine (rbits_c _ _ h).mono ?_; rintro e w' ⟨rfl, rfl⟩) | (go_at_call 44; refine (parts_c _ _ h).mono ?_; rintro e w' ⟨rfl, rfl⟩))
  go_loop [7, 8] (fun m e => ∃ i : Nat, i ≤ lr (sz (bt n)) ∧ m = .int .u64 (lm (sz (bt n)) i : Nat) ∧ e = .int .i64 (pe (sz (bt n)) + -5000 - i)) (fun _ e => (intOf e - (pe (sz (bt n)) + -5000 - 60)).toNat)
  case atStart => exact ⟨0, Nat.zero_le _, by unfold lm; go_num, by go_num⟩
  case round =>
    obtain ⟨i, hi, rfl, rfl⟩ := hrel
    by_cases hlt : i < lr (sz (bt n))
    · have a1 : (lm (sz (bt n)) i : Int) < 4503599627370496 := by have := lm_lt i hlt; omega
      go_wp2
      go_round
      case rel => exact ⟨i + 1, by omega, by rw [lm_succ]; go_num, by go_num⟩
      case measure => simp [intOf]; omega
    · have ei : i = lr (sz (bt n)) := by omega
      subst ei
      have eM : lm (sz (bt n)) (lr (sz (bt n))) = dm (sz (bt n)) := lm_end
      have eE : pe (sz (bt n)) + -5000 - (lr (sz (bt n)) : Int) = E := by have := @le_end (sz (bt n)); have := hE.out; omega
      have bM := dm_bounds _ z.out.1
      have m1 : decide ((dm (sz (bt n)) : Int) < 4503599627370496) = false := decide_eq_false (by omega)
      have m2 : decide ((9007199254740992 : Int) ≤ (dm (sz (bt n)) : Int)) = false := decide_eq_false (by omega)
      have m3 : (4503599627370496 : Int) ≤ (dm (sz (bt n)) : Int) := by omega
      have m4 : (dm (sz (bt n)) : Int) < 9007199254740992 := by omega
      clear bM
      go_wp2
      go_ret
      exact ⟨ret_float hr.out, rfl⟩
set_option maxHeartbeats 1000000 in
set_option maxRecDepth 100000 in
theorem rscale_D3 (n : Nat) (k : Int) (w : World) (h : n < 18446744073709551616) (k1 : k ≤ 5000) (k2 : -5000 ≤ k) (h0 : 0 < sz (bt n)) (h1 : sz (bt n) < 9218868437227405312)
    (E : Int) (f1 : 60 < -1074 - E) (f2 : -6200 ≤ E) (hE : Hid (dp (sz (bt n)) + k = E)) (hr : Hid (bt n - bt n % 9223372036854775808 = sc n k)) :
    Calls Tryd.prog 27 #[.float .f64 n, .int .i64 k] w fun e w' => e = .returned (.float .f64 (sc n k)) ∧ w = w' := by
  have hb := bt_lt h
  have g1 := run_frombits
  have hx : (sz (bt n) : Int) = (bt n : Int) % 9223372036854775808 := by unfold sz; omega
  have e1 : ((bt n : Int) % 9223372036854775808 == 0) = false := beq_eq_false_iff_ne.2 (by omega)
  have e2 : decide ((9218868437227405312 : Int) ≤ (bt n : Int) % 9223372036854775808) = false := decide_eq_false (by omega)
  obtain ⟨p1, p2⟩ := pe_bounds h1
  have hl : lr (sz (bt n)) ≤ 53 := by unfold lr; omega
  have z : Hid (0 < sz (bt n) ∧ sz (bt n) < 9218868437227405312) := ⟨h0, h1⟩
  clear hx h0 h1
  go_enter Tryd.func27, Tryd.ntmps27
  go_wp2_with (first | (go_at_call 15; refine (rbits_c _ _ h).mono ?_; rintro e w' ⟨rfl, rfl⟩) | (go_at_call 44; refine (parts_c _ _ h).mono ?_; rintro e w' ⟨rfl, rfl⟩))
  go_loop [7, 8] (fun m e => ∃ i : Nat, i ≤ lr (sz (bt n)) ∧ m = .int .u64 (lm (sz (bt n)) i : Nat) ∧ e = .int .i64 (pe (sz (bt n)) + k - i)) (fun _ e => (intOf e - (pe (sz (bt n)) + k - 60)).toNat)
  case atStart => exact ⟨0, Nat.zero_le _, by unfold lm; go_num, by go_num⟩
  case round =>
    obtain ⟨i, hi, rfl, rfl⟩ := hrel
    by_cases hlt : i < lr (sz (bt n))
    · have a1 : (lm (sz (bt n)) i : Int) < 4503599627370496 := by have := lm_lt i hlt; omega
      go_wp2
      go_round
      case rel => exact ⟨i + 1, by omega, by rw [lm_succ]; go_num, by go_num⟩
      case measure => simp [intOf]; omega
    · have ei : i = lr (sz (bt n)) := by omega
      subst ei
      have eM : lm (sz (bt n)) (lr (sz (bt n))) = dm (sz (bt n)) := lm_end
      have eE : pe (sz (bt n)) + k - (lr (sz (bt n)) : Int) = E := by have := @le_end (sz (bt n)); have := hE.out; omega
      have bM := dm_bounds _ z.out.1
      have m1 : decide ((dm (sz (bt n)) : Int) < 4503599627370496) = false := decide_eq_false (by omega)
      have m2 : decide ((9007199254740992 : Int) ≤ (dm (sz (bt n)) : Int)) = false := decide_eq_false (by omega)
      have m3 : (4503599627370496 : Int) ≤ (dm (sz (bt n)) : Int) := by omega
      have m4 : (dm (sz (bt n)) : Int) < 9007199254740992 := by omega
      clear bM
      go_wp2
      go_ret
      exact ⟨ret_float hr.out, rfl⟩
set_option maxHeartbeats 1000000 in
set_option maxRecDepth 100000 in
theorem rscale_B (n : Nat) (k : Int) (w : World) (h : n < 18446744073709551616) (k1 : k ≤ 5000) (k2 : -5000 ≤ k) (h0 : 0 < sz (bt n)) (h1 : sz (bt n) < 9218868437227405312)
    (E : Int) (f1 : -1074 < E) (f2 : decide (971 < E) = false) (f3 : E ≤ 971) (hE : Hid (dp (sz (bt n)) + k = E)) (hr : Hid (((bt n : Int) - (bt n : Int) % 9223372036854775808 + ((dm (sz (bt n)) : Int) + (E + 1074) * 4503599627370496)).toNat = sc n k)) :
    Calls Tryd.prog 27 #[.float .f64 n, .int .i64 k] w fun e w' => e = .returned (.float .f64 (sc n k)) ∧ w = w' := by
  have hb := bt_lt h
  have g1 := run_frombits
  have hx : (sz (bt n) : Int) = (bt n : Int) % 9223372036854775808 := by unfold sz; omega
  have e1 : ((bt n : Int) % 9223372036854775808 == 0) = false := beq_eq_false_iff_ne.2 (by omega)
  have e2 : decide ((9218868437227405312 : Int) ≤ (bt n : Int) % 9223372036854775808) = false := decide_eq_false (by omega)
  obtain ⟨p1, p2⟩ := pe_bounds h1
  have hl : lr (sz (bt n)) ≤ 53 := by unfold lr; omega
  have z : Hid (0 < sz (bt n) ∧ sz (bt n) < 9218868437227405312) := ⟨h0, h1⟩
  clear hx h0 h1
  go_enter Tryd.func27, Tryd.ntmps27
  go_wp2_with (first | (go_at_call 15; refine (rbits_c _ _ h).mono ?_; rintro e w' ⟨rfl, rfl⟩) | (go_at_call 44; refine (parts_c _ _ h).mono ?_; rintro e w' ⟨rfl, rfl⟩))
  go_loop [7, 8] (fun m e => ∃ i : Nat, i ≤ lr (sz (bt n)) ∧ m = .int .u64 (lm (sz (bt n)) i : Nat) ∧ e = .int .i64 (pe (sz (bt n)) + k - i)) (fun _ e => (intOf e - (pe (sz (bt n)) + k - 60)).toNat)
  case atStart => exact ⟨0, Nat.zero_le _, by unfold lm; go_num, by go_num⟩
  case round =>
    obtain ⟨i, hi, rfl, rfl⟩ := hrel
    by_cases hlt : i < lr (sz (bt n))
    · have a1 : (lm (sz (bt n)) i : Int) < 4503599627370496 := by have := lm_lt i hlt; omega
      go_wp2
      go_round
      case rel => exact ⟨i + 1, by omega, by rw [lm_succ]; go_num, by go_num⟩
      case measure => simp [intOf]; omega
    · have ei : i = lr (sz (bt n)) := by omega
      subst ei
      have eM : lm (sz (bt n)) (lr (sz (bt n))) = dm (sz (bt n)) := lm_end
      have eE : pe (sz (bt n)) + k - (lr (sz (bt n)) : Int) = E := by have := @le_end (sz (bt n)); have := hE.out; omega
      have bM := dm_bounds _ z.out.1
      have m1 : decide ((dm (sz (bt n)) : Int) < 4503599627370496) = false := decide_eq_false (by omega)
      have m2 : decide ((9007199254740992 : Int) ≤ (dm (sz (bt n)) : Int)) = false := decide_eq_false (by omega)
      have m3 : (4503599627370496 : Int) ≤ (dm (sz (bt n)) : Int) := by omega
      have m4 : (dm (sz (bt n)) : Int) < 9007199254740992 := by omega
      clear bM
      go_wp2
      go_ret
      exact ⟨ret_float hr.out, rfl⟩
set_option maxHeartbeats 1000000 in
set_option maxRecDepth 100000 in
theorem rscale_B0 (n : Nat) (k : Int) (w : World) (h : n < 18446744073709551616) (k1 : k ≤ 5000) (k2 : -5000 ≤ k) (h0 : 0 < sz (bt n)) (h1 : sz (bt n) < 9218868437227405312)
    (hE : Hid (dp (sz (bt n)) + k = -1074)) (hr : Hid (bt n - bt n % 9223372036854775808 + dm (sz (bt n)) = sc n k)) :
    Calls Tryd.prog 27 #[.float .f64 n, .int .i64 k] w fun e w' => e = .returned (.float .f64 (sc n k)) ∧ w = w' := by
  have hb := bt_lt h
  have g1 := run_frombits
  have hx : (sz (bt n) : Int) = (bt n : Int) % 9223372036854775808 := by unfold sz; omega
  have e1 : ((bt n : Int) % 9223372036854775808 == 0) = false := beq_eq_false_iff_ne.2 (by omega)
  have e2 : decide ((9218868437227405312 : Int) ≤ (bt n : Int) % 9223372036854775808) = false := decide_eq_false (by omega)
  obtain ⟨p1, p2⟩ := pe_bounds h1
  have hl : lr (sz (bt n)) ≤ 53 := by unfold lr; omega
  have z : Hid (0 < sz (bt n) ∧ sz (bt n) < 9218868437227405312) := ⟨h0, h1⟩
  clear hx h0 h1
  go_enter Tryd.func27, Tryd.ntmps27
  go_wp2_with (first | (go_at_call 15; refine (rbits_c _ _ h).mono ?_; rintro e w' ⟨rfl, rfl⟩) | (go_at_call 44; refine (parts_c _ _ h).mono ?_; rintro e w' ⟨rfl, rfl⟩))
  go_loop [7, 8] (fun m e => ∃ i : Nat, i ≤ lr (sz (bt n)) ∧ m = .int .u64 (lm (sz (bt n)) i : Nat) ∧ e = .int .i64 (pe (sz (bt n)) + k - i)) (fun _ e => (intOf e - (pe (sz (bt n)) + k - 60)).toNat)
  case atStart => exact ⟨0, Nat.zero_le _, by unfold lm; go_num, by go_num⟩
  case round =>
    obtain ⟨i, hi, rfl, rfl⟩ := hrel
    by_cases hlt : i < lr (sz (bt n))
    · have a1 : (lm (sz (bt n)) i : Int) < 4503599627370496 := by have := lm_lt i hlt; omega
      go_wp2
      go_round
      case rel => exact ⟨i + 1, by omega, by rw [lm_succ]; go_num, by go_num⟩
      case measure => simp [intOf]; omega
    · have ei : i = lr (sz (bt n)) := by omega
      subst ei
      have eM : lm (sz (bt n)) (lr (sz (bt n))) = dm (sz (bt n)) := lm_end
      have eE : pe (sz (bt n)) + k - (lr (sz (bt n)) : Int) = -1074 := by have := @le_end (sz (bt n)); have := hE.out; omega
      have bM := dm_bounds _ z.out.1
      have m1 : decide ((dm (sz (bt n)) : Int) < 4503599627370496) = false := decide_eq_false (by omega)
      have m2 : decide ((9007199254740992 : Int) ≤ (dm (sz (bt n)) : Int)) = false := decide_eq_false (by omega)
      have m3 : (4503599627370496 : Int) ≤ (dm (sz (bt n)) : Int) := by omega
      have m4 : (dm (sz (bt n)) : Int) < 9007199254740992 := by omega
      clear bM
      go_wp2
      go_ret
      exact ⟨ret_float hr.out, rfl⟩
set_option maxHeartbeats 1000000 in
set_option maxRecDepth 100000 in
theorem rscale_C1 (n : Nat) (k : Int) (w : World) (h : n < 18446744073709551616) (k1 : k ≤ 5000) (k2 : -5000 ≤ k) (h0 : 0 < sz (bt n)) (h1 : sz (bt n) < 9218868437227405312)
    (c : Nat) (f1 : 0 < (c : Int)) (f2 : (c : Int) ≤ 60) (f3 : decide (60 < (c : Int)) = false) (hE : Hid (dp (sz (bt n)) + k = -1074 - c)) (P Q : Int) (r1 : (2 : Int) ^ c = P) (r2 : IntKind.u64.wrap P = P) (r0 : ¬ P = 0) (r3 : (dm (sz (bt n)) : Int) / P = Q) (q0 : 0 ≤ Q) (q1 : Q < 4503599627370496) (P0 : 0 ≤ P) (P1 : P ≤ 1152921504606846976) (s1 : decide (P / 2 < (dm (sz (bt n)) : Int) % P) = false) (s2 : ((dm (sz (bt n)) : Int) % P == P / 2) = false) (t1 : decide (9007199254740992 ≤ Q) = false) (t2 : decide (4503599627370496 ≤ Q) = false) (hr : Hid (((bt n : Int) - (bt n : Int) % 9223372036854775808 + Q).toNat = sc n k)) :
    Calls Tryd.prog 27 #[.float .f64 n, .int .i64 k] w fun e w' => e = .returned (.float .f64 (sc n k)) ∧ w = w' := by
  have hb := bt_lt h
  have g1 := run_frombits
  have hx : (sz (bt n) : Int) = (bt n : Int) % 9223372036854775808 := by unfold sz; omega
  have e1 : ((bt n : Int) % 9223372036854775808 == 0) = false := beq_eq_false_iff_ne.2 (by omega)
  have e2 : decide ((9218868437227405312 : Int) ≤ (bt n : Int) % 9223372036854775808) = false := decide_eq_false (by omega)
  obtain ⟨p1, p2⟩ := pe_bounds h1
  have hl : lr (sz (bt n)) ≤ 53 := by unfold lr; omega
  have z : Hid (0 < sz (bt n) ∧ sz (bt n) < 9218868437227405312) := ⟨h0, h1⟩
  clear hx h0 h1
  go_enter Tryd.func27, Tryd.ntmps27
  go_wp2_with (first | (go_at_call 15; refine (rbits_c _ _ h).mono ?_; rintro e w' ⟨rfl, rfl⟩) | (go_at_call 44; refine (parts_c _ _ h).mono ?_; rintro e w' ⟨rfl, rfl⟩))
  go_loop [7, 8] (fun m e => ∃ i : Nat, i ≤ lr (sz (bt n)) ∧ m = .int .u64 (lm (sz (bt n)) i : Nat) ∧ e = .int .i64 (pe (sz (bt n)) + k - i)) (fun _ e => (intOf e - (pe (sz (bt n)) + k - 60)).toNat)
  case atStart => exact ⟨0, Nat.zero_le _, by unfold lm; go_num, by go_num⟩
  case round =>
    obtain ⟨i, hi, rfl, rfl⟩ := hrel
    by_cases hlt : i < lr (sz (bt n))
    · have a1 : (lm (sz (bt n)) i : Int) < 4503599627370496 := by have := lm_lt i hlt; omega
      go_wp2
      go_round
      case rel => exact ⟨i + 1, by omega, by rw [lm_succ]; go_num, by go_num⟩
      case measure => simp [intOf]; omega
    · have ei : i = lr (sz (bt n)) := by omega
      subst ei
      have eM : lm (sz (bt n)) (lr (sz (bt n))) = dm (sz (bt n)) := lm_end
      have eE : pe (sz (bt n)) + k - (lr (sz (bt n)) : Int) = -1074 - c := by have := @le_end (sz (bt n)); have := hE.out; omega
      have bM := dm_bounds _ z.out.1
      have m1 : decide ((dm (sz (bt n)) : Int) < 4503599627370496) = false := decide_eq_false (by omega)
      have m2 : decide ((9007199254740992 : Int) ≤ (dm (sz (bt n)) : Int)) = false := decide_eq_false (by omega)
      have m3 : (4503599627370496 : Int) ≤ (dm (sz (bt n)) : Int) := by omega
      have m4 : (dm (sz (bt n)) : Int) < 9007199254740992 := by omega
      clear bM
      have u1 : -1074 - (-1074 - (c : Int)) = c := by omega
      have u2 : -1074 - (c : Int) + c = -1074 := by omega
      go_upto_region 17 with fail
      clear m1 m2 m3 m4
      go_wp2
      go_ret
      exact ⟨ret_float hr.out, rfl⟩
set_option maxHeartbeats 1000000 in
set_option maxRecDepth 100000 in
theorem rscale_C2 (n : Nat) (k : Int) (w : World) (h : n < 18446744073709551616) (k1 : k ≤ 5000) (k2 : -5000 ≤ k) (h0 : 0 < sz (bt n)) (h1 : sz (bt n) < 9218868437227405312)
    (c : Nat) (f1 : 0 < (c : Int)) (f2 : (c : Int) ≤ 60) (f3 : decide (60 < (c : Int)) = false) (hE : Hid (dp (sz (bt n)) + k = -1074 - c)) (P Q : Int) (r1 : (2 : Int) ^ c = P) (r2 : IntKind.u64.wrap P = P) (r0 : ¬ P = 0) (r3 : (dm (sz (bt n)) : Int) / P = Q) (q0 : 0 ≤ Q) (q1 : Q < 4503599627370496) (P0 : 0 ≤ P) (P1 : P ≤ 1152921504606846976) (s1 : decide (P / 2 < (dm (sz (bt n)) : Int) % P) = false) (s2 : ((dm (sz (bt n)) : Int) % P == P / 2) = true) (s3 : (Q % 2 == 1) = false) (t1 : decide (9007199254740992 ≤ Q) = false) (t2 : decide (4503599627370496 ≤ Q) = false) (hr : Hid (((bt n : Int) - (bt n : Int) % 9223372036854775808 + Q).toNat = sc n k)) :
    Calls Tryd.prog 27 #[.float .f64 n, .int .i64 k] w fun e w' => e = .returned (.float .f64 (sc n k)) ∧ w = w' := by
  have hb := bt_lt h
  have g1 := run_frombits
  have hx : (sz (bt n) : Int) = (bt n : Int) % 9223372036854775808 := by unfold sz; omega
  have e1 : ((bt n : Int) % 9223372036854775808 == 0) = false := beq_eq_false_iff_ne.2 (by omega)
  have e2 : decide ((9218868437227405312 : Int) ≤ (bt n : Int) % 9223372036854775808) = false := decide_eq_false (by omega)
  obtain ⟨p1, p2⟩ := pe_bounds h1
  have hl : lr (sz (bt n)) ≤ 53 := by unfold lr; omega
  have z : Hid (0 < sz (bt n) ∧ sz (bt n) < 9218868437227405312) := ⟨h0, h1⟩
  clear hx h0 h1
  go_enter Tryd.func27, Tryd.ntmps27
  go_wp2_with (first | (go_at_call 15; refine (rbits_c _ _ h).mono ?_; rintro e w' ⟨rfl, rfl⟩) | (go_at_call 44; refine (parts_c _ _ h).mono ?_; rintro e w' ⟨rfl, rfl⟩))
  go_loop [7, 8] (fun m e => ∃ i : Nat, i ≤ lr (sz (bt n)) ∧ m = .int .u64 (lm (sz (bt n)) i : Nat) ∧ e = .int .i64 (pe (sz (bt n)) + k - i)) (fun _ e => (intOf e - (pe (sz (bt n)) + k - 60)).toNat)
  case atStart => exact ⟨0, Nat.zero_le _, by unfold lm; go_num, by go_num⟩
  case round =>
    obtain ⟨i, hi, rfl, rfl⟩ := hrel
    by_cases hlt : i < lr (sz (bt n))
    · have a1 : (lm (sz (bt n)) i : Int) < 4503599627370496 := by have := lm_lt i hlt; omega
      go_wp2
      go_round
      case rel => exact ⟨i + 1, by omega, by rw [lm_succ]; go_num, by go_num⟩
      case measure => simp [intOf]; omega
    · have ei : i = lr (sz (bt n)) := by omega
      subst ei
      have eM : lm (sz (bt n)) (lr (sz (bt n))) = dm (sz (bt n)) := lm_end
      have eE : pe (sz (bt n)) + k - (lr (sz (bt n)) : Int) = -1074 - c := by have := @le_end (sz (bt n)); have := hE.out; omega
      have bM := dm_bounds _ z.out.1
      have m1 : decide ((dm (sz (bt n)) : Int) < 4503599627370496) = false := decide_eq_false (by omega)
      have m2 : decide ((9007199254740992 : Int) ≤ (dm (sz (bt n)) : Int)) = false := decide_eq_false (by omega)
      have m3 : (4503599627370496 : Int) ≤ (dm (sz (bt n)) : Int) := by omega
      have m4 : (dm (sz (bt n)) : Int) < 9007199254740992 := by omega
      clear bM
      have u1 : -1074 - (-1074 - (c : Int)) = c := by omega
      have u2 : -1074 - (c : Int) + c = -1074 := by omega
      go_upto_region 17 with fail
      clear m1 m2 m3 m4
      go_wp2
      go_ret
      exact ⟨ret_float hr.out, rfl⟩
set_option maxHeartbeats 1000000 in
set_option maxRecDepth 100000 in
theorem rscale_C3 (n : Nat) (k : Int) (w : World) (h : n < 18446744073709551616) (k1 : k ≤ 5000) (k2 : -5000 ≤ k) (h0 : 0 < sz (bt n)) (h1 : sz (bt n) < 9218868437227405312)
    (c : Nat) (f1 : 0 < (c : Int)) (f2 : (c : Int) ≤ 60) (f3 : decide (60 < (c : Int)) = false) (hE : Hid (dp (sz (bt n)) + k = -1074 - c)) (P Q : Int) (r1 : (2 : Int) ^ c = P) (r2 : IntKind.u64.wrap P = P) (r0 : ¬ P = 0) (r3 : (dm (sz (bt n)) : Int) / P = Q) (q0 : 0 ≤ Q) (q1 : Q < 4503599627370496) (P0 : 0 ≤ P) (P1 : P ≤ 1152921504606846976) (s1 : P / 2 < (dm (sz (bt n)) : Int) % P) (t0 : Q + 1 < 4503599627370496) (t1 : decide (9007199254740992 ≤ Q + 1) = false) (t2 : decide (4503599627370496 ≤ Q + 1) = false) (hr : Hid (((bt n : Int) - (bt n : Int) % 9223372036854775808 + (Q + 1)).toNat = sc n k)) :
    Calls Tryd.prog 27 #[.float .f64 n, .int .i64 k] w fun e w' => e = .returned (.float .f64 (sc n k)) ∧ w = w' := by
  have hb := bt_lt h
  have g1 := run_frombits
  have hx : (sz (bt n) : Int) = (bt n : Int) % 9223372036854775808 := by unfold sz; omega
  have e1 : ((bt n : Int) % 9223372036854775808 == 0) = false := beq_eq_false_iff_ne.2 (by omega)
  have e2 : decide ((9218868437227405312 : Int) ≤ (bt n : Int) % 9223372036854775808) = false := decide_eq_false (by omega)
  obtain ⟨p1, p2⟩ := pe_bounds h1
  have hl : lr (sz (bt n)) ≤ 53 := by unfold lr; omega
  have z : Hid (0 < sz (bt n) ∧ sz (bt n) < 9218868437227405312) := ⟨h0, h1⟩
  clear hx h0 h1
  go_enter Tryd.func27, Tryd.ntmps27
  go_wp2_with (first | (go_at_call 15; refine (rbits_c _ _ h).mono ?_; rintro e w' ⟨rfl, rfl⟩) | (go_at_call 44; refine (parts_c _ _ h).mono ?_; rintro e w' ⟨rfl, rfl⟩))
  go_loop [7, 8] (fun m e => ∃ i : Nat, i ≤ lr (sz (bt n)) ∧ m = .int .u64 (lm (sz (bt n)) i : Nat) ∧ e = .int .i64 (pe (sz (bt n)) + k - i)) (fun _ e => (intOf e - (pe (sz (bt n)) + k - 60)).toNat)
  case atStart => exact ⟨0, Nat.zero_le _, by unfold lm; go_num, by go_num⟩
  case round =>
    obtain ⟨i, hi, rfl, rfl⟩ := hrel
    by_cases hlt : i < lr (sz (bt n))
    · have a1 : (lm (sz (bt n)) i : Int) < 4503599627370496 := by have := lm_lt i hlt; omega
      go_wp2
      go_round
      case rel => exact ⟨i + 1, by omega, by rw [lm_succ]; go_num, by go_num⟩
      case measure => simp [intOf]; omega
    · have ei : i = lr (sz (bt n)) := by omega
      subst ei
      have eM : lm (sz (bt n)) (lr (sz (bt n))) = dm (sz (bt n)) := lm_end
      have eE : pe (sz (bt n)) + k - (lr (sz (bt n)) : Int) = -1074 - c := by have := @le_end (sz (bt n)); have := hE.out; omega
      have bM := dm_bounds _ z.out.1
      have m1 : decide ((dm (sz (bt n)) : Int) < 4503599627370496) = false := decide_eq_false (by omega)
      have m2 : decide ((9007199254740992 : Int) ≤ (dm (sz (bt n)) : Int)) = false := decide_eq_false (by omega)
      have m3 : (4503599627370496 : Int) ≤ (dm (sz (bt n)) : Int) := by omega
      have m4 : (dm (sz (bt n)) : Int) < 9007199254740992 := by omega
      clear bM
      have u1 : -1074 - (-1074 - (c : Int)) = c := by omega
      have u2 : -1074 - (c : Int) + c = -1074 := by omega
      go_upto_region 17 with fail
      clear m1 m2 m3 m4
      go_wp2
      go_ret
      exact ⟨ret_float hr.out, rfl⟩
set_option maxHeartbeats 1000000 in
set_option maxRecDepth 100000 in
theorem rscale_C4 (n : Nat) (k : Int) (w : World) (h : n < 18446744073709551616) (k1 : k ≤ 5000) (k2 : -5000 ≤ k) (h0 : 0 < sz (bt n)) (h1 : sz (bt n) < 9218868437227405312)
    (c : Nat) (f1 : 0 < (c : Int)) (f2 : (c : Int) ≤ 60) (f3 : decide (60 < (c : Int)) = false) (hE : Hid (dp (sz (bt n)) + k = -1074 - c)) (P Q : Int) (r1 : (2 : Int) ^ c = P) (r2 : IntKind.u64.wrap P = P) (r0 : ¬ P = 0) (r3 : (dm (sz (bt n)) : Int) / P = Q) (q0 : 0 ≤ Q) (q1 : Q < 4503599627370496) (P0 : 0 ≤ P) (P1 : P ≤ 1152921504606846976) (s1 : decide (P / 2 < (dm (sz (bt n)) : Int) % P) = false) (s2 : ((dm (sz (bt n)) : Int) % P == P / 2) = true) (s3 : (Q % 2 == 1) = true) (t0 : Q + 1 < 4503599627370496) (t1 : decide (9007199254740992 ≤ Q + 1) = false) (t2 : decide (4503599627370496 ≤ Q + 1) = false) (hr : Hid (((bt n : Int) - (bt n : Int) % 9223372036854775808 + (Q + 1)).toNat = sc n k)) :
    Calls Tryd.prog 27 #[.float .f64 n, .int .i64 k] w fun e w' => e = .returned (.float .f64 (sc n k)) ∧ w = w' := by
  have hb := bt_lt h
  have g1 := run_frombits
  have hx : (sz (bt n) : Int) = (bt n : Int) % 9223372036854775808 := by unfold sz; omega
  have e1 : ((bt n : Int) % 9223372036854775808 == 0) = false := beq_eq_false_iff_ne.2 (by omega)
  have e2 : decide ((9218868437227405312 : Int) ≤ (bt n : Int) % 9223372036854775808) = false := decide_eq_false (by omega)
  obtain ⟨p1, p2⟩ := pe_bounds h1
  have hl : lr (sz (bt n)) ≤ 53 := by unfold lr; omega
  have z : Hid (0 < sz (bt n) ∧ sz (bt n) < 9218868437227405312) := ⟨h0, h1⟩
  clear hx h0 h1
  go_enter Tryd.func27, Tryd.ntmps27
  go_wp2_with (first | (go_at_call 15; refine (rbits_c _ _ h).mono ?_; rintro e w' ⟨rfl, rfl⟩) | (go_at_call 44; refine (parts_c _ _ h).mono ?_; rintro e w' ⟨rfl, rfl⟩))
  go_loop [7, 8] (fun m e => ∃ i : Nat, i ≤ lr (sz (bt n)) ∧ m = .int .u64 (lm (sz (bt n)) i : Nat) ∧ e = .int .i64 (pe (sz (bt n)) + k - i)) (fun _ e => (intOf e - (pe (sz (bt n)) + k - 60)).toNat)
  case atStart => exact ⟨0, Nat.zero_le _, by unfold lm; go_num, by go_num⟩
  case round =>
    obtain ⟨i, hi, rfl, rfl⟩ := hrel
    by_cases hlt : i < lr (sz (bt n))
    · have a1 : (lm (sz (bt n)) i : Int) < 4503599627370496 := by have := lm_lt i hlt; omega
      go_wp2
      go_round
      case rel => exact ⟨i + 1, by omega, by rw [lm_succ]; go_num, by go_num⟩
      case measure => simp [intOf]; omega
    · have ei : i = lr (sz (bt n)) := by omega
      subst ei
      have eM : lm (sz (bt n)) (lr (sz (bt n))) = dm (sz (bt n)) := lm_end
      have eE : pe (sz (bt n)) + k - (lr (sz (bt n)) : Int) = -1074 - c := by have := @le_end (sz (bt n)); have := hE.out; omega
      have bM := dm_bounds _ z.out.1
      have m1 : decide ((dm (sz (bt n)) : Int) < 4503599627370496) = false := decide_eq_false (by omega)
      have m2 : decide ((9007199254740992 : Int) ≤ (dm (sz (bt n)) : Int)) = false := decide_eq_false (by omega)
      have m3 : (4503599627370496 : Int) ≤ (dm (sz (bt n)) : Int) := by omega
      have m4 : (dm (sz (bt n)) : Int) < 9007199254740992 := by omega
      clear bM
      have u1 : -1074 - (-1074 - (c : Int)) = c := by omega
      have u2 : -1074 - (c : Int) + c = -1074 := by omega
      go_upto_region 17 with fail
      clear m1 m2 m3 m4
      go_wp2
      go_ret
      exact ⟨ret_float hr.out, rfl⟩
set_option maxHeartbeats 1000000 in
set_option maxRecDepth 100000 in
theorem rscale_C5 (n : Nat) (k : Int) (w : World) (h : n < 18446744073709551616) (k1 : k ≤ 5000) (k2 : -5000 ≤ k) (h0 : 0 < sz (bt n)) (h1 : sz (bt n) < 9218868437227405312)
    (c : Nat) (f1 : 0 < (c : Int)) (f2 : (c : Int) ≤ 60) (f3 : decide (60 < (c : Int)) = false) (hE : Hid (dp (sz (bt n)) + k = -1074 - c)) (P Q : Int) (r1 : (2 : Int) ^ c = P) (r2 : IntKind.u64.wrap P = P) (r0 : ¬ P = 0) (r3 : (dm (sz (bt n)) : Int) / P = Q) (P0 : 0 ≤ P) (P1 : P ≤ 1152921504606846976) (s1 : P / 2 < (dm (sz (bt n)) : Int) % P) (t0 : Q = 4503599627370495) (hr : Hid (bt n - bt n % 9223372036854775808 + 4503599627370496 = sc n k)) :
    Calls Tryd.prog 27 #[.float .f64 n, .int .i64 k] w fun e w' => e = .returned (.float .f64 (sc n k)) ∧ w = w' := by
  have hb := bt_lt h
  have g1 := run_frombits
  have hx : (sz (bt n) : Int) = (bt n : Int) % 9223372036854775808 := by unfold sz; omega
  have e1 : ((bt n : Int) % 9223372036854775808 == 0) = false := beq_eq_false_iff_ne.2 (by omega)
  have e2 : decide ((9218868437227405312 : Int) ≤ (bt n : Int) % 9223372036854775808) = false := decide_eq_false (by omega)
  obtain ⟨p1, p2⟩ := pe_bounds h1
  have hl : lr (sz (bt n)) ≤ 53 := by unfold lr; omega
  have z : Hid (0 < sz (bt n) ∧ sz (bt n) < 9218868437227405312) := ⟨h0, h1⟩
  clear hx h0 h1
  go_enter Tryd.func27, Tryd.ntmps27
  go_wp2_with (first | (go_at_call 15; refine (rbits_c _ _ h).mono ?_; rintro e w' ⟨rfl, rfl⟩) | (go_at_call 44; refine (parts_c _ _ h).mono ?_; rintro e w' ⟨rfl, rfl⟩))
  go_loop [7, 8] (fun m e => ∃ i : Nat, i ≤ lr (sz (bt n)) ∧ m = .int .u64 (lm (sz (bt n)) i : Nat) ∧ e = .int .i64 (pe (sz (bt n)) + k - i)) (fun _ e => (intOf e - (pe (sz (bt n)) + k - 60)).toNat)
  case atStart => exact ⟨0, Nat.zero_le _, by unfold lm; go_num, by go_num⟩
  case round =>
    obtain ⟨i, hi, rfl, rfl⟩ := hrel
    by_cases hlt : i < lr (sz (bt n))
    · have a1 : (lm (sz (bt n)) i : Int) < 4503599627370496 := by have := lm_lt i hlt; omega
      go_wp2
      go_round
      case rel => exact ⟨i + 1, by omega, by rw [lm_succ]; go_num, by go_num⟩
      case measure => simp [intOf]; omega
    · have ei : i = lr (sz (bt n)) := by omega
      subst ei
      have eM : lm (sz (bt n)) (lr (sz (bt n))) = dm (sz (bt n)) := lm_end
      have eE : pe (sz (bt n)) + k - (lr (sz (bt n)) : Int) = -1074 - c := by have := @le_end (sz (bt n)); have := hE.out; omega
      have bM := dm_bounds _ z.out.1
      have m1 : decide ((dm (sz (bt n)) : Int) < 4503599627370496) = false := decide_eq_false (by omega)
      have m2 : decide ((9007199254740992 : Int) ≤ (dm (sz (bt n)) : Int)) = false := decide_eq_false (by omega)
      have m3 : (4503599627370496 : Int) ≤ (dm (sz (bt n)) : Int) := by omega
      have m4 : (dm (sz (bt n)) : Int) < 9007199254740992 := by omega
      clear bM
      have u1 : -1074 - (-1074 - (c : Int)) = c := by omega
      have u2 : -1074 - (c : Int) + c = -1074 := by omega
      go_upto_region 17 with fail
      clear m1 m2 m3 m4
      go_wp2
      go_ret
      exact ⟨ret_float hr.out, rfl⟩
set_option maxHeartbeats 1000000 in
set_option maxRecDepth 100000 in
theorem rscale_C6 (n : Nat) (k : Int) (w : World) (h : n < 18446744073709551616) (k1 : k ≤ 5000) (k2 : -5000 ≤ k) (h0 : 0 < sz (bt n)) (h1 : sz (bt n) < 9218868437227405312)
    (c : Nat) (f1 : 0 < (c : Int)) (f2 : (c : Int) ≤ 60) (f3 : decide (60 < (c : Int)) = false) (hE : Hid (dp (sz (bt n)) + k = -1074 - c)) (P Q : Int) (r1 : (2 : Int) ^ c = P) (r2 : IntKind.u64.wrap P = P) (r0 : ¬ P = 0) (r3 : (dm (sz (bt n)) : Int) / P = Q) (P0 : 0 ≤ P) (P1 : P ≤ 1152921504606846976) (s1 : decide (P / 2 < (dm (sz (bt n)) : Int) % P) = false) (s2 : ((dm (sz (bt n)) : Int) % P == P / 2) = true) (t0 : Q = 4503599627370495) (hr : Hid (bt n - bt n % 9223372036854775808 + 4503599627370496 = sc n k)) :
    Calls Tryd.prog 27 #[.float .f64 n, .int .i64 k] w fun e w' => e = .returned (.float .f64 (sc n k)) ∧ w = w' := by
  have hb := bt_lt h
  have g1 := run_frombits
  have hx : (sz (bt n) : Int) = (bt n : Int) % 9223372036854775808 := by unfold sz; omega
  have e1 : ((bt n : Int) % 9223372036854775808 == 0) = false := beq_eq_false_iff_ne.2 (by omega)
  have e2 : decide ((9218868437227405312 : Int) ≤ (bt n : Int) % 9223372036854775808) = false := decide_eq_false (by omega)
  obtain ⟨p1, p2⟩ := pe_bounds h1
  have hl : lr (sz (bt n)) ≤ 53 := by unfold lr; omega
  have z : Hid (0 < sz (bt n) ∧ sz (bt n) < 9218868437227405312) := ⟨h0, h1⟩
  clear hx h0 h1
  go_enter Tryd.func27, Tryd.ntmps27
  go_wp2_with (first | (go_at_call 15; refine (rbits_c _ _ h).mono ?_; rintro e w' ⟨rfl, rfl⟩) | (go_at_call 44; refine (parts_c _ _ h).mono ?_; rintro e w' ⟨rfl, rfl⟩))
  go_loop [7, 8] (fun m e => ∃ i : Nat, i ≤ lr (sz (bt n)) ∧ m = .int .u64 (lm (sz (bt n)) i : Nat) ∧ e = .int .i64 (pe (sz (bt n)) + k - i)) (fun _ e => (intOf e - (pe (sz (bt n)) + k - 60)).toNat)
  case atStart => exact ⟨0, Nat.zero_le _, by unfold lm; go_num, by go_num⟩
  case round =>
    obtain ⟨i, hi, rfl, rfl⟩ := hrel
    by_cases hlt : i < lr (sz (bt n))
    · have a1 : (lm (sz (bt n)) i : Int) < 4503599627370496 := by have := lm_lt i hlt; omega
      go_wp2
      go_round
      case rel => exact ⟨i + 1, by omega, by rw [lm_succ]; go_num, by go_num⟩
      case measure => simp [intOf]; omega
    · have ei : i = lr (sz (bt n)) := by omega
      subst ei
      have eM : lm (sz (bt n)) (lr (sz (bt n))) = dm (sz (bt n)) := lm_end
      have eE : pe (sz (bt n)) + k - (lr (sz (bt n)) : Int) = -1074 - c := by have := @le_end (sz (bt n)); have := hE.out; omega
      have bM := dm_bounds _ z.out.1
      have m1 : decide ((dm (sz (bt n)) : Int) < 4503599627370496) = false := decide_eq_false (by omega)
      have m2 : decide ((9007199254740992 : Int) ≤ (dm (sz (bt n)) : Int)) = false := decide_eq_false (by omega)
      have m3 : (4503599627370496 : Int) ≤ (dm (sz (bt n)) : Int) := by omega
      have m4 : (dm (sz (bt n)) : Int) < 9007199254740992 := by omega
      clear bM
      have u1 : -1074 - (-1074 - (c : Int)) = c := by omega
      have u2 : -1074 - (c : Int) + c = -1074 := by omega
      go_upto_region 17 with fail
      clear m1 m2 m3 m4
      go_wp2
      go_ret
      exact ⟨ret_float hr.out, rfl⟩
end Go.Proofs.YtabkbhmjblfajaaDoor
