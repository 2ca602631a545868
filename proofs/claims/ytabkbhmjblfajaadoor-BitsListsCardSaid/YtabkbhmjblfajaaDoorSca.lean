/-
  Contracts of bits.halved, bits.compose, bits.Scale, bits.Whole.
-/
import Derived.Test.YtabkbhmjblfajaaDoorDig
namespace Go.Proofs.YtabkbhmjblfajaaDoor
open Flo Go.RowKit
/-- m over 2^s, rounded to the nearest whole number, a half to the even one. -/
def hv (m s : Nat) : Nat := if 53 < s then 0 else if 2 ^ (s - 1) < m % 2 ^ s ∨ (m % 2 ^ s = 2 ^ (s - 1) ∧ m / 2 ^ s % 2 = 1) then m / 2 ^ s + 1 else m / 2 ^ s
theorem pow_le (a b : Nat) (h : a ≤ b) : 2 ^ a ≤ 2 ^ b := Nat.pow_le_pow_right (by omega) h
set_option maxHeartbeats 400000 in
theorem halved_far (m s : Nat) (w : World) (h : 53 < (s : Int)) :
    Calls Tryd.prog 54 #[.int .u64 m, .int .i64 s] w fun e w' => e = .returned (.int .u64 (hv m s : Nat)) ∧ w = w' := by
  go_enter Tryd.func54, Tryd.ntmps54
  go_wp2
  go_ret
  exact ⟨ret_int (by unfold hv; rw [if_pos (by omega)]; rfl), rfl⟩
/-- The raw expressions of the walk, by plain numbers. -/
theorem rawW (s : Nat) (h : s ≤ 53) : IntKind.u64.wrap (2 ^ (s - 1)) = ((2 ^ (s - 1) : Nat) : Int) := by
  have := shl_wrap 1 (s - 1) (by have := pow_le (s - 1) 53 (by omega); omega)
  simpa using this
theorem rawR (m s : Nat) (h0 : 1 ≤ s) (h : s ≤ 53) (hm : m < 18446744073709551616) :
    bits .and .u64 (m : Int) (IntKind.u64.wrap (IntKind.u64.wrap (2 * IntKind.u64.wrap (2 ^ (s - 1))) - 1)) = ((m % 2 ^ s : Nat) : Int) := by
  have hp := pow_le s 53 h
  have h1 : 2 * 2 ^ (s - 1) = 2 ^ s := by rw [← Nat.pow_succ', Nat.succ_eq_add_one, show s - 1 + 1 = s by omega]
  have h2 : 0 < 2 ^ s := Nat.two_pow_pos s
  rw [rawW s h]
  have e1 : IntKind.u64.wrap (2 * ((2 ^ (s - 1) : Nat) : Int)) = ((2 ^ s : Nat) : Int) := by rw [IntKind.wrap_u64]; omega
  rw [e1]
  have e2 : IntKind.u64.wrap (((2 ^ s : Nat) : Int) - 1) = ((2 ^ s - 1 : Nat) : Int) := by rw [IntKind.wrap_u64]; omega
  rw [e2, u64_and_nat m (2 ^ s - 1) hm (by omega), Nat.and_two_pow_sub_one_eq_mod]
theorem rawB (m s : Nat) (hm : m < 18446744073709551616) : bits .and .u64 ((m : Int) / 2 ^ s) 1 = ((m / 2 ^ s % 2 : Nat) : Int) := by
  have e : (m : Int) / 2 ^ s = ((m / 2 ^ s : Nat) : Int) := by simp
  have hl := Nat.div_le_self m (2 ^ s)
  rw [e]
  refine (u64_and_nat (m / 2 ^ s) 1 (by omega) (by decide)).trans ?_
  rw [Nat.and_one_is_mod]
theorem rawU (m s : Nat) (hm : m < 9007199254740992) : IntKind.u64.wrap ((m : Int) / 2 ^ s + 1) = ((m / 2 ^ s + 1 : Nat) : Int) := by
  have e : (m : Int) / 2 ^ s = ((m / 2 ^ s : Nat) : Int) := by simp
  have hl := Nat.div_le_self m (2 ^ s)
  rw [e, IntKind.wrap_u64]
  generalize m / 2 ^ s = c at *
  omega
theorem rawH (m s : Nat) (h0 : 1 ≤ s) (h : s ≤ 53) (hm : m < 9007199254740992) : ((hv m s : Nat) : Int) =
    if IntKind.u64.wrap (2 ^ (s - 1)) < bits .and .u64 (m : Int) (IntKind.u64.wrap (IntKind.u64.wrap (2 * IntKind.u64.wrap (2 ^ (s - 1))) - 1)) ∨ (bits .and .u64 (m : Int) (IntKind.u64.wrap (IntKind.u64.wrap (2 * IntKind.u64.wrap (2 ^ (s - 1))) - 1)) = IntKind.u64.wrap (2 ^ (s - 1)) ∧ bits .and .u64 ((m : Int) / 2 ^ s) 1 = 1)
    then IntKind.u64.wrap ((m : Int) / 2 ^ s + 1) else (m : Int) / 2 ^ s := by
  rw [rawR m s h0 h (by omega), rawW s h, rawB m s (by omega), rawU m s hm]
  have e : (m : Int) / 2 ^ s = ((m / 2 ^ s : Nat) : Int) := by simp
  rw [e]
  unfold hv
  rw [if_neg (by omega)]
  generalize 2 ^ (s - 1) = a
  generalize m % 2 ^ s = b
  generalize m / 2 ^ s = c
  by_cases hc : a < b ∨ (b = a ∧ c % 2 = 1)
  · rw [if_pos hc, if_pos (by omega)]
  · rw [if_neg hc, if_neg (by omega)]
set_option maxHeartbeats 400000 in
theorem halved_near (m s : Nat) (w : World) (h0 : 1 ≤ s) (h : (s : Int) ≤ 53) (hm : m < 9007199254740992) :
    Calls Tryd.prog 54 #[.int .u64 m, .int .i64 s] w fun e w' => e = .returned (.int .u64 (hv m s : Nat)) ∧ w = w' := by
  have h53 : decide ((53 : Int) < (s : Int)) = false := decide_eq_false (by omega)
  have hr : Hid _ := rawH m s h0 (by omega) hm
  go_enter Tryd.func54, Tryd.ntmps54
  go_wp2
  all_goals go_ret
  all_goals refine ⟨ret_int ?_, rfl⟩
  all_goals rw [hr.out]
  all_goals generalize bits .and .u64 (m : Int) (IntKind.u64.wrap (IntKind.u64.wrap (2 * IntKind.u64.wrap (2 ^ (s - 1))) - 1)) = R at *
  all_goals generalize IntKind.u64.wrap (2 ^ (s - 1)) = W at *
  all_goals generalize bits .and .u64 ((m : Int) / 2 ^ s) 1 = B at *
  all_goals try simp only [beq_iff_eq, beq_eq_false_iff_ne] at *
  all_goals first | rw [if_pos (by omega)] | rw [if_neg (by omega)]
theorem halved_c (m : Nat) (s : Int) (w : World) (h0 : 1 ≤ s) (hm : m < 9007199254740992) :
    Calls Tryd.prog 54 #[.int .u64 m, .int .i64 s] w fun e w' => e = .returned (.int .u64 (hv m s.toNat : Nat)) ∧ w = w' := by
  obtain ⟨t, rfl⟩ := Int.eq_ofNat_of_zero_le (by omega : 0 ≤ s)
  by_cases h : (53 : Int) < t
  · exact halved_far m t w h
  · exact halved_near m t w (by omega) (by omega) hm
/-- The size of the float nearest to m x 2^p, m of 53 digits. -/
def cm (m : Nat) (p : Int) : Nat := if 971 < p then 9218868437227405312 else if p < -1074 then hv m (-1074 - p).toNat else (p + 1075).toNat * 4503599627370496 + m % 4503599627370496
set_option maxHeartbeats 400000 in
theorem compose_c (m : Nat) (p : Int) (w : World) (h0 : -10000 ≤ p) (h1 : p ≤ 10000) (hm : m < 9007199254740992) :
    Calls Tryd.prog 53 #[.int .u64 m, .int .i64 p] w fun e w' => e = .returned (.int .u64 (cm m p : Nat)) ∧ w = w' := by
  by_cases c1 : 971 < p
  · have hv1 : Hid (cm m p = 9218868437227405312) := by unfold cm; rw [if_pos c1]; trivial
    go_enter Tryd.func53, Tryd.ntmps53
    go_wp2
    all_goals go_ret
    exact ⟨ret_int (by rw [hv1.out]; rfl), rfl⟩
  · have c1' : decide (971 < p) = false := decide_eq_false c1
    by_cases c2 : p < -1074
    · have hv1 : Hid (cm m p = hv m (-1074 - p).toNat) := by unfold cm; rw [if_neg c1, if_pos c2]; trivial
      clear c1
      go_enter Tryd.func53, Tryd.ntmps53
      go_wp2_with (go_at_call 54; refine (halved_c _ _ _ (by omega) hm).mono ?_; rintro e w' ⟨rfl, rfl⟩)
      all_goals go_ret
      exact ⟨ret_int (by rw [hv1.out]), rfl⟩
    · have c2' : decide (p < -1074) = false := decide_eq_false c2
      have hv1 : Hid (cm m p = (p + 1075).toNat * 4503599627370496 + m % 4503599627370496) := by unfold cm; rw [if_neg c1, if_neg c2]; trivial
      go_enter Tryd.func53, Tryd.ntmps53
      go_wp2
      all_goals go_ret
      refine ⟨ret_int ?_, rfl⟩
      have e : (p + 1023 + 52) * 4503599627370496 = (((p + 1075).toNat * 4503599627370496 : Nat) : Int) := by omega
      rw [hv1.out, and_low52 m (by omega), e, u64_or_nat _ _ (by omega) (by omega), nat_join 52 _ _ (by omega) (by omega)]
theorem hv_le (m s : Nat) (h0 : 1 ≤ s) (hm : m < 9007199254740992) : hv m s ≤ 4503599627370496 := by
  unfold hv
  have h1 : m / 2 ^ s < 4503599627370496 := by
    apply Nat.div_lt_of_lt_mul
    have := pow_le 1 s h0
    omega
  split
  · omega
  · split <;> omega
theorem cm_le (m : Nat) (p : Int) (hm : m < 9007199254740992) : cm m p ≤ 9218868437227405312 := by
  unfold cm
  split
  · omega
  · split
    · have := hv_le m (-1074 - p).toNat (by omega) hm; omega
    · omega
def ck (k : Int) : Int := if k < -2200 then -2200 else if 2200 < k then 2200 else k
/-- A float times 2^k, rounded once. -/
def sc (n : Nat) (k : Int) : Nat := if sz (bt n) = 0 ∨ 9218868437227405312 ≤ sz (bt n) then n else (if bt n < 9223372036854775808 then 0 else 9223372036854775808) + cm (dm (sz (bt n))) (dp (sz (bt n)) + ck k)
theorem or_zero (c : Nat) (h : c < 18446744073709551616) : bits .or .u64 0 (c : Int) = (c : Int) := by
  refine (u64_or_nat 0 c (by decide) h).trans ?_
  simp
theorem or_sign2 (c : Nat) (h : c < 9223372036854775808) : bits .or .u64 9223372036854775808 (c : Int) = ((c + 9223372036854775808 : Nat) : Int) := by
  refine (u64_or_nat 9223372036854775808 c (by decide) (by omega)).trans ?_
  rw [nat_join 63 _ _ (by decide) (by omega)]
  omega
set_option maxHeartbeats 400000 in
theorem scale_z (n : Nat) (k : Int) (w : World) (h : n < 18446744073709551616) (e1 : ((sz (bt n) : Int) == 0) = true) :
    Calls Tryd.prog 26 #[.float .f64 n, .int .i64 k] w fun e w' => e = .returned (.float .f64 n) ∧ w = w' := by
  have hb := bt_lt h
  go_enter Tryd.func26, Tryd.ntmps26
  go_wp2_with (first | (go_at_call 14; refine (bits_c _ _ h).mono ?_; rintro e w' ⟨rfl, rfl⟩) | (go_at_call 42; refine (sizeOf_c _ _ hb).mono ?_; rintro e w' ⟨rfl, rfl⟩))
  go_ret
  exact ⟨rfl, rfl⟩
set_option maxHeartbeats 400000 in
theorem scale_i (n : Nat) (k : Int) (w : World) (h : n < 18446744073709551616) (e1 : ((sz (bt n) : Int) == 0) = false) (e2 : (9218868437227405312 : Int) ≤ (sz (bt n) : Int)) :
    Calls Tryd.prog 26 #[.float .f64 n, .int .i64 k] w fun e w' => e = .returned (.float .f64 n) ∧ w = w' := by
  have hb := bt_lt h
  go_enter Tryd.func26, Tryd.ntmps26
  go_wp2_with (first | (go_at_call 14; refine (bits_c _ _ h).mono ?_; rintro e w' ⟨rfl, rfl⟩) | (go_at_call 42; refine (sizeOf_c _ _ hb).mono ?_; rintro e w' ⟨rfl, rfl⟩))
  go_ret
  exact ⟨rfl, rfl⟩
set_option maxHeartbeats 1000000 in
theorem scale_n (n : Nat) (k : Int) (w : World) (h : n < 18446744073709551616) (h0 : 0 < sz (bt n)) (h1 : sz (bt n) < 9218868437227405312) (k0 : -9223372036854775808 ≤ k) (k1 : k ≤ 9223372036854775807) :
    Calls Tryd.prog 26 #[.float .f64 n, .int .i64 k] w fun e w' => e = .returned (.float .f64 (sc n k)) ∧ w = w' := by
  have hb := bt_lt h
  obtain ⟨b1, b2⟩ := dp_bounds _ h0 h1
  have hm : dm (sz (bt n)) < 9007199254740992 := (dm_bounds _ h0).2
  have e1 : ((sz (bt n) : Int) == 0) = false := beq_eq_false_iff_ne.2 (by omega)
  have e2 : decide ((9218868437227405312 : Int) ≤ (sz (bt n) : Int)) = false := decide_eq_false (by omega)
  have hd : Hid (0 < sz (bt n) ∧ sz (bt n) < 9218868437227405312) := ⟨h0, h1⟩
  have e3 := and_sign (bt n) hb
  have h3 : (k ≤ -2200 ∧ Hid (ck k = -2200)) ∨ (2200 < k ∧ Hid (ck k = 2200)) ∨ (-2200 < k ∧ k ≤ 2200 ∧ Hid (ck k = k)) := by
    unfold Hid ck
    by_cases a : k ≤ -2200
    · exact Or.inl ⟨a, by split <;> (try split) <;> omega⟩
    · by_cases b : 2200 < k
      · exact Or.inr (Or.inl ⟨b, by split <;> (try split) <;> omega⟩)
      · exact Or.inr (Or.inr ⟨by omega, by omega, by split <;> (try split) <;> omega⟩)
  by_cases hb1 : bt n < 9223372036854775808
  · have fin : Hid (∀ c, ck k = c → (bits .or .u64 0 ((cm (dm (sz (bt n))) (dp (sz (bt n)) + c) : Nat) : Int)).toNat = sc n k) := by
      intro c hc
      have hx := cm_le (dm (sz (bt n))) (dp (sz (bt n)) + c) hm
      have hs : sc n k = (if bt n < 9223372036854775808 then 0 else 9223372036854775808) + cm (dm (sz (bt n))) (dp (sz (bt n)) + ck k) := by unfold sc; rw [if_neg (by omega)]
      rw [hs, hc, if_pos hb1, or_zero _ (by omega), Int.toNat_natCast, Nat.zero_add]
    clear h0 h1
    rw [if_pos hb1] at e3
    rcases h3 with ⟨a1, hk⟩ | ⟨a1, hk⟩ | ⟨a1, a2, hk⟩
    all_goals
      go_enter Tryd.func26, Tryd.ntmps26
      go_wp2_with (first | (go_at_call 14; refine (bits_c _ _ h).mono ?_; rintro e w' ⟨rfl, rfl⟩) | (go_at_call 42; refine (sizeOf_c _ _ hb).mono ?_; rintro e w' ⟨rfl, rfl⟩) | (go_at_call 43; refine (digits_c _ _ hd.out.1 hd.out.2).mono ?_; rintro e w' ⟨rfl, rfl⟩) | (go_at_call 53; refine (compose_c _ _ _ (by omega) (by omega) hm).mono ?_; rintro e w' ⟨rfl, rfl⟩) | (go_at_call 17; refine (of_c _ _).mono ?_; rintro e w' ⟨rfl, rfl⟩))
      go_ret
      exact ⟨ret_float (fin.out _ hk.out), rfl⟩
  · have fin : Hid (∀ c, ck k = c → (bits .or .u64 9223372036854775808 ((cm (dm (sz (bt n))) (dp (sz (bt n)) + c) : Nat) : Int)).toNat = sc n k) := by
      intro c hc
      have hx := cm_le (dm (sz (bt n))) (dp (sz (bt n)) + c) hm
      have hs : sc n k = (if bt n < 9223372036854775808 then 0 else 9223372036854775808) + cm (dm (sz (bt n))) (dp (sz (bt n)) + ck k) := by unfold sc; rw [if_neg (by omega)]
      rw [hs, hc, if_neg hb1, or_sign2 _ (by omega), Int.toNat_natCast, Nat.add_comm]
    clear h0 h1
    rw [if_neg hb1] at e3
    rcases h3 with ⟨a1, hk⟩ | ⟨a1, hk⟩ | ⟨a1, a2, hk⟩
    all_goals
      go_enter Tryd.func26, Tryd.ntmps26
      go_wp2_with (first | (go_at_call 14; refine (bits_c _ _ h).mono ?_; rintro e w' ⟨rfl, rfl⟩) | (go_at_call 42; refine (sizeOf_c _ _ hb).mono ?_; rintro e w' ⟨rfl, rfl⟩) | (go_at_call 43; refine (digits_c _ _ hd.out.1 hd.out.2).mono ?_; rintro e w' ⟨rfl, rfl⟩) | (go_at_call 53; refine (compose_c _ _ _ (by omega) (by omega) hm).mono ?_; rintro e w' ⟨rfl, rfl⟩) | (go_at_call 17; refine (of_c _ _).mono ?_; rintro e w' ⟨rfl, rfl⟩))
      go_ret
      exact ⟨ret_float (fin.out _ hk.out), rfl⟩
theorem scale_c (n : Nat) (k : Int) (w : World) (h : n < 18446744073709551616) (k0 : -9223372036854775808 ≤ k) (k1 : k ≤ 9223372036854775807) :
    Calls Tryd.prog 26 #[.float .f64 n, .int .i64 k] w fun e w' => e = .returned (.float .f64 (sc n k)) ∧ w = w' := by
  by_cases hz : sz (bt n) = 0
  · have e : sc n k = n := by unfold sc; rw [if_pos (Or.inl hz)]
    rw [e]
    exact scale_z n k w h (beq_iff_eq.2 (by omega))
  · by_cases hi : 9218868437227405312 ≤ sz (bt n)
    · have e : sc n k = n := by unfold sc; rw [if_pos (Or.inr hi)]
      rw [e]
      exact scale_i n k w h (beq_eq_false_iff_ne.2 (by omega)) (by omega)
    · exact scale_n n k w h (by omega) (by omega) k0 k1
/-- Is a float finite and a whole number? -/
def wh (n : Nat) : Bool := if sz (bt n) = 0 then true else if 9218868437227405312 ≤ sz (bt n) then false else if 0 ≤ dp (sz (bt n)) then true else if dp (sz (bt n)) < -52 then false else decide (dm (sz (bt n)) % 2 ^ (-dp (sz (bt n))).toNat = 0)
set_option maxHeartbeats 400000 in
theorem whole_z (n : Nat) (w : World) (h : n < 18446744073709551616) (e1 : ((sz (bt n) : Int) == 0) = true) :
    Calls Tryd.prog 20 #[.float .f64 n] w fun e w' => e = .returned (.bool true) ∧ w = w' := by
  have hb := bt_lt h
  go_enter Tryd.func20, Tryd.ntmps20
  go_wp2_with (first | (go_at_call 14; refine (bits_c _ _ h).mono ?_; rintro e w' ⟨rfl, rfl⟩) | (go_at_call 42; refine (sizeOf_c _ _ hb).mono ?_; rintro e w' ⟨rfl, rfl⟩))
  go_ret
  exact ⟨rfl, rfl⟩
set_option maxHeartbeats 400000 in
theorem whole_i (n : Nat) (w : World) (h : n < 18446744073709551616) (e1 : ((sz (bt n) : Int) == 0) = false) (e2 : (9218868437227405312 : Int) ≤ (sz (bt n) : Int)) :
    Calls Tryd.prog 20 #[.float .f64 n] w fun e w' => e = .returned (.bool false) ∧ w = w' := by
  have hb := bt_lt h
  go_enter Tryd.func20, Tryd.ntmps20
  go_wp2_with (first | (go_at_call 14; refine (bits_c _ _ h).mono ?_; rintro e w' ⟨rfl, rfl⟩) | (go_at_call 42; refine (sizeOf_c _ _ hb).mono ?_; rintro e w' ⟨rfl, rfl⟩))
  go_ret
  exact ⟨rfl, rfl⟩
theorem rawM (m : Nat) (p : Int) (hp : -52 ≤ p) (hp0 : p < 0) (hm : m < 18446744073709551616) :
    bits .and .u64 (m : Int) (IntKind.u64.wrap (IntKind.u64.wrap (2 ^ (-p).toNat) - 1)) = ((m % 2 ^ (-p).toNat : Nat) : Int) := by
  have hq := pow_le (-p).toNat 52 (by omega)
  have h2 : 0 < 2 ^ (-p).toNat := Nat.two_pow_pos _
  have e0 := shl_wrap 1 (-p).toNat (by omega)
  have e1 : IntKind.u64.wrap (2 ^ (-p).toNat) = ((2 ^ (-p).toNat : Nat) : Int) := by simpa using e0
  have e2 : IntKind.u64.wrap (((2 ^ (-p).toNat : Nat) : Int) - 1) = ((2 ^ (-p).toNat - 1 : Nat) : Int) := by rw [IntKind.wrap_u64]; omega
  rw [e1, e2, u64_and_nat m _ hm (by omega), Nat.and_two_pow_sub_one_eq_mod]
set_option maxHeartbeats 400000 in
theorem whole_n (n : Nat) (w : World) (h : n < 18446744073709551616) (h0 : 0 < sz (bt n)) (h1 : sz (bt n) < 9218868437227405312) :
    Calls Tryd.prog 20 #[.float .f64 n] w fun e w' => e = .returned (.bool (wh n)) ∧ w = w' := by
  have hb := bt_lt h
  obtain ⟨b1, b2⟩ := dp_bounds _ h0 h1
  have hm : dm (sz (bt n)) < 9007199254740992 := (dm_bounds _ h0).2
  have e1 : ((sz (bt n) : Int) == 0) = false := beq_eq_false_iff_ne.2 (by omega)
  have e2 : decide ((9218868437227405312 : Int) ≤ (sz (bt n) : Int)) = false := decide_eq_false (by omega)
  have hd : Hid (0 < sz (bt n) ∧ sz (bt n) < 9218868437227405312) := ⟨h0, h1⟩
  have hw : Hid (wh n = if 0 ≤ dp (sz (bt n)) then true else if dp (sz (bt n)) < -52 then false else decide (dm (sz (bt n)) % 2 ^ (-dp (sz (bt n))).toNat = 0)) := by unfold wh; rw [if_neg (by omega), if_neg (by omega)]; trivial
  clear h0 h1
  go_enter Tryd.func20, Tryd.ntmps20
  go_wp2_with (first | (go_at_call 14; refine (bits_c _ _ h).mono ?_; rintro e w' ⟨rfl, rfl⟩) | (go_at_call 42; refine (sizeOf_c _ _ hb).mono ?_; rintro e w' ⟨rfl, rfl⟩) | (go_at_call 43; refine (digits_c _ _ hd.out.1 hd.out.2).mono ?_; rintro e w' ⟨rfl, rfl⟩))
  all_goals go_ret
  all_goals refine ⟨ret_bool ?_, rfl⟩
  all_goals rw [hw.out]
  · rw [if_pos (by omega)]
  · rw [if_neg (by omega), if_pos (by omega)]
  · rw [if_neg (by omega), if_neg (by omega), rawM _ _ (by omega) (by omega) (by omega)]
    rw [Bool.eq_iff_iff]
    simp only [beq_iff_eq, decide_eq_true_eq]
    omega
theorem whole_c (n : Nat) (w : World) (h : n < 18446744073709551616) :
    Calls Tryd.prog 20 #[.float .f64 n] w fun e w' => e = .returned (.bool (wh n)) ∧ w = w' := by
  by_cases hz : sz (bt n) = 0
  · have e : wh n = true := by unfold wh; rw [if_pos hz]
    rw [e]
    exact whole_z n w h (beq_iff_eq.2 (by omega))
  · by_cases hi : 9218868437227405312 ≤ sz (bt n)
    · have e : wh n = false := by unfold wh; rw [if_neg hz, if_pos hi]
      rw [e]
      exact whole_i n w h (beq_eq_false_iff_ne.2 (by omega)) (by omega)
    · exact whole_n n w h (by omega) (by omega)
end Go.Proofs.YtabkbhmjblfajaaDoor
