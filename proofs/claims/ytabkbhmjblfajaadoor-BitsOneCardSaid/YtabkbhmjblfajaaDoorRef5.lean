/-
  The contract of the document's Scale of layer 1: it is the plain function that bits.Scale was shown to be.
-/
import Derived.Test.YtabkbhmjblfajaaDoorRef4
namespace Go.Proofs.YtabkbhmjblfajaaDoor
open Flo Go.RowKit
set_option maxHeartbeats 400000 in
theorem rscale_z (n : Nat) (k : Int) (w : World) (h : n < 18446744073709551616) (e1 : ((bt n : Int) % 9223372036854775808 == 0) = true) :
    Calls Tryd.prog 27 #[.float .f64 n, .int .i64 k] w fun e w' => e = .returned (.float .f64 n) ∧ w = w' := by
  go_enter Tryd.func27, Tryd.ntmps27
  go_wp2_with (go_at_call 15; refine (rbits_c _ _ h).mono ?_; rintro e w' ⟨rfl, rfl⟩)
  go_ret
  exact ⟨rfl, rfl⟩
set_option maxHeartbeats 400000 in
theorem rscale_i (n : Nat) (k : Int) (w : World) (h : n < 18446744073709551616) (e1 : ((bt n : Int) % 9223372036854775808 == 0) = false) (e2 : (9218868437227405312 : Int) ≤ (bt n : Int) % 9223372036854775808) :
    Calls Tryd.prog 27 #[.float .f64 n, .int .i64 k] w fun e w' => e = .returned (.float .f64 n) ∧ w = w' := by
  go_enter Tryd.func27, Tryd.ntmps27
  go_wp2_with (go_at_call 15; refine (rbits_c _ _ h).mono ?_; rintro e w' ⟨rfl, rfl⟩)
  go_ret
  exact ⟨rfl, rfl⟩
theorem two_pred (c : Nat) (h : 1 ≤ c) : 2 ^ c = 2 * 2 ^ (c - 1) := by
  rw [← Nat.pow_succ', Nat.succ_eq_add_one, show c - 1 + 1 = c by omega]
theorem hv_all (m c : Nat) (h : 1 ≤ c) (hm : m < 9007199254740992) :
    hv m c = if 2 ^ c / 2 < m % 2 ^ c ∨ (m % 2 ^ c = 2 ^ c / 2 ∧ m / 2 ^ c % 2 = 1) then m / 2 ^ c + 1 else m / 2 ^ c := by
  have e := two_pred c h
  have e2 : 2 ^ c / 2 = 2 ^ (c - 1) := by omega
  unfold hv
  rw [e2]
  by_cases h5 : 53 < c
  · rw [if_pos h5]
    have hp := pow_le 53 (c - 1) (by omega)
    have q0 : m / 2 ^ c = 0 := Nat.div_eq_of_lt (by omega)
    have r0 : m % 2 ^ c = m := Nat.mod_eq_of_lt (by omega)
    rw [q0, r0, if_neg (by omega)]
  · rw [if_neg h5]
/-- The sign's part of the bits. -/
theorem sgn_eq (n : Nat) (h : n < 18446744073709551616) : bt n - bt n % 9223372036854775808 = (if bt n < 9223372036854775808 then 0 else 9223372036854775808) := by
  have := bt_lt h
  split <;> omega
theorem sc_eq (n : Nat) (k : Int) (h : n < 18446744073709551616) (h0 : 0 < sz (bt n)) (h1 : sz (bt n) < 9218868437227405312) :
    sc n k = bt n - bt n % 9223372036854775808 + cm (dm (sz (bt n))) (dp (sz (bt n)) + ck k) := by
  unfold sc; rw [if_neg (by omega), sgn_eq n h]
theorem rscale_n (n : Nat) (k : Int) (w : World) (h : n < 18446744073709551616) (h0 : 0 < sz (bt n)) (h1 : sz (bt n) < 9218868437227405312) (k0 : -9223372036854775808 ≤ k) (k9 : k ≤ 9223372036854775807) :
    Calls Tryd.prog 27 #[.float .f64 n, .int .i64 k] w fun e w' => e = .returned (.float .f64 (sc n k)) ∧ w = w' := by
  have hs := sc_eq n k h h0 h1
  obtain ⟨b1, b2⟩ := dp_bounds _ h0 h1
  obtain ⟨m1, m2⟩ := dm_bounds _ h0
  have hA : 971 < dp (sz (bt n)) + ck k → bt n - bt n % 9223372036854775808 + 9218868437227405312 = sc n k := by
    intro hh; rw [hs]; unfold cm; rw [if_pos hh]
  have hD : dp (sz (bt n)) + ck k < -1134 → bt n - bt n % 9223372036854775808 = sc n k := by
    intro hh; rw [hs]; unfold cm; rw [if_neg (by omega), if_pos (by omega)]; unfold hv; rw [if_pos (by omega)]; rfl
  by_cases c1 : k < -5000
  · exact rscale_D1 n k w h c1 h0 h1 (dp (sz (bt n)) + -5000) (by omega) (by omega) rfl (hD (by unfold ck; rw [if_pos (by omega)]; omega))
  by_cases c2 : 5000 < k
  · exact rscale_A2 n k w h k9 c2 h0 h1 (dp (sz (bt n)) + 5000) (by omega) (by omega) rfl (hA (by unfold ck; rw [if_neg (by omega), if_pos (by omega)]; omega))
  by_cases c3 : 971 < dp (sz (bt n)) + k
  · exact rscale_A3 n k w h (by omega) (by omega) h0 h1 (dp (sz (bt n)) + k) c3 (by omega) rfl (hA (by unfold ck; split <;> (try split) <;> omega))
  by_cases c4 : dp (sz (bt n)) + k < -1134
  · exact rscale_D3 n k w h (by omega) (by omega) h0 h1 (dp (sz (bt n)) + k) (by omega) (by omega) rfl (hD (by unfold ck; split <;> (try split) <;> omega))
  have ek : ck k = k := by unfold ck; rw [if_neg (by omega), if_neg (by omega)]
  rw [ek] at hs
  by_cases c5 : -1074 < dp (sz (bt n)) + k
  · refine rscale_B n k w h (by omega) (by omega) h0 h1 (dp (sz (bt n)) + k) c5 (decide_eq_false c3) (by omega) rfl ?_
    unfold Hid
    rw [hs]; unfold cm; rw [if_neg c3, if_neg (by omega)]
    omega
  by_cases c6 : dp (sz (bt n)) + k = -1074
  · refine rscale_B0 n k w h (by omega) (by omega) h0 h1 c6 ?_
    unfold Hid
    rw [hs, c6]; unfold cm; rw [if_neg (by omega), if_neg (by omega)]
    omega
  obtain ⟨c, hc⟩ : ∃ c : Nat, dp (sz (bt n)) + k = -1074 - (c : Int) := ⟨(-1074 - (dp (sz (bt n)) + k)).toNat, by omega⟩
  have hp := pow_le c 60 (by omega)
  have hp2 := pow_le 1 c (by omega)
  have hcm : cm (dm (sz (bt n))) (dp (sz (bt n)) + k) = hv (dm (sz (bt n))) c := by
    unfold cm; rw [if_neg c3, if_pos (by omega)]
    congr 1; omega
  rw [hcm, hv_all _ _ (by omega) m2] at hs
  have hq : dm (sz (bt n)) / 2 ^ c < 4503599627370496 := Nat.div_lt_of_lt_mul (by omega)
  have r1 : (2 : Int) ^ c = ((2 ^ c : Nat) : Int) := by simp
  have r2 : IntKind.u64.wrap ((2 ^ c : Nat) : Int) = ((2 ^ c : Nat) : Int) := by rw [IntKind.wrap_u64]; omega
  have r3 : (dm (sz (bt n)) : Int) / ((2 ^ c : Nat) : Int) = ((dm (sz (bt n)) / 2 ^ c : Nat) : Int) := by simp
  have r4 : (dm (sz (bt n)) : Int) % ((2 ^ c : Nat) : Int) = ((dm (sz (bt n)) % 2 ^ c : Nat) : Int) := by simp
  have r5 : ((2 ^ c : Nat) : Int) / 2 = ((2 ^ c / 2 : Nat) : Int) := by omega
  generalize hR : dm (sz (bt n)) % 2 ^ c = R at *
  generalize hQ : dm (sz (bt n)) / 2 ^ c = Q at *
  generalize hP : 2 ^ c = P at *
  generalize hH : P / 2 = H at *
  have cf1 : 0 < (c : Int) := by omega
  have cf2 : (c : Int) ≤ 60 := by omega
  have cf3 : decide (60 < (c : Int)) = false := decide_eq_false (by omega)
  have B0 : ((bt n - bt n % 9223372036854775808 : Nat) : Int) = (bt n : Int) - (bt n : Int) % 9223372036854775808 := by omega
  by_cases u : H < R ∨ (R = H ∧ Q % 2 = 1)
  · rw [if_pos u] at hs
    by_cases top : Q + 1 < 4503599627370496
    · have t1 : decide ((9007199254740992 : Int) ≤ (Q : Int) + 1) = false := decide_eq_false (by omega)
      have t2 : decide ((4503599627370496 : Int) ≤ (Q : Int) + 1) = false := decide_eq_false (by omega)
      have hr : ((bt n : Int) - (bt n : Int) % 9223372036854775808 + ((Q : Int) + 1)).toNat = sc n k := by rw [hs, ← B0]; omega
      by_cases u1 : H < R
      · exact rscale_C3 n k w h (by omega) (by omega) h0 h1 c cf1 cf2 cf3 hc P Q r1 r2 (by omega) r3 (by omega) (by omega) (by omega) (by omega) (by rw [r4, r5]; omega) (by omega) t1 t2 hr
      · have u2 : R = H ∧ Q % 2 = 1 := by omega
        exact rscale_C4 n k w h (by omega) (by omega) h0 h1 c cf1 cf2 cf3 hc P Q r1 r2 (by omega) r3 (by omega) (by omega) (by omega) (by omega) (by rw [r4, r5]; exact decide_eq_false (by omega)) (by rw [r4, r5]; exact beq_iff_eq.2 (by omega)) (beq_iff_eq.2 (by omega)) (by omega) t1 t2 hr
    · have hr : bt n - bt n % 9223372036854775808 + 4503599627370496 = sc n k := by rw [hs]; omega
      by_cases u1 : H < R
      · exact rscale_C5 n k w h (by omega) (by omega) h0 h1 c cf1 cf2 cf3 hc P Q r1 r2 (by omega) r3 (by omega) (by omega) (by rw [r4, r5]; omega) (by omega) hr
      · have u2 : R = H ∧ Q % 2 = 1 := by omega
        exact rscale_C6 n k w h (by omega) (by omega) h0 h1 c cf1 cf2 cf3 hc P Q r1 r2 (by omega) r3 (by omega) (by omega) (by rw [r4, r5]; exact decide_eq_false (by omega)) (by rw [r4, r5]; exact beq_iff_eq.2 (by omega)) (by omega) hr
  · rw [if_neg u] at hs
    have t1 : decide ((9007199254740992 : Int) ≤ (Q : Int)) = false := decide_eq_false (by omega)
    have t2 : decide ((4503599627370496 : Int) ≤ (Q : Int)) = false := decide_eq_false (by omega)
    have hr : ((bt n : Int) - (bt n : Int) % 9223372036854775808 + (Q : Int)).toNat = sc n k := by rw [hs, ← B0]; omega
    by_cases u1 : R = H
    · exact rscale_C2 n k w h (by omega) (by omega) h0 h1 c cf1 cf2 cf3 hc P Q r1 r2 (by omega) r3 (by omega) (by omega) (by omega) (by omega) (by rw [r4, r5]; exact decide_eq_false (by omega)) (by rw [r4, r5]; exact beq_iff_eq.2 (by omega)) (beq_eq_false_iff_ne.2 (by omega)) t1 t2 hr
    · exact rscale_C1 n k w h (by omega) (by omega) h0 h1 c cf1 cf2 cf3 hc P Q r1 r2 (by omega) r3 (by omega) (by omega) (by omega) (by omega) (by rw [r4, r5]; exact decide_eq_false (by omega)) (by rw [r4, r5]; exact beq_eq_false_iff_ne.2 (by omega)) t1 t2 hr
theorem rscale_c (n : Nat) (k : Int) (w : World) (h : n < 18446744073709551616) (k0 : -9223372036854775808 ≤ k) (k1 : k ≤ 9223372036854775807) :
    Calls Tryd.prog 27 #[.float .f64 n, .int .i64 k] w fun e w' => e = .returned (.float .f64 (sc n k)) ∧ w = w' := by
  have hx : (sz (bt n) : Int) = (bt n : Int) % 9223372036854775808 := by unfold sz; omega
  by_cases hz : sz (bt n) = 0
  · have e : sc n k = n := by unfold sc; rw [if_pos (Or.inl hz)]
    rw [e]
    exact rscale_z n k w h (beq_iff_eq.2 (by omega))
  · by_cases hi : 9218868437227405312 ≤ sz (bt n)
    · have e : sc n k = n := by unfold sc; rw [if_pos (Or.inr hi)]
      rw [e]
      exact rscale_i n k w h (beq_eq_false_iff_ne.2 (by omega)) (by omega)
    · exact rscale_n n k w h (by omega) (by omega) k0 k1
end Go.Proofs.YtabkbhmjblfajaaDoor
