/-
  The walk of the statement BitsScales: at all bits and every int it returns true, and nothing that was in memory has turned.
-/
import Derived.Test.YtabkbhmjblfajabDoorLiv
import Derived.Test.YtabkbhmjblfajabDoorScm
import Derived.Test.YtabkbhmjblfajabDoorSgn
import Derived.Test.YtabkbhmjblfajabDoorNum
import Derived.Test.YtabkbhmjblfajabDoorLaid
namespace Go.Proofs.YtabkbhmjblfajabDoor.bitsScales
open Flo Go.RowKit
set_option maxHeartbeats 1000000 in
theorem walk_no (a : Nat) (k : Int) (w : World) (al : List Addr) (he : Errs w al) (h0 : Hid (sz (bt a) = 0 ∨ 9218868437227405312 ≤ sz (bt a))) (ha : a < 18446744073709551616) (k0 : -9223372036854775808 ≤ k) (k1 : k ≤ 9223372036854775807) :
    Calls Tryd.prog 3 #[.int .u64 a, .int .i64 k] w fun e w' => e = .returned (.bool true) ∧ Below w.heap.size w w' := by
  have hv : w.cell? ⟨12, 0, none⟩ = some (ek al 12) := errNumber_cell he
  have hz : Hid (Errs w.drew al) := he.below ((Below.refl _ _).drew)
  have hs : sc a k = a := by unfold sc; rw [if_pos h0.out]
  have n1 := nnil_c al 12
  have n2 := guard_c al 12
  clear he
  go_enter Tryd.func3, Tryd.ntmps3
  go_wp2_with (first
    | (go_at_call 5; refine (lives_c _).mono ?_; rintro e w' ⟨rfl, rfl⟩)
    | (go_at_call 6; refine (lof_c _ _).mono ?_; rintro e w' ⟨rfl, rfl⟩)
    | (go_at_call 7; refine (exponent_no _ _ _ ha hv h0.out).mono ?_; rintro e w' ⟨rfl, rfl⟩)
    | (go_at_call 8; refine (num_err al 12 (by decide) _ hz.out).mono ?_; rintro e w1 ⟨rfl, hb1⟩)
    | (go_at_call 10; refine (scale_c _ _ _ ha k0 k1).mono ?_; rintro e w' ⟨rfl, rfl⟩)
    | (go_at_call 9; refine (same_c _ _ _ ha ha).mono ?_; rintro e w' ⟨rfl, rfl⟩))
  go_ret
  exact ⟨rfl, ((Below.refl _ _).drew).trans hb1⟩
set_option maxHeartbeats 4000000 in
theorem walk_out (a : Nat) (k : Int) (w : World) (h0 : Hid (0 < sz (bt a) ∧ sz (bt a) < 9218868437227405312)) (ha : a < 18446744073709551616) (k0 : -9223372036854775808 ≤ k) (k1 : k ≤ 9223372036854775807) (hc : Sc a)
    (tt : k < -3000 ∨ 3000 < k ∨ (-3000 ≤ k ∧ k ≤ 3000 ∧ decide (k < -3000) = false ∧ decide (3000 < k) = false ∧ (xp a + k < -1022 ∨ (decide (xp a + k < -1022) = false ∧ 1023 < xp a + k) ∨ (decide (xp a + k < -1022) = false ∧ decide (1023 < xp a + k) = false ∧ xp a < -1022)))) :
    Calls Tryd.prog 3 #[.int .u64 a, .int .i64 k] w fun e w' => e = .returned (.bool true) ∧ w = w' := by
  obtain ⟨e1, e2, gn, one, two, sgn, back⟩ := hc
  rcases tt with t1 | t1 | ⟨t1, t2, t3, t4, t5 | ⟨t5, t6⟩ | ⟨t5, t6, t7⟩⟩
  all_goals
    go_enter Tryd.func3, Tryd.ntmps3
    go_wp2_with (first
      | (go_at_call 5; refine (lives_c _).mono ?_; rintro e w' ⟨rfl, rfl⟩)
      | (go_at_call 6; refine (lof_c _ _).mono ?_; rintro e w' ⟨rfl, rfl⟩)
      | (go_at_call 7; refine (exponent_c a _ ha h0.out.1 h0.out.2).mono ?_; rintro e w' ⟨rfl, rfl⟩)
      | (go_at_call 10; refine (scale_c _ _ _ (by assumption) (by omega) (by omega)).mono ?_; rintro e w' ⟨rfl, rfl⟩)
      | (go_at_call 11; refine (abs_c _ _ (by assumption)).mono ?_; rintro e w' ⟨rfl, rfl⟩)
      | (go_at_call 12; refine (signbit_c _ _ (by assumption)).mono ?_; rintro e w' ⟨rfl, rfl⟩)
      | (go_at_call 9; refine (same_c _ _ _ (by assumption) (by assumption)).mono ?_; rintro e w' ⟨rfl, rfl⟩))
    go_ret
    exact ⟨rfl, rfl⟩
set_option maxHeartbeats 4000000 in
theorem walk_in (a : Nat) (k : Int) (w : World) (h0 : Hid (0 < sz (bt a) ∧ sz (bt a) < 9218868437227405312)) (ha : a < 18446744073709551616) (hc : Sc a) (hk : Sk a k) (k2 : -3000 ≤ k) (k3 : k ≤ 3000)
    (t1 : decide (k < -3000) = false) (t2 : decide (3000 < k) = false) (t3 : decide (xp a + k < -1022) = false) (t4 : decide (1023 < xp a + k) = false) (t5 : decide (xp a < -1022) = false) :
    Calls Tryd.prog 3 #[.int .u64 a, .int .i64 k] w fun e w' => e = .returned (.bool true) ∧ w = w' := by
  obtain ⟨e1, e2, gn, one, two, sgn, back⟩ := hc
  obtain ⟨hn, z0, z1, x, hback⟩ := hk
  have z : Hid (0 < sz (bt (sc a k)) ∧ sz (bt (sc a k)) < 9218868437227405312) := ⟨z0, z1⟩
  clear z0 z1
  go_enter Tryd.func3, Tryd.ntmps3
  go_wp2_with (first
      | (go_at_call 5; refine (lives_c _).mono ?_; rintro e w' ⟨rfl, rfl⟩)
      | (go_at_call 6; refine (lof_c _ _).mono ?_; rintro e w' ⟨rfl, rfl⟩)
      | (go_at_call_of 7 (sc a k); refine (exponent_c (sc a k) _ hn z.out.1 z.out.2).mono ?_; rintro e w' ⟨rfl, rfl⟩)
      | (go_at_call 7; refine (exponent_c a _ ha h0.out.1 h0.out.2).mono ?_; rintro e w' ⟨rfl, rfl⟩)
      | (go_at_call 10; refine (scale_c _ _ _ (by assumption) (by omega) (by omega)).mono ?_; rintro e w' ⟨rfl, rfl⟩)
      | (go_at_call 11; refine (abs_c _ _ (by assumption)).mono ?_; rintro e w' ⟨rfl, rfl⟩)
      | (go_at_call 12; refine (signbit_c _ _ (by assumption)).mono ?_; rintro e w' ⟨rfl, rfl⟩)
      | (go_at_call 9; refine (same_c _ _ _ (by assumption) (by assumption)).mono ?_; rintro e w' ⟨rfl, rfl⟩))
  go_ret
  exact ⟨rfl, rfl⟩
theorem walk (x0 x1 : Int) (w : World) (l0 : 0 ≤ x0) (u0 : x0 ≤ 18446744073709551615) (l1 : -9223372036854775808 ≤ x1) (u1 : x1 ≤ 9223372036854775807) (hL : laidMetH Tryd.prog Rows.bitsScalesRow.laid w) :
    Calls Tryd.prog 3 #[.int .u64 x0, .int .i64 x1] w fun e w' => e = .returned (.bool true) ∧ Below w.heap.size w w' := by
  obtain ⟨a, rfl⟩ := Int.eq_ofNat_of_zero_le l0
  obtain ⟨al, he⟩ := errs_of (W := w) hL
  by_cases h : sz (bt a) = 0 ∨ 9218868437227405312 ≤ sz (bt a)
  · exact walk_no a x1 w al he h (by omega) l1 u1
  · have h0 : 0 < sz (bt a) ∧ sz (bt a) < 9218868437227405312 := by omega
    have hc := scs (a := a) (by omega) h0.1 h0.2
    by_cases ht : -3000 ≤ x1 ∧ x1 ≤ 3000 ∧ -1022 ≤ xp a + x1 ∧ xp a + x1 ≤ 1023 ∧ -1022 ≤ xp a
    · obtain ⟨t1, t2, t3, t4, t5⟩ := ht
      refine (walk_in a x1 w h0 (by omega) hc (sks (by omega) h0.1 h0.2 t3 t4 t5) t1 t2 (decide_eq_false (by omega)) (decide_eq_false (by omega)) (decide_eq_false (by omega)) (decide_eq_false (by omega)) (decide_eq_false (by omega))).mono ?_
      rintro e w' ⟨rfl, rfl⟩
      exact ⟨rfl, Below.refl _ _⟩
    · refine (walk_out a x1 w h0 (by omega) l1 u1 hc ?_).mono ?_
      · by_cases c1 : x1 < -3000
        · exact Or.inl c1
        by_cases c2 : 3000 < x1
        · exact Or.inr (Or.inl c2)
        refine Or.inr (Or.inr ⟨by omega, by omega, decide_eq_false c1, decide_eq_false c2, ?_⟩)
        by_cases c3 : xp a + x1 < -1022
        · exact Or.inl c3
        by_cases c4 : 1023 < xp a + x1
        · exact Or.inr (Or.inl ⟨decide_eq_false c3, c4⟩)
        · exact Or.inr (Or.inr ⟨decide_eq_false c3, decide_eq_false c4, by omega⟩)
      · rintro e w' ⟨rfl, rfl⟩
        exact ⟨rfl, Below.refl _ _⟩
end Go.Proofs.YtabkbhmjblfajabDoor.bitsScales
