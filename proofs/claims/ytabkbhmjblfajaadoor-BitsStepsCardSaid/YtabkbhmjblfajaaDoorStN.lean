/-
  The walk of the statement BitsSteps where no float is a NaN.
-/
import Derived.Test.YtabkbhmjblfajaaDoorStG
import Derived.Outline
namespace Go.Proofs.YtabkbhmjblfajaaDoor.bitsSteps
open Flo Go.RowKit
set_option maxHeartbeats 4000000 in
theorem walk_n (a b c n : Nat) (w : World) (ha : a < 18446744073709551616) (hb : b < 18446744073709551616) (hc : c < 18446744073709551616) (hn : nanB a = false) (nr : Near a) (hnn : n < 18446744073709551616) (ng : nanB b = false) (nh : nanB c = false) (fe : (decide ((n : Int) % 64 < ((ap (upk a (n % 64)) a : Nat) : Int)) = false ∧ (FloatKind.f64.format.order (upk a (n % 64)) 9218868437227405312 == some Ordering.lt) = true ∧ (((ap (upk a (n % 64)) a : Nat) : Int) == (n : Int) % 64) = true) ∨ (decide ((n : Int) % 64 < ((ap (upk a (n % 64)) a : Nat) : Int)) = false ∧ (FloatKind.f64.format.order (upk a (n % 64)) 9218868437227405312 == some Ordering.lt) = false)) :
    Calls Tryd.prog 8 #[.int .u64 a, .int .u64 b, .int .u64 c, .int .u64 n] w fun e w' => e = .returned (.bool true) ∧ w = w' := by
  have a1 : (FloatKind.f64.format.order a a != some Ordering.eq) = false := (ne_self a ha).trans hn
  have b1 : (FloatKind.f64.format.order b b != some Ordering.eq) = false := (ne_self b hb).trans ng
  have b2 : (FloatKind.f64.format.order c c != some Ordering.eq) = false := (ne_self c hc).trans nh
  rcases nr with ⟨h1, h2, d1, d2, d3⟩ | ⟨h1, h2, u1, u2, u3, u4, u5⟩ | ⟨h1, h2, ⟨d1, d2, d3⟩, u1, u2, u3, u4, u5⟩
  all_goals
    go_enter Tryd.func8, Tryd.ntmps8
    go_wp2_with (first
      | (go_at_call 9; refine (lives_c _).mono ?_; rintro e w' ⟨rfl, rfl⟩)
      | (go_at_call 10; refine (lof_c _ _).mono ?_; rintro e w' ⟨rfl, rfl⟩)
      | (go_at_call 39; first | (refine (inf_p _).mono ?_; rintro e w' ⟨rfl, rfl⟩) | (refine (inf_m _).mono ?_; rintro e w' ⟨rfl, rfl⟩))
      | (go_at_call 22; refine (up_c _ _ (by assumption)).mono ?_; rintro e w' ⟨rfl, rfl⟩)
      | (go_at_call 24; refine (dn_c _ _ (by assumption)).mono ?_; rintro e w' ⟨rfl, rfl⟩)
      | (go_at_call_of 28 (up a); refine (apart_c a (up a) _ ha (by assumption) hn (by assumption)).mono ?_; rintro e w' ⟨rfl, rfl⟩)
      | (go_at_call 30; refine (same_c _ _ _ (by assumption) (by assumption)).mono ?_; rintro e w' ⟨rfl, rfl⟩)
      | (go_at_call 32; refine (compare_c _ _ _ (by assumption) (by assumption)).mono ?_; rintro e w' ⟨rfl, rfl⟩))
    go_loop [18, 20] (fun x k => ∃ i : Nat, i ≤ n % 64 ∧ x = .float .f64 (upk a i) ∧ k = .int .u64 i) (fun _ k => (n % 64 - intOf k).toNat)
    case atStart => exact ⟨0, Nat.zero_le _, rfl, rfl⟩
    case round =>
      obtain ⟨i, hi, rfl, rfl⟩ := hrel
      obtain ⟨k1, k2, k3⟩ := upk_pl ha hn i
      clear k3
      by_cases hlt : i < n % 64
      · have hlt' : (i : Int) < (n : Int) % 64 := by omega
        go_wp2_with (go_at_call 22; refine (up_c _ _ k2).mono ?_; rintro e w' ⟨rfl, rfl⟩)
        go_round
        case rel => exact ⟨i + 1, by omega, rfl, by go_num⟩
        case measure => simp [intOf]; omega
      · have ei : i = n % 64 := by omega
        subst ei
        have hlt' : decide (((n % 64 : Nat) : Int) < (n : Int) % 64) = false := decide_eq_false (by omega)
        have q0 : ((n % 64 : Nat) : Int) = (n : Int) % 64 := by omega
        have z0 : Hid _ := fe
        clear fe
        rcases z0.out with ⟨g1, g2, g3⟩ | ⟨g1, g2⟩
        all_goals
          go_wp2_with (first
            | (go_at_call 28; refine (apart_c (upk a (n % 64)) a _ k2 ha k1 hn).mono ?_; rintro e w' ⟨rfl, rfl⟩)
            | (go_at_call 39; refine (inf_p _).mono ?_; rintro e w' ⟨rfl, rfl⟩)
            | (go_at_call 40; refine (between_c _ _ _ _ ha hb hc hn ng nh).mono ?_; rintro e w' ⟨rfl, rfl⟩))
          go_ret
          exact ⟨rfl, rfl⟩
end Go.Proofs.YtabkbhmjblfajaaDoor.bitsSteps
