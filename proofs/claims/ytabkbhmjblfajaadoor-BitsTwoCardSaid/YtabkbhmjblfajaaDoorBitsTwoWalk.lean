/-
  The walk of the statement BitsTwo: at all bits it returns true, and nothing that was in memory has turned.
-/
import Derived.Test.YtabkbhmjblfajaaDoorLiv
import Derived.Test.YtabkbhmjblfajaaDoorRef2
import Derived.Test.YtabkbhmjblfajaaDoorNum
import Derived.Test.YtabkbhmjblfajaaDoorLaid
namespace Go.Proofs.YtabkbhmjblfajaaDoor.bitsTwo
open Flo Go.RowKit
set_option maxHeartbeats 1000000 in
theorem walk_ok (a b : Nat) (w : World) (ha : a < 18446744073709551616) (hb : b < 18446744073709551616) (h1 : nanB a = false) (h2 : nanB b = false) :
    Calls Tryd.prog 4 #[.int .u64 a, .int .u64 b] w fun e w' => e = .returned (.bool true) ∧ Below w.heap.size w w' := by
  go_enter Tryd.func4, Tryd.ntmps4
  go_wp2_with (first
    | (go_at_call 9; refine (lives_c _).mono ?_; rintro e w' ⟨rfl, rfl⟩)
    | (go_at_call 10; refine (lof_c _ _).mono ?_; rintro e w' ⟨rfl, rfl⟩)
    | (go_at_call 28; refine (apart_c _ _ _ (by assumption) (by assumption) h1 h2).mono ?_; rintro e w' ⟨rfl, rfl⟩)
    | (go_at_call 29; refine (rapart_c _ _ _ (by assumption) (by assumption) h1 h2).mono ?_; rintro e w' ⟨rfl, rfl⟩)
    | (go_at_call 13; refine (num_nil _).mono ?_; rintro e w' ⟨rfl, rfl⟩)
    | (go_at_call 30; refine (same_c _ _ _ (by assumption) (by assumption)).mono ?_; rintro e w' ⟨rfl, rfl⟩)
    | (go_at_call 31; refine (rsame_c _ _ _ (by assumption) (by assumption)).mono ?_; rintro e w' ⟨rfl, rfl⟩)
    | (go_at_call 32; refine (compare_c _ _ _ (by assumption) (by assumption)).mono ?_; rintro e w' ⟨rfl, rfl⟩)
    | (go_at_call 33; refine (rcompare_c _ _ _ (by assumption) (by assumption)).mono ?_; rintro e w' ⟨rfl, rfl⟩))
  go_ret
  exact ⟨rfl, Below.refl _ _⟩
set_option maxHeartbeats 1000000 in
theorem walk_n1 (a b : Nat) (w : World) (al : List Addr) (he : Errs w al) (ha : a < 18446744073709551616) (hb : b < 18446744073709551616) (h1 : nanB a = true) :
    Calls Tryd.prog 4 #[.int .u64 a, .int .u64 b] w fun e w' => e = .returned (.bool true) ∧ Below w.heap.size w w' := by
  have hv : w.cell? ⟨0, 0, none⟩ = some (ek al 12) := errNumber_cell he
  have hz : Hid (Errs w.drew al) := he.below ((Below.refl _ _).drew)
  clear he
  go_enter Tryd.func4, Tryd.ntmps4
  go_wp2_with (first
    | (go_at_call 9; refine (lives_c _).mono ?_; rintro e w' ⟨rfl, rfl⟩)
    | (go_at_call 10; refine (lof_c _ _).mono ?_; rintro e w' ⟨rfl, rfl⟩)
    | (go_at_call 28; refine (apart_nan _ _ _ _ (by assumption) hv h1).mono ?_; rintro e w' ⟨rfl, rfl⟩)
    | (go_at_call 29; refine (rapart_n1 _ _ _ (by assumption) (by assumption) h1).mono ?_; rintro e w' ⟨rfl, rfl⟩)
    | (go_at_call 13; refine (num_err al 12 (by decide) _ hz.out).mono ?_; rintro e w1 ⟨rfl, hb1⟩)
    | (go_at_call 30; refine (same_c _ _ _ (by assumption) (by assumption)).mono ?_; rintro e w' ⟨rfl, rfl⟩)
    | (go_at_call 31; refine (rsame_c _ _ _ (by assumption) (by assumption)).mono ?_; rintro e w' ⟨rfl, rfl⟩)
    | (go_at_call 32; refine (compare_c _ _ _ (by assumption) (by assumption)).mono ?_; rintro e w' ⟨rfl, rfl⟩)
    | (go_at_call 33; refine (rcompare_c _ _ _ (by assumption) (by assumption)).mono ?_; rintro e w' ⟨rfl, rfl⟩))
  go_ret
  exact ⟨rfl, ((Below.refl _ _).drew).trans hb1⟩
set_option maxHeartbeats 1000000 in
theorem walk_n2 (a b : Nat) (w : World) (al : List Addr) (he : Errs w al) (ha : a < 18446744073709551616) (hb : b < 18446744073709551616) (h1 : nanB a = false) (h2 : nanB b = true) :
    Calls Tryd.prog 4 #[.int .u64 a, .int .u64 b] w fun e w' => e = .returned (.bool true) ∧ Below w.heap.size w w' := by
  have hv : w.cell? ⟨0, 0, none⟩ = some (ek al 12) := errNumber_cell he
  have hz : Hid (Errs w.drew al) := he.below ((Below.refl _ _).drew)
  clear he
  go_enter Tryd.func4, Tryd.ntmps4
  go_wp2_with (first
    | (go_at_call 9; refine (lives_c _).mono ?_; rintro e w' ⟨rfl, rfl⟩)
    | (go_at_call 10; refine (lof_c _ _).mono ?_; rintro e w' ⟨rfl, rfl⟩)
    | (go_at_call 28; refine (apart_nan2 _ _ _ _ (by assumption) (by assumption) hv h1 h2).mono ?_; rintro e w' ⟨rfl, rfl⟩)
    | (go_at_call 29; refine (rapart_n2 _ _ _ (by assumption) (by assumption) h1 h2).mono ?_; rintro e w' ⟨rfl, rfl⟩)
    | (go_at_call 13; refine (num_err al 12 (by decide) _ hz.out).mono ?_; rintro e w1 ⟨rfl, hb1⟩)
    | (go_at_call 30; refine (same_c _ _ _ (by assumption) (by assumption)).mono ?_; rintro e w' ⟨rfl, rfl⟩)
    | (go_at_call 31; refine (rsame_c _ _ _ (by assumption) (by assumption)).mono ?_; rintro e w' ⟨rfl, rfl⟩)
    | (go_at_call 32; refine (compare_c _ _ _ (by assumption) (by assumption)).mono ?_; rintro e w' ⟨rfl, rfl⟩)
    | (go_at_call 33; refine (rcompare_c _ _ _ (by assumption) (by assumption)).mono ?_; rintro e w' ⟨rfl, rfl⟩))
  go_ret
  exact ⟨rfl, ((Below.refl _ _).drew).trans hb1⟩
theorem walk (x0 x1 : Int) (w : World) (l0 : 0 ≤ x0) (u0 : x0 ≤ 18446744073709551615) (l1 : 0 ≤ x1) (u1 : x1 ≤ 18446744073709551615) (hL : laidMetH Tryd.prog Rows.bitsTwoRow.laid w) :
    Calls Tryd.prog 4 #[.int .u64 x0, .int .u64 x1] w fun e w' => e = .returned (.bool true) ∧ Below w.heap.size w w' := by
  obtain ⟨a, rfl⟩ := Int.eq_ofNat_of_zero_le l0
  obtain ⟨b, rfl⟩ := Int.eq_ofNat_of_zero_le l1
  obtain ⟨al, he⟩ := errs_of (W := w) hL
  cases h1 : nanB a
  · cases h2 : nanB b
    · exact walk_ok a b w (by omega) (by omega) h1 h2
    · exact walk_n2 a b w al he (by omega) (by omega) h1 h2
  · exact walk_n1 a b w al he (by omega) (by omega) h1
end Go.Proofs.YtabkbhmjblfajaaDoor.bitsTwo
