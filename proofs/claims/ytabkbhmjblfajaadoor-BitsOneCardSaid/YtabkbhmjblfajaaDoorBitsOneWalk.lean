/-
  The walk of the statement BitsOne: at all bits and every int it returns true, and nothing that was in memory has turned.
-/
import Derived.Test.YtabkbhmjblfajaaDoorLiv
import Derived.Test.YtabkbhmjblfajaaDoorRef5
import Derived.Test.YtabkbhmjblfajaaDoorNum
import Derived.Test.YtabkbhmjblfajaaDoorLaid
namespace Go.Proofs.YtabkbhmjblfajaaDoor.bitsOne
open Flo Go.RowKit
set_option maxHeartbeats 400000 in
theorem lsame_c (a b : Nat) (w : World) (ha : a < 18446744073709551616) (hb : b < 18446744073709551616) :
    Calls Tryd.prog 16 #[.float .f64 a, .float .f64 b] w fun e w' => e = .returned (.bool ((bt a : Int) == (bt b : Int))) ∧ w = w' := by
  go_enter Tryd.func16, Tryd.ntmps16
  go_wp2_with (go_at_call 31; refine (rsame_c _ _ _ (by assumption) (by assumption)).mono ?_; rintro e w' ⟨rfl, rfl⟩)
  go_ret
  exact ⟨rfl, rfl⟩
theorem up_lt {n : Nat} (h : n < 18446744073709551616) : up n < 18446744073709551616 := by
  unfold up
  split
  · exact h
  · have := pl_lt h
    unfold att; split <;> omega
theorem dn_lt {n : Nat} (h : n < 18446744073709551616) : dn n < 18446744073709551616 := by
  unfold dn
  split
  · exact h
  · have := pl_lt h
    unfold att; split <;> omega
theorem sc_lt {n : Nat} (k : Int) (h : n < 18446744073709551616) : sc n k < 18446744073709551616 := by
  unfold sc
  split
  · exact h
  · have h1 := dm_bounds (sz (bt n)) (by omega)
    have h2 := cm_le (dm (sz (bt n))) (dp (sz (bt n)) + ck k) h1.2
    split <;> omega
set_option maxHeartbeats 2000000 in
theorem walk_ok (a : Nat) (k : Int) (w : World) (h0 : Hid (0 < sz (bt a) ∧ sz (bt a) < 9218868437227405312)) (ha : a < 18446744073709551616) (k0 : -9223372036854775808 ≤ k) (k1 : k ≤ 9223372036854775807) :
    Calls Tryd.prog 3 #[.int .u64 a, .int .i64 k] w fun e w' => e = .returned (.bool true) ∧ Below w.heap.size w w' := by
  have u1 := up_lt ha
  have u2 := dn_lt ha
  have u3 := sc_lt k ha
  go_enter Tryd.func3, Tryd.ntmps3
  go_wp2_with (first
    | (go_at_call 9; refine (lives_c _).mono ?_; rintro e w' ⟨rfl, rfl⟩)
    | (go_at_call 10; refine (lof_c _ _).mono ?_; rintro e w' ⟨rfl, rfl⟩)
    | (go_at_call 11; refine (exponent_c _ _ (by assumption) h0.out.1 h0.out.2).mono ?_; rintro e w' ⟨rfl, rfl⟩)
    | (go_at_call 12; refine (rexponent_c _ _ (by assumption) h0.out.1 h0.out.2).mono ?_; rintro e w' ⟨rfl, rfl⟩)
    | (go_at_call 13; refine (num_nil _).mono ?_; rintro e w' ⟨rfl, rfl⟩)
    | (go_at_call 14; refine (bits_c _ _ (by assumption)).mono ?_; rintro e w' ⟨rfl, rfl⟩)
    | (go_at_call 15; refine (rbits_c _ _ (by assumption)).mono ?_; rintro e w' ⟨rfl, rfl⟩)
    | (go_at_call 17; refine (of_c _ _).mono ?_; rintro e w' ⟨rfl, rfl⟩)
    | (go_at_call 16; refine (lsame_c _ _ _ (by assumption) (by assumption)).mono ?_; rintro e w' ⟨rfl, rfl⟩)
    | (go_at_call 18; refine (class_c _ _ (by assumption)).mono ?_; rintro e w' ⟨rfl, rfl⟩)
    | (go_at_call 19; refine (rclass_c _ _ (by assumption)).mono ?_; rintro e w' ⟨rfl, rfl⟩)
    | (go_at_call 20; refine (whole_c _ _ (by assumption)).mono ?_; rintro e w' ⟨rfl, rfl⟩)
    | (go_at_call 21; refine (rwhole_c _ _ (by assumption)).mono ?_; rintro e w' ⟨rfl, rfl⟩)
    | (go_at_call 22; refine (up_c _ _ (by assumption)).mono ?_; rintro e w' ⟨rfl, rfl⟩)
    | (go_at_call 23; refine (rup_c _ _ (by assumption)).mono ?_; rintro e w' ⟨rfl, rfl⟩)
    | (go_at_call 24; refine (dn_c _ _ (by assumption)).mono ?_; rintro e w' ⟨rfl, rfl⟩)
    | (go_at_call 25; refine (rdn_c _ _ (by assumption)).mono ?_; rintro e w' ⟨rfl, rfl⟩)
    | (go_at_call 26; refine (scale_c _ _ _ (by assumption) (by assumption) (by assumption)).mono ?_; rintro e w' ⟨rfl, rfl⟩)
    | (go_at_call 27; refine (rscale_c _ _ _ (by assumption) (by assumption) (by assumption)).mono ?_; rintro e w' ⟨rfl, rfl⟩))
  go_ret
  exact ⟨rfl, Below.refl _ _⟩
set_option maxHeartbeats 2000000 in
theorem walk_no (a : Nat) (k : Int) (w : World) (al : List Addr) (he : Errs w al) (h0 : Hid (sz (bt a) = 0 ∨ 9218868437227405312 ≤ sz (bt a))) (ha : a < 18446744073709551616) (k0 : -9223372036854775808 ≤ k) (k1 : k ≤ 9223372036854775807) :
    Calls Tryd.prog 3 #[.int .u64 a, .int .i64 k] w fun e w' => e = .returned (.bool true) ∧ Below w.heap.size w w' := by
  have u1 := up_lt ha
  have u2 := dn_lt ha
  have u3 := sc_lt k ha
  have hv : w.cell? ⟨0, 0, none⟩ = some (ek al 12) := errNumber_cell he
  have hz : Hid (Errs w.drew al) := he.below ((Below.refl _ _).drew)
  clear he
  go_enter Tryd.func3, Tryd.ntmps3
  go_wp2_with (first
    | (go_at_call 9; refine (lives_c _).mono ?_; rintro e w' ⟨rfl, rfl⟩)
    | (go_at_call 10; refine (lof_c _ _).mono ?_; rintro e w' ⟨rfl, rfl⟩)
    | (go_at_call 11; refine (exponent_no _ _ _ (by assumption) hv h0.out).mono ?_; rintro e w' ⟨rfl, rfl⟩)
    | (go_at_call 12; refine (rexponent_no _ _ (by assumption) h0.out).mono ?_; rintro e w' ⟨rfl, rfl⟩)
    | (go_at_call 13; refine (num_err al 12 (by decide) _ hz.out).mono ?_; rintro e w1 ⟨rfl, hb1⟩)
    | (go_at_call 14; refine (bits_c _ _ (by assumption)).mono ?_; rintro e w' ⟨rfl, rfl⟩)
    | (go_at_call 15; refine (rbits_c _ _ (by assumption)).mono ?_; rintro e w' ⟨rfl, rfl⟩)
    | (go_at_call 17; refine (of_c _ _).mono ?_; rintro e w' ⟨rfl, rfl⟩)
    | (go_at_call 16; refine (lsame_c _ _ _ (by assumption) (by assumption)).mono ?_; rintro e w' ⟨rfl, rfl⟩)
    | (go_at_call 18; refine (class_c _ _ (by assumption)).mono ?_; rintro e w' ⟨rfl, rfl⟩)
    | (go_at_call 19; refine (rclass_c _ _ (by assumption)).mono ?_; rintro e w' ⟨rfl, rfl⟩)
    | (go_at_call 20; refine (whole_c _ _ (by assumption)).mono ?_; rintro e w' ⟨rfl, rfl⟩)
    | (go_at_call 21; refine (rwhole_c _ _ (by assumption)).mono ?_; rintro e w' ⟨rfl, rfl⟩)
    | (go_at_call 22; refine (up_c _ _ (by assumption)).mono ?_; rintro e w' ⟨rfl, rfl⟩)
    | (go_at_call 23; refine (rup_c _ _ (by assumption)).mono ?_; rintro e w' ⟨rfl, rfl⟩)
    | (go_at_call 24; refine (dn_c _ _ (by assumption)).mono ?_; rintro e w' ⟨rfl, rfl⟩)
    | (go_at_call 25; refine (rdn_c _ _ (by assumption)).mono ?_; rintro e w' ⟨rfl, rfl⟩)
    | (go_at_call 26; refine (scale_c _ _ _ (by assumption) (by assumption) (by assumption)).mono ?_; rintro e w' ⟨rfl, rfl⟩)
    | (go_at_call 27; refine (rscale_c _ _ _ (by assumption) (by assumption) (by assumption)).mono ?_; rintro e w' ⟨rfl, rfl⟩))
  go_ret
  exact ⟨rfl, ((Below.refl _ _).drew).trans hb1⟩
theorem walk (x0 x1 : Int) (w : World) (l0 : 0 ≤ x0) (u0 : x0 ≤ 18446744073709551615) (l1 : -9223372036854775808 ≤ x1) (u1 : x1 ≤ 9223372036854775807) (hL : laidMetH Tryd.prog Rows.bitsOneRow.laid w) :
    Calls Tryd.prog 3 #[.int .u64 x0, .int .i64 x1] w fun e w' => e = .returned (.bool true) ∧ Below w.heap.size w w' := by
  obtain ⟨a, rfl⟩ := Int.eq_ofNat_of_zero_le l0
  obtain ⟨al, he⟩ := errs_of (W := w) hL
  by_cases h : sz (bt a) = 0 ∨ 9218868437227405312 ≤ sz (bt a)
  · exact walk_no a x1 w al he h (by omega) l1 u1
  · exact walk_ok a x1 w ⟨by omega, by omega⟩ (by omega) l1 u1
end Go.Proofs.YtabkbhmjblfajaaDoor.bitsOne
