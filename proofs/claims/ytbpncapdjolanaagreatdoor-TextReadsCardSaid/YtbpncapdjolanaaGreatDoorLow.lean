/-
  Contracts of package bits' plain functions: what each returns at every float, the world as it was.
-/
import Derived.Test.YtbpncapdjolanaaGreatDoorProg
import Derived.Test.YtbpncapdjolanaaGreatDoorWrd
import Derived.WalkLawsBesides
namespace Go.Proofs.YtbpncapdjolanaaGreatDoor
open Flo Go.RowKit

theorem run_frombits (b : Int) (w : World) : (callFunc 14 #[.int .u64 b]).run Tryz.prog w = .ok (.value (.float .f64 b.toNat)) w := by kernel_rfl
theorem run_tobits (b : Nat) (w : World) : (callFunc 31 #[.float .f64 b]).run Tryz.prog w = .ok (.value (.int .u64 b)) w := by kernel_rfl

set_option maxHeartbeats 400000 in
theorem of_c (b : Int) (w : World) :
    Calls Tryz.prog 21 #[.int .u64 b] w fun e w' => e = .returned (.float .f64 b.toNat) ∧ w = w' := by
  have h1 := run_frombits
  go_enter Tryz.func21, Tryz.ntmps21
  go_wp2
  go_ret
  exact ⟨rfl, rfl⟩
set_option maxHeartbeats 400000 in
theorem sizeOf_c (n : Nat) (w : World) (h : n < 18446744073709551616) :
    Calls Tryz.prog 30 #[.int .u64 n] w fun e w' => e = .returned (.int .u64 (sz n : Nat)) ∧ w = w' := by
  go_enter Tryz.func30, Tryz.ntmps30
  go_wp2
  go_ret
  exact ⟨ret_int (andNot_sign n h), rfl⟩
set_option maxHeartbeats 400000 in
theorem bits_c (n : Nat) (w : World) (h : n < 18446744073709551616) :
    Calls Tryz.prog 16 #[.float .f64 n] w fun e w' => e = .returned (.int .u64 (bt n : Nat)) ∧ w = w' := by
  have h2 := run_tobits
  go_enter Tryz.func16, Tryz.ntmps16
  go_wp2_with (go_at_call 30; refine (sizeOf_c _ _ h).mono ?_; rintro e w' ⟨rfl, rfl⟩)
  all_goals go_ret
  · exact ⟨ret_int (by unfold sz at *; unfold bt; rw [if_pos (by omega)]; rfl), rfl⟩
  · exact ⟨ret_int (by unfold sz at *; unfold bt; rw [if_neg (by omega)]), rfl⟩

set_option maxRecDepth 100000 in
set_option maxHeartbeats 400000 in
theorem classAbove_c (b : Nat) (w : World) :
    Calls Tryz.prog 29 #[.int .u64 b] w fun e w' => e = .returned (.int .i64 (cab b)) ∧ w = w' := by
  by_cases h1 : b = 0
  · have hv : Hid (5 = cab b) := by unfold cab; rw [if_pos h1]; trivial
    have h1' : ((b : Int) == 0) = true := by rw [h1]; rfl
    clear h1
    go_enter Tryz.func29, Tryz.ntmps29
    go_wp2
    all_goals go_ret
    exact ⟨ret_int hv.out, rfl⟩
  by_cases h2 : b < 4503599627370496
  · have hv : Hid (6 = cab b) := by unfold cab; rw [if_neg h1]; rw [if_pos h2]; trivial
    have h2' : (b : Int) < 4503599627370496 := by omega
    have h1' : ((b : Int) == 0) = false := beq_eq_false_iff_ne.2 (by omega)
    go_enter Tryz.func29, Tryz.ntmps29
    go_wp2
    all_goals go_ret
    exact ⟨ret_int hv.out, rfl⟩
  by_cases h3 : b < 9218868437227405312
  · have hv : Hid (7 = cab b) := by unfold cab; rw [if_neg h1]; rw [if_neg h2]; rw [if_pos h3]; trivial
    have h3' : (b : Int) < 9218868437227405312 := by omega
    have h1' : ((b : Int) == 0) = false := beq_eq_false_iff_ne.2 (by omega)
    have h2' : ¬ (b : Int) < 4503599627370496 := by omega
    go_enter Tryz.func29, Tryz.ntmps29
    go_wp2
    all_goals go_ret
    exact ⟨ret_int hv.out, rfl⟩
  by_cases h4 : b = 9218868437227405312
  · have hv : Hid (8 = cab b) := by unfold cab; rw [if_neg h1]; rw [if_neg h2]; rw [if_neg h3]; rw [if_pos h4]; trivial
    have h4' : ((b : Int) == 9218868437227405312) = true := by rw [h4]; rfl
    have h1' : ((b : Int) == 0) = false := beq_eq_false_iff_ne.2 (by omega)
    have h2' : ¬ (b : Int) < 4503599627370496 := by omega
    have h3' : ¬ (b : Int) < 9218868437227405312 := by omega
    clear h4
    go_enter Tryz.func29, Tryz.ntmps29
    go_wp2
    all_goals go_ret
    exact ⟨ret_int hv.out, rfl⟩
  have hv : Hid (9 = cab b) := by unfold cab; rw [if_neg h1]; rw [if_neg h2]; rw [if_neg h3]; rw [if_neg h4]; rfl
  have h1' : ((b : Int) == 0) = false := beq_eq_false_iff_ne.2 (by omega)
  have h2' : ¬ (b : Int) < 4503599627370496 := by omega
  have h3' : ¬ (b : Int) < 9218868437227405312 := by omega
  have h4' : ((b : Int) == 9218868437227405312) = false := beq_eq_false_iff_ne.2 (by omega)
  go_enter Tryz.func29, Tryz.ntmps29
  go_wp2
  all_goals go_ret
  exact ⟨ret_int hv.out, rfl⟩
set_option maxHeartbeats 400000 in
theorem class_c (n : Nat) (w : World) (h : n < 18446744073709551616) :
    Calls Tryz.prog 15 #[.float .f64 n] w fun e w' => e = .returned (.int .i64 (cls n)) ∧ w = w' := by
  have hb := bt_lt h
  have e1 := and_sign (bt n) hb
  have h3 : 5 ≤ cab (sz (bt n)) ∧ cab (sz (bt n)) ≤ 9 := by unfold cab; split <;> (try split) <;> (try split) <;> (try split) <;> omega
  obtain ⟨h3, h4⟩ := h3
  by_cases hc : bt n < 9223372036854775808
  · rw [if_pos hc] at e1
    go_enter Tryz.func15, Tryz.ntmps15
    go_wp2_with (first | (go_at_call 16; refine (bits_c _ _ (by assumption)).mono ?_; rintro e w' ⟨rfl, rfl⟩) | (go_at_call 29; refine (classAbove_c _ _).mono ?_; rintro e w' ⟨rfl, rfl⟩))
    all_goals go_ret
    exact ⟨ret_int (by unfold cls; rw [if_pos hc]), rfl⟩
  · rw [if_neg hc] at e1
    go_enter Tryz.func15, Tryz.ntmps15
    go_wp2_with (first | (go_at_call 16; refine (bits_c _ _ (by assumption)).mono ?_; rintro e w' ⟨rfl, rfl⟩) | (go_at_call 30; refine (sizeOf_c _ _ hb).mono ?_; rintro e w' ⟨rfl, rfl⟩) | (go_at_call 29; refine (classAbove_c _ _).mono ?_; rintro e w' ⟨rfl, rfl⟩))
    all_goals go_ret
    exact ⟨ret_int (by unfold cls; rw [if_neg hc]; unfold sz; omega), rfl⟩
end Go.Proofs.YtbpncapdjolanaaGreatDoor
