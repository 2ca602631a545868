/-
  Contracts of package bits' plain functions: what each returns at every float, the world as it was.
-/
import Derived.Test.YtmfnjmgdindlaaaProg
import Derived.Test.YtmfnjmgdindlaaaWrd
import Derived.WalkLawsBesides
namespace Go.Proofs.Ytmfnjmgdindlaaa
open Flo Go.RowKit

theorem run_frombits (b : Int) (w : World) : (callFunc 41 #[.int .u64 b]).run Try.prog w = .ok (.value (.float .f64 b.toNat)) w := by kernel_rfl
theorem run_tobits (b : Nat) (w : World) : (callFunc 49 #[.float .f64 b]).run Try.prog w = .ok (.value (.int .u64 b)) w := by kernel_rfl

set_option maxHeartbeats 400000 in
theorem of_c (b : Int) (w : World) :
    Calls Try.prog 29 #[.int .u64 b] w fun e w' => e = .returned (.float .f64 b.toNat) ∧ w = w' := by
  have h1 := run_frombits
  go_enter Try.func29, Try.ntmps29
  go_wp2
  go_ret
  exact ⟨rfl, rfl⟩
set_option maxHeartbeats 400000 in
theorem sizeOf_c (n : Nat) (w : World) (h : n < 18446744073709551616) :
    Calls Try.prog 55 #[.int .u64 n] w fun e w' => e = .returned (.int .u64 (sz n : Nat)) ∧ w = w' := by
  go_enter Try.func55, Try.ntmps55
  go_wp2
  go_ret
  exact ⟨ret_int (andNot_sign n h), rfl⟩
set_option maxHeartbeats 400000 in
theorem bits_c (n : Nat) (w : World) (h : n < 18446744073709551616) :
    Calls Try.prog 44 #[.float .f64 n] w fun e w' => e = .returned (.int .u64 (bt n : Nat)) ∧ w = w' := by
  have h2 := run_tobits
  go_enter Try.func44, Try.ntmps44
  go_wp2_with (go_at_call 55; refine (sizeOf_c _ _ h).mono ?_; rintro e w' ⟨rfl, rfl⟩)
  all_goals go_ret
  · exact ⟨ret_int (by unfold sz at *; unfold bt; rw [if_pos (by omega)]; rfl), rfl⟩
  · exact ⟨ret_int (by unfold sz at *; unfold bt; rw [if_neg (by omega)]), rfl⟩

set_option maxRecDepth 100000 in
set_option maxHeartbeats 400000 in
theorem classAbove_c (b : Nat) (w : World) :
    Calls Try.prog 54 #[.int .u64 b] w fun e w' => e = .returned (.int .i64 (cab b)) ∧ w = w' := by
  by_cases h1 : b = 0
  · have hv : Hid (5 = cab b) := by unfold cab; rw [if_pos h1]; trivial
    have h1' : ((b : Int) == 0) = true := by rw [h1]; rfl
    clear h1
    go_enter Try.func54, Try.ntmps54
    go_wp2
    all_goals go_ret
    exact ⟨ret_int hv.out, rfl⟩
  by_cases h2 : b < 4503599627370496
  · have hv : Hid (6 = cab b) := by unfold cab; rw [if_neg h1]; rw [if_pos h2]; trivial
    have h2' : (b : Int) < 4503599627370496 := by omega
    have h1' : ((b : Int) == 0) = false := beq_eq_false_iff_ne.2 (by omega)
    go_enter Try.func54, Try.ntmps54
    go_wp2
    all_goals go_ret
    exact ⟨ret_int hv.out, rfl⟩
  by_cases h3 : b < 9218868437227405312
  · have hv : Hid (7 = cab b) := by unfold cab; rw [if_neg h1]; rw [if_neg h2]; rw [if_pos h3]; trivial
    have h3' : (b : Int) < 9218868437227405312 := by omega
    have h1' : ((b : Int) == 0) = false := beq_eq_false_iff_ne.2 (by omega)
    have h2' : ¬ (b : Int) < 4503599627370496 := by omega
    go_enter Try.func54, Try.ntmps54
    go_wp2
    all_goals go_ret
    exact ⟨ret_int hv.out, rfl⟩
  by_cases h4 : b = 9218868437227405312
  · have hv : Hid (8 = cab b) := by unfold cab; rw [if_neg h1]; rw [if_neg h2]; rw [if_neg h3]; rw [if_pos h4]; trivial
    have h4' : ((b : Int) == 9218868437227405312) = true := by rw [h4]; rfl
    have h1' : ((b : Int) == 0) = false := beq_eq_false_iff_ne.2 (by omega)
    have h2' : ¬ (b : Int) < 4503599627370496 := by omega
    have h3' : ¬ (b : Int) < 9218868437227405312 := by omega
    clear h4
    go_enter Try.func54, Try.ntmps54
    go_wp2
    all_goals go_ret
    exact ⟨ret_int hv.out, rfl⟩
  have hv : Hid (9 = cab b) := by unfold cab; rw [if_neg h1]; rw [if_neg h2]; rw [if_neg h3]; rw [if_neg h4]; rfl
  have h1' : ((b : Int) == 0) = false := beq_eq_false_iff_ne.2 (by omega)
  have h2' : ¬ (b : Int) < 4503599627370496 := by omega
  have h3' : ¬ (b : Int) < 9218868437227405312 := by omega
  have h4' : ((b : Int) == 9218868437227405312) = false := beq_eq_false_iff_ne.2 (by omega)
  go_enter Try.func54, Try.ntmps54
  go_wp2
  all_goals go_ret
  exact ⟨ret_int hv.out, rfl⟩
set_option maxHeartbeats 400000 in
theorem class_c (n : Nat) (w : World) (h : n < 18446744073709551616) :
    Calls Try.prog 43 #[.float .f64 n] w fun e w' => e = .returned (.int .i64 (cls n)) ∧ w = w' := by
  have hb := bt_lt h
  have e1 := and_sign (bt n) hb
  have h3 : 5 ≤ cab (sz (bt n)) ∧ cab (sz (bt n)) ≤ 9 := by unfold cab; split <;> (try split) <;> (try split) <;> (try split) <;> omega
  obtain ⟨h3, h4⟩ := h3
  by_cases hc : bt n < 9223372036854775808
  · rw [if_pos hc] at e1
    go_enter Try.func43, Try.ntmps43
    go_wp2_with (first | (go_at_call 44; refine (bits_c _ _ (by assumption)).mono ?_; rintro e w' ⟨rfl, rfl⟩) | (go_at_call 54; refine (classAbove_c _ _).mono ?_; rintro e w' ⟨rfl, rfl⟩))
    all_goals go_ret
    exact ⟨ret_int (by unfold cls; rw [if_pos hc]), rfl⟩
  · rw [if_neg hc] at e1
    go_enter Try.func43, Try.ntmps43
    go_wp2_with (first | (go_at_call 44; refine (bits_c _ _ (by assumption)).mono ?_; rintro e w' ⟨rfl, rfl⟩) | (go_at_call 55; refine (sizeOf_c _ _ hb).mono ?_; rintro e w' ⟨rfl, rfl⟩) | (go_at_call 54; refine (classAbove_c _ _).mono ?_; rintro e w' ⟨rfl, rfl⟩))
    all_goals go_ret
    exact ⟨ret_int (by unfold cls; rw [if_neg hc]; unfold sz; omega), rfl⟩
end Go.Proofs.Ytmfnjmgdindlaaa
