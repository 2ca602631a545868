/-
  The contract of the statements' own 'between': of three floats that are no NaN it returns true, the world as it was.
-/
import Derived.Test.YtabkbhmjblfajaaDoorStp
namespace Go.Proofs.YtabkbhmjblfajaaDoor
open Flo Go.RowKit
theorem cp_gt {a b : Nat} (h : pl b < pl a) : 0 < cp a b := by unfold cp; rw [if_neg (by omega), if_pos h]; decide
theorem cp_ngt {a b : Nat} (h : ¬ pl b < pl a) : decide (0 < cp a b) = false := by
  refine decide_eq_false ?_
  unfold cp
  by_cases h' : pl a < pl b
  · rw [if_pos h']; decide
  · rw [if_neg h', if_neg h]; decide
/-- The one that stands between cuts the distance. -/
theorem ap_sum {x y z : Nat} (h1 : pl x ≤ pl y) (h2 : pl y ≤ pl z) (hz : z < 18446744073709551616) : (((ap x y : Nat) : Int) + ((ap z y : Nat) : Int) == ((ap x z : Nat) : Int)) = true ∧ ((ap x y : Nat) : Int) + ((ap z y : Nat) : Int) < 18446744073709551616 := by
  have := pl_lt hz
  have e1 : ap x y = pl y - pl x := by unfold ap; rw [if_pos h1]
  have e2 : ap x z = pl z - pl x := by unfold ap; rw [if_pos (by omega)]
  have e3 : ap z y = pl z - pl y := by unfold ap; split <;> omega
  rw [e1, e2, e3]
  exact ⟨beq_iff_eq.2 (by omega), by omega⟩
set_option maxHeartbeats 2000000 in
theorem between_c (f g h : Nat) (w : World) (hf : f < 18446744073709551616) (hg : g < 18446744073709551616) (hh : h < 18446744073709551616) (nf : nanB f = false) (ng : nanB g = false) (nh : nanB h = false) :
    Calls Tryd.prog 40 #[.float .f64 f, .float .f64 g, .float .f64 h] w fun e w' => e = .returned (.bool true) ∧ w = w' := by
  by_cases c1 : pl g < pl f
  · have t1 := cp_gt c1
    have t4 := cp_ngt (a := g) (b := f) (by omega)
    by_cases c2 : pl h < pl f
    · have t2 := cp_gt c2
      by_cases c3 : pl h < pl g
      · have t3 := cp_gt c3
        obtain ⟨s1, s2⟩ := ap_sum (x := h) (y := g) (z := f) (by omega) (by omega) hf
        clear c1 c2 c3
        go_enter Tryd.func40, Tryd.ntmps40
        go_wp2_with (first | (go_at_call 32; refine (compare_c _ _ _ (by assumption) (by assumption)).mono ?_; rintro e w' ⟨rfl, rfl⟩) | (go_at_call 28; refine (apart_c _ _ _ (by assumption) (by assumption) (by assumption) (by assumption)).mono ?_; rintro e w' ⟨rfl, rfl⟩))
        go_ret
        exact ⟨rfl, rfl⟩
      · have t3 := cp_ngt c3
        obtain ⟨s1, s2⟩ := ap_sum (x := g) (y := h) (z := f) (by omega) (by omega) hf
        clear c1 c2 c3
        go_enter Tryd.func40, Tryd.ntmps40
        go_wp2_with (first | (go_at_call 32; refine (compare_c _ _ _ (by assumption) (by assumption)).mono ?_; rintro e w' ⟨rfl, rfl⟩) | (go_at_call 28; refine (apart_c _ _ _ (by assumption) (by assumption) (by assumption) (by assumption)).mono ?_; rintro e w' ⟨rfl, rfl⟩))
        go_ret
        exact ⟨rfl, rfl⟩
    · have t2 := cp_ngt c2
      obtain ⟨s1, s2⟩ := ap_sum (x := g) (y := f) (z := h) (by omega) (by omega) hh
      clear c1 c2
      go_enter Tryd.func40, Tryd.ntmps40
      go_wp2_with (first | (go_at_call 32; refine (compare_c _ _ _ (by assumption) (by assumption)).mono ?_; rintro e w' ⟨rfl, rfl⟩) | (go_at_call 28; refine (apart_c _ _ _ (by assumption) (by assumption) (by assumption) (by assumption)).mono ?_; rintro e w' ⟨rfl, rfl⟩))
      go_ret
      exact ⟨rfl, rfl⟩
  · have t1 := cp_ngt c1
    by_cases c2 : pl h < pl g
    · have t2 := cp_gt c2
      by_cases c3 : pl h < pl f
      · have t3 := cp_gt c3
        obtain ⟨s1, s2⟩ := ap_sum (x := h) (y := f) (z := g) (by omega) (by omega) hg
        clear c1 c2 c3
        go_enter Tryd.func40, Tryd.ntmps40
        go_wp2_with (first | (go_at_call 32; refine (compare_c _ _ _ (by assumption) (by assumption)).mono ?_; rintro e w' ⟨rfl, rfl⟩) | (go_at_call 28; refine (apart_c _ _ _ (by assumption) (by assumption) (by assumption) (by assumption)).mono ?_; rintro e w' ⟨rfl, rfl⟩))
        go_ret
        exact ⟨rfl, rfl⟩
      · have t3 := cp_ngt c3
        obtain ⟨s1, s2⟩ := ap_sum (x := f) (y := h) (z := g) (by omega) (by omega) hg
        clear c1 c2 c3
        go_enter Tryd.func40, Tryd.ntmps40
        go_wp2_with (first | (go_at_call 32; refine (compare_c _ _ _ (by assumption) (by assumption)).mono ?_; rintro e w' ⟨rfl, rfl⟩) | (go_at_call 28; refine (apart_c _ _ _ (by assumption) (by assumption) (by assumption) (by assumption)).mono ?_; rintro e w' ⟨rfl, rfl⟩))
        go_ret
        exact ⟨rfl, rfl⟩
    · have t2 := cp_ngt c2
      obtain ⟨s1, s2⟩ := ap_sum (x := f) (y := g) (z := h) (by omega) (by omega) hh
      clear c1 c2
      go_enter Tryd.func40, Tryd.ntmps40
      go_wp2_with (first | (go_at_call 32; refine (compare_c _ _ _ (by assumption) (by assumption)).mono ?_; rintro e w' ⟨rfl, rfl⟩) | (go_at_call 28; refine (apart_c _ _ _ (by assumption) (by assumption) (by assumption) (by assumption)).mono ?_; rintro e w' ⟨rfl, rfl⟩))
      go_ret
      exact ⟨rfl, rfl⟩
end Go.Proofs.YtabkbhmjblfajaaDoor
