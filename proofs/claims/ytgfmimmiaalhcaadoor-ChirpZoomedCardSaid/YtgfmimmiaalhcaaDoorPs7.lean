/-
  Contracts of package roots: the calls that are told outside, where they are not refused.
-/
import Derived.Test.YtgfmimmiaalhcaaDoorPp7
import Derived.Test.YtgfmimmiaalhcaaDoorClx
import Derived.Test.YtgfmimmiaalhcaaDoorCpx
namespace Go.Proofs.YtgfmimmiaalhcaaDoor
open Flo Go.RowKit

/-- may n be the length of a turn -/
def cu (n : Int) : Bool := decide (1 ≤ n ∧ n ≤ 4194304)
theorem cu_t {n : Int} (h : cu n = true) : 1 ≤ n ∧ n ≤ 4194304 := of_decide_eq_true h
theorem cuts_c (n : Int) (w : World) : Calls Tryd.prog 47 #[.int .i64 n] w fun e w' => e = .returned (.bool (cu n)) ∧ w' = w := by
  by_cases h1 : 1 ≤ n
  · by_cases h2 : n ≤ 4194304
    · have hv : Hid (true = cu n) := ((decide_eq_true ⟨h1, h2⟩ : cu n = true).symm : true = cu n)
      go_enter Tryd.func47, Tryd.ntmps47
      go_wp2
      go_ret
      exact ⟨ret_bool hv.out, rfl⟩
    · have hv : Hid (false = cu n) := ((decide_eq_false (fun h => h2 h.2) : cu n = false).symm : false = cu n)
      have h2' : decide (n ≤ 4194304) = false := decide_eq_false h2
      go_enter Tryd.func47, Tryd.ntmps47
      go_wp2
      go_ret
      exact ⟨ret_bool hv.out, rfl⟩
  · have hv : Hid (false = cu n) := ((decide_eq_false (fun h => h1 h.1) : cu n = false).symm : false = cu n)
    have h1' : decide (1 ≤ n) = false := decide_eq_false h1
    have h1'' : decide (n ≥ 1) = false := decide_eq_false h1
    go_enter Tryd.func47, Tryd.ntmps47
    go_wp2
    go_ret
    exact ⟨ret_bool hv.out, rfl⟩
set_option maxHeartbeats 1000000 in
theorem rootOk_c (n : Nat) (k : Int) (w : World) (h : 0 < n) (hn : n ≤ 4194304) :
    Calls Tryd.prog 40 #[.int .i64 n, .int .i64 k] w fun e w' => e = .returned (.tuple #[.complex .f64 (Rp.pc n (Rp.md n k)) (Rp.pim n (Rp.md n k)), .nilIface]) ∧ Below w.heap.size w w' := by
  have hr := root_c n k w h hn
  have hc : cu (n : Int) = true := decide_eq_true ⟨by omega, by omega⟩
  have hcu := cuts_c (n : Int) w
  rw [hc] at hcu
  generalize Rp.pc n (Rp.md n k) = c at *
  generalize Rp.pim n (Rp.md n k) = s at *
  go_enter Tryd.func40, Tryd.ntmps40
  go_wp2_with fail
  refine hcu.mono ?_
  rintro e w1 ⟨rfl, rfl⟩
  go_wp2_with fail
  refine hr.mono ?_
  rintro e w2 ⟨rfl, B⟩
  go_wp2_with fail
  go_ret2
  exact ⟨rfl, B⟩
set_option maxHeartbeats 1000000 in
theorem twistOk_c (a b n : Nat) (k : Int) (w : World) (h : 0 < n) (hn : n ≤ 4194304) (hk : k.tmod n ≠ 0) :
    Calls Tryd.prog 43 #[.complex .f64 a b, .int .i64 n, .int .i64 k] w fun e w' => ∃ x y, e = .returned (.tuple #[.complex .f64 x y, .nilIface]) ∧ x < 18446744073709551616 ∧ y < 18446744073709551616 ∧ bt x = mulRe a b (Rp.pc n (Rp.md n k)) (Rp.pim n (Rp.md n k)) ∧ bt y = mulIm a b (Rp.pc n (Rp.md n k)) (Rp.pim n (Rp.md n k)) ∧ Below w.heap.size w w' := by
  have hr := root_c n k w h hn
  have hc : cu (n : Int) = true := decide_eq_true ⟨by omega, by omega⟩
  have hcu := cuts_c (n : Int) w
  rw [hc] at hcu
  generalize Rp.pc n (Rp.md n k) = c at *
  generalize Rp.pim n (Rp.md n k) = s at *
  have hk' : (k.tmod n == 0) = false := beq_eq_false_iff_ne.2 hk
  go_enter Tryd.func43, Tryd.ntmps43
  go_wp2_with fail
  refine hcu.mono ?_
  rintro e w1 ⟨rfl, rfl⟩
  go_wp2_with fail
  refine hr.mono ?_
  rintro e w2 ⟨rfl, B⟩
  have hB : Hid (Below w1.heap.size w1 w2) := B
  clear B
  go_wp2_with fail
  refine (cMul_c a b c s w2).mono ?_
  rintro e w3 ⟨x, y, d, rfl, rfl, lx, ly, ex, ey⟩
  have hx : Hid (bt x = mulRe a b c s) := ex
  have hy : Hid (bt y = mulIm a b c s) := ey
  clear ex ey
  go_wp2_with fail
  go_ret2
  exact ⟨x, y, rfl, lx, ly, hx.out, hy.out, below_drewN hB.out d⟩
set_option maxHeartbeats 1000000 in
theorem twistId_c (a b n : Nat) (k : Int) (w : World) (h : 0 < n) (hn : n ≤ 4194304) (hk : k.tmod n = 0) :
    Calls Tryd.prog 43 #[.complex .f64 a b, .int .i64 n, .int .i64 k] w fun e w' => e = .returned (.tuple #[.complex .f64 a b, .nilIface]) ∧ Below w.heap.size w w' := by
  have hc : cu (n : Int) = true := decide_eq_true ⟨by omega, by omega⟩
  have hcu := cuts_c (n : Int) w
  rw [hc] at hcu
  go_enter Tryd.func43, Tryd.ntmps43
  go_wp2_with fail
  refine hcu.mono ?_
  rintro e w1 ⟨rfl, rfl⟩
  go_wp2_with fail
  go_ret2
  exact ⟨rfl, Below.refl _ _⟩
theorem ret_fff {a b c d : Nat} {v : Value} (h : a = b) (h' : c = d) : Ending.returned (.tuple #[.float .f64 a, .float .f64 c, v]) = .returned (.tuple #[.float .f64 b, .float .f64 d, v]) := by rw [h, h']
end Go.Proofs.YtgfmimmiaalhcaaDoor
