/-
  Contracts of package roots: the calls that are told outside, where they are not refused.
-/
import Derived.Test.YtljopkmpcolgfaaDoorPp7
import Derived.Test.YtljopkmpcolgfaaDoorClx
import Derived.Test.YtljopkmpcolgfaaDoorCpx
namespace Go.Proofs.YtljopkmpcolgfaaDoor
open Flo Go.RowKit

/-- may n be the length of a turn -/
def cu (n : Int) : Bool := decide (1 ≤ n ∧ n ≤ 4194304)
theorem cu_t {n : Int} (h : cu n = true) : 1 ≤ n ∧ n ≤ 4194304 := of_decide_eq_true h
theorem cuts_c (n : Int) (w : World) : Calls Tryd.prog 32 #[.int .i64 n] w fun e w' => e = .returned (.bool (cu n)) ∧ w' = w := by
  by_cases h1 : 1 ≤ n
  · by_cases h2 : n ≤ 4194304
    · have hv : Hid (true = cu n) := ((decide_eq_true ⟨h1, h2⟩ : cu n = true).symm : true = cu n)
      go_enter Tryd.func32, Tryd.ntmps32
      go_wp2
      go_ret
      exact ⟨ret_bool hv.out, rfl⟩
    · have hv : Hid (false = cu n) := ((decide_eq_false (fun h => h2 h.2) : cu n = false).symm : false = cu n)
      have h2' : decide (n ≤ 4194304) = false := decide_eq_false h2
      go_enter Tryd.func32, Tryd.ntmps32
      go_wp2
      go_ret
      exact ⟨ret_bool hv.out, rfl⟩
  · have hv : Hid (false = cu n) := ((decide_eq_false (fun h => h1 h.1) : cu n = false).symm : false = cu n)
    have h1' : decide (1 ≤ n) = false := decide_eq_false h1
    have h1'' : decide (n ≥ 1) = false := decide_eq_false h1
    go_enter Tryd.func32, Tryd.ntmps32
    go_wp2
    go_ret
    exact ⟨ret_bool hv.out, rfl⟩
set_option maxHeartbeats 1000000 in
theorem rootOk_c (n : Nat) (k : Int) (w : World) (h : 0 < n) (hn : n ≤ 4194304) :
    Calls Tryd.prog 17 #[.int .i64 n, .int .i64 k] w fun e w' => e = .returned (.tuple #[.complex .f64 (Rp.pc n (Rp.md n k)) (Rp.pim n (Rp.md n k)), .nilIface]) ∧ Below w.heap.size w w' := by
  have hr := root_c n k w h hn
  have hc : cu (n : Int) = true := decide_eq_true ⟨by omega, by omega⟩
  have hcu := cuts_c (n : Int) w
  rw [hc] at hcu
  generalize Rp.pc n (Rp.md n k) = c at *
  generalize Rp.pim n (Rp.md n k) = s at *
  go_enter Tryd.func17, Tryd.ntmps17
  go_wp2_with fail
  refine hcu.mono ?_
  rintro e w1 ⟨rfl, rfl⟩
  go_wp2_with fail
  refine hr.mono ?_
  rintro e w2 ⟨rfl, B⟩
  go_wp2_with fail
  go_ret2
  exact ⟨rfl, B⟩
theorem ret_fff {a b c d : Nat} {v : Value} (h : a = b) (h' : c = d) : Ending.returned (.tuple #[.float .f64 a, .float .f64 c, v]) = .returned (.tuple #[.float .f64 b, .float .f64 d, v]) := by rw [h, h']
end Go.Proofs.YtljopkmpcolgfaaDoor
