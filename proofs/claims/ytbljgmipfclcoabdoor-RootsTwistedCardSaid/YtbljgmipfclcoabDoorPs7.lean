/-
  Contracts of package roots: the calls that are told outside, where they are not refused.
-/
import Derived.Test.YtbljgmipfclcoabDoorPp7
import Derived.Test.YtbljgmipfclcoabDoorClx
import Derived.Test.YtbljgmipfclcoabDoorCpx
namespace Go.Proofs.YtbljgmipfclcoabDoor
open Flo Go.RowKit

/-- may n be the length of a turn -/
def cu (n : Int) : Bool := decide (1 ≤ n ∧ n ≤ 4194304)
theorem cu_t {n : Int} (h : cu n = true) : 1 ≤ n ∧ n ≤ 4194304 := of_decide_eq_true h
theorem cuts_c (n : Int) (w : World) : Calls Tryd.prog 13 #[.int .i64 n] w fun e w' => e = .returned (.bool (cu n)) ∧ w' = w := by
  by_cases h1 : 1 ≤ n
  · by_cases h2 : n ≤ 4194304
    · have hv : Hid (true = cu n) := ((decide_eq_true ⟨h1, h2⟩ : cu n = true).symm : true = cu n)
      go_enter Tryd.func13, Tryd.ntmps13
      go_wp2
      go_ret
      exact ⟨ret_bool hv.out, rfl⟩
    · have hv : Hid (false = cu n) := ((decide_eq_false (fun h => h2 h.2) : cu n = false).symm : false = cu n)
      have h2' : decide (n ≤ 4194304) = false := decide_eq_false h2
      go_enter Tryd.func13, Tryd.ntmps13
      go_wp2
      go_ret
      exact ⟨ret_bool hv.out, rfl⟩
  · have hv : Hid (false = cu n) := ((decide_eq_false (fun h => h1 h.1) : cu n = false).symm : false = cu n)
    have h1' : decide (1 ≤ n) = false := decide_eq_false h1
    have h1'' : decide (n ≥ 1) = false := decide_eq_false h1
    go_enter Tryd.func13, Tryd.ntmps13
    go_wp2
    go_ret
    exact ⟨ret_bool hv.out, rfl⟩
set_option maxHeartbeats 1000000 in
theorem rootOk_c (n : Nat) (k : Int) (w : World) (h : 0 < n) (hn : n ≤ 4194304) :
    Calls Tryd.prog 10 #[.int .i64 n, .int .i64 k] w fun e w' => e = .returned (.tuple #[.complex .f64 (Rp.pc n (Rp.md n k)) (Rp.pim n (Rp.md n k)), .nilIface]) ∧ Below w.heap.size w w' := by
  have hr := root_c n k w h hn
  have hc : cu (n : Int) = true := decide_eq_true ⟨by omega, by omega⟩
  have hcu := cuts_c (n : Int) w
  rw [hc] at hcu
  generalize Rp.pc n (Rp.md n k) = c at *
  generalize Rp.pim n (Rp.md n k) = s at *
  go_enter Tryd.func10, Tryd.ntmps10
  go_wp2_with fail
  refine hcu.mono ?_
  rintro e w1 ⟨rfl, rfl⟩
  go_wp2_with fail
  refine hr.mono ?_
  rintro e w2 ⟨rfl, B⟩
  go_wp2_with fail
  go_ret2
  exact ⟨rfl, B⟩
set_option maxHeartbeats 1000000 in
theorem twistOk_c (a b n : Nat) (k : Int) (w : World) (h : 0 < n) (hn : n ≤ 4194304) (hk : k.tmod n ≠ 0) :
    Calls Tryd.prog 7 #[.complex .f64 a b, .int .i64 n, .int .i64 k] w fun e w' => ∃ x y, e = .returned (.tuple #[.complex .f64 x y, .nilIface]) ∧ x < 18446744073709551616 ∧ y < 18446744073709551616 ∧ bt x = mulRe a b (Rp.pc n (Rp.md n k)) (Rp.pim n (Rp.md n k)) ∧ bt y = mulIm a b (Rp.pc n (Rp.md n k)) (Rp.pim n (Rp.md n k)) ∧ Below w.heap.size w w' := by
  have hr := root_c n k w h hn
  have hc : cu (n : Int) = true := decide_eq_true ⟨by omega, by omega⟩
  have hcu := cuts_c (n : Int) w
  rw [hc] at hcu
  generalize Rp.pc n (Rp.md n k) = c at *
  generalize Rp.pim n (Rp.md n k) = s at *
  have hk' : (k.tmod n == 0) = false := beq_eq_false_iff_ne.2 hk
  go_enter Tryd.func7, Tryd.ntmps7
  go_wp2_with fail
  refine hcu.mono ?_
  rintro e w1 ⟨rfl, rfl⟩
  go_wp2_with fail
  refine hr.mono ?_
  rintro e w2 ⟨rfl, B⟩
  have hB : Hid (Below w1.heap.size w1 w2) := B
  clear B
  go_wp2_with fail
  refine (cMul_c a b c s w2).mono ?_
  rintro e w3 ⟨x, y, d, rfl, rfl, lx, ly, ex, ey⟩
  have hx : Hid (bt x = mulRe a b c s) := ex
  have hy : Hid (bt y = mulIm a b c s) := ey
  clear ex ey
  go_wp2_with fail
  go_ret2
  exact ⟨x, y, rfl, lx, ly, hx.out, hy.out, below_drewN hB.out d⟩
set_option maxHeartbeats 1000000 in
theorem twistId_c (a b n : Nat) (k : Int) (w : World) (h : 0 < n) (hn : n ≤ 4194304) (hk : k.tmod n = 0) :
    Calls Tryd.prog 7 #[.complex .f64 a b, .int .i64 n, .int .i64 k] w fun e w' => e = .returned (.tuple #[.complex .f64 a b, .nilIface]) ∧ Below w.heap.size w w' := by
  have hc : cu (n : Int) = true := decide_eq_true ⟨by omega, by omega⟩
  have hcu := cuts_c (n : Int) w
  rw [hc] at hcu
  go_enter Tryd.func7, Tryd.ntmps7
  go_wp2_with fail
  refine hcu.mono ?_
  rintro e w1 ⟨rfl, rfl⟩
  go_wp2_with fail
  go_ret2
  exact ⟨rfl, Below.refl _ _⟩
theorem ret_fff {a b c d : Nat} {v : Value} (h : a = b) (h' : c = d) : Ending.returned (.tuple #[.float .f64 a, .float .f64 c, v]) = .returned (.tuple #[.float .f64 b, .float .f64 d, v]) := by rw [h, h']
set_option maxHeartbeats 1000000 in
theorem EighthOk_c (r n : Nat) (w : World) (h : 8 * r ≤ n) (h1 : 1 ≤ n) (hn : n ≤ 16777216) :
    Calls Tryd.prog 11 #[.int .i64 r, .int .i64 n] w fun e w' => e = .returned (.tuple #[.float .f64 (Rp.eiC r n), .float .f64 (Rp.eiS r n), .nilIface]) ∧ Below w.heap.size w w' := by
  have h2' : decide ((n : Int) < 1) = false := decide_eq_false (by omega)
  have h3' : decide ((n : Int) > 16777216) = false := decide_eq_false (by omega)
  have e8 : (n : Int).tdiv 8 = ((n / 8 : Nat) : Int) := by rw [Int.tdiv_eq_ediv_of_nonneg (by omega)]; omega
  have h5' : decide ((r : Int) < 0) = false := decide_eq_false (by omega)
  have h6' : decide ((r : Int) > ((n / 8 : Nat) : Int)) = false := decide_eq_false (by omega)
  have hei := eighth_c r n w h (by omega)
  have q1 : n / 8 ≤ 2097152 := by omega
  have q2 : decide (n / 8 < r) = false := decide_eq_false (by omega)
  generalize n / 8 = q at *
  generalize Rp.eiC r n = c at *
  generalize Rp.eiS r n = s at *
  go_enter Tryd.func11, Tryd.ntmps11
  go_wp2_with fail
  refine hei.mono ?_
  rintro e w2 ⟨rfl, B⟩
  go_wp2_with fail
  go_ret3
  exact ⟨rfl, B⟩
end Go.Proofs.YtbljgmipfclcoabDoor
