/-
  The statements' own 'lives', 'same' and 'fit' of layer 7; the document's Mul and Twist.
-/
import Derived.Test.YtgfmimmiaalhcaaDoorPt7
import Derived.Test.YtgfmimmiaalhcaaDoorRef
namespace Go.Proofs.YtgfmimmiaalhcaaDoor
open Flo Go.RowKit

theorem w41 : Rp.pc 4 (Rp.md 4 1) = 0 ∧ Rp.pim 4 (Rp.md 4 1) = 13830554455654793216 := by decide +kernel
theorem w81 : Rp.pc 8 (Rp.md 8 1) = 4604544271217802189 := by decide +kernel
theorem e18 : Rp.eiC 1 8 = 4604544271217802189 ∧ Rp.eiS 1 8 = 4604544271217802189 := by decide +kernel
theorem w42 : Rp.pc 4 2 = 13830554455654793216 ∧ Rp.pim 4 2 = 0 := by decide +kernel
set_option maxHeartbeats 1000000 in
theorem r7Mul_c (a b c d : Nat) (w : World) :
    Calls Tryd.prog 44 #[.complex .f64 a b, .complex .f64 c d] w (RC w (mulRe a b c d) (mulIm a b c d)) := by
  have h1 := @run_fmul Tryd.prog
  have h2 := @run_fadd Tryd.prog
  have h3 := @run_fsub Tryd.prog
  go_enter Tryd.func44, Tryd.ntmps44
  go_wp2
  go_ret
  exact ⟨_, _, _, rfl, rfl, fr_lt .., fr_lt .., by simp only [bt_fr, co_fr_left, co_fr_right]; rfl, by simp only [bt_fr, co_fr_left, co_fr_right]; rfl⟩
theorem md_zero {n : Nat} (h : 0 < n) {k : Int} : Rp.md n k = 0 ↔ k.tmod n = 0 := by
  have e := Rp.md_eq h k
  have : k.tmod n = 0 ↔ k % (n : Int) = 0 := by
    rw [← Int.dvd_iff_tmod_eq_zero, Int.dvd_iff_emod_eq_zero]
  rw [this, ← e]
  omega
set_option maxHeartbeats 1000000 in
theorem r7TwistOk_c (a b n : Nat) (k : Int) (w : World) (h : 0 < n) (hn : n ≤ 4194304) (hk : k.tmod n ≠ 0) :
    Calls Tryd.prog 36 #[.complex .f64 a b, .int .i64 n, .int .i64 k] w (RC w (mulRe a b (Rp.pc n (Rp.md n k)) (Rp.pim n (Rp.md n k))) (mulIm a b (Rp.pc n (Rp.md n k)) (Rp.pim n (Rp.md n k)))) := by
  have hr := r7Root_c n k w h hn
  have hm := mod7_c n k w h (by omega)
  have hz : ((Rp.md n k : Int) == 0) = false := beq_eq_false_iff_ne.2 (fun e => hk ((md_zero h).1 (by omega)))
  generalize Rp.pc n (Rp.md n k) = c at *
  generalize Rp.pim n (Rp.md n k) = s at *
  generalize Rp.md n k = m at *
  clear hk
  go_enter Tryd.func36, Tryd.ntmps36
  go_wp2_with fail
  refine hm.mono ?_
  rintro e w1 ⟨rfl, rfl⟩
  go_wp2_with fail
  refine hr.mono ?_
  rintro e w2 ⟨rfl, d, rfl⟩
  go_wp2_with fail
  refine (r7Mul_c a b c s _).mono ?_
  rintro e w3 ⟨x, y, q, rfl, rfl, lx, ly, ex, ey⟩
  have hx : Hid (bt x = mulRe a b c s) := ex
  have hy : Hid (bt y = mulIm a b c s) := ey
  clear ex ey
  go_wp2_with fail
  go_ret
  exact ⟨x, y, _, rfl, rfl, lx, ly, hx.out, hy.out⟩
set_option maxHeartbeats 1000000 in
theorem r7TwistId_c (a b n : Nat) (k : Int) (w : World) (h : 0 < n) (hn : n ≤ 4194304) (hk : k.tmod n = 0) :
    Calls Tryd.prog 36 #[.complex .f64 a b, .int .i64 n, .int .i64 k] w fun e w' => e = .returned (.complex .f64 a b) ∧ ∃ d, w' = w.drewN d := by
  have hm := mod7_c n k w h (by omega)
  rw [(md_zero h).2 hk] at hm
  clear hk
  go_enter Tryd.func36, Tryd.ntmps36
  go_wp2_with fail
  refine hm.mono ?_
  rintro e w1 ⟨rfl, rfl⟩
  go_wp2_with fail
  go_ret
  exact ⟨rfl, 0, rfl⟩
end Go.Proofs.YtgfmimmiaalhcaaDoor
