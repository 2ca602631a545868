/-
  The statements' own 'lives', 'same' and 'fit' of layer 7; the document's Mul and Twist.
-/
import Derived.Test.YtbljgmipfclcoaaDoorPt7
import Derived.Test.YtbljgmipfclcoaaDoorRef
namespace Go.Proofs.YtbljgmipfclcoaaDoor
open Flo Go.RowKit

set_option maxHeartbeats 1000000 in
theorem same7_c (a b c d : Nat) (w : World) (ha : a < 18446744073709551616) (hb : b < 18446744073709551616) (hc : c < 18446744073709551616) (hd : d < 18446744073709551616) (h1 : bt a = bt c) (h2 : bt b = bt d) :
    Calls Tryd.prog 19 #[.complex .f64 a b, .complex .f64 c d] w fun e w' => e = .returned (.bool true) ∧ w = w' := by
  have s1 := rsame_c a c
  have s2 := rsame_c b d
  have e1 : ((bt a : Int) == (bt c : Int)) = true := by rw [h1]; exact beq_self_eq_true _
  have e2 : ((bt b : Int) == (bt d : Int)) = true := by rw [h2]; exact beq_self_eq_true _
  clear h1 h2
  go_enter Tryd.func19, Tryd.ntmps19
  go_wp2_with fail
  refine (s1 _ ha hc).mono ?_
  rintro e w1 ⟨rfl, rfl⟩
  rw [e1]
  go_wp2_with fail
  refine (s2 _ hb hd).mono ?_
  rintro e w2 ⟨rfl, rfl⟩
  rw [e2]
  go_wp2_with fail
  go_ret
  exact ⟨rfl, rfl⟩
theorem w41 : Rp.pc 4 (Rp.md 4 1) = 0 ∧ Rp.pim 4 (Rp.md 4 1) = 13830554455654793216 := by decide +kernel
theorem w81 : Rp.pc 8 (Rp.md 8 1) = 4604544271217802189 := by decide +kernel
theorem e18 : Rp.eiC 1 8 = 4604544271217802189 ∧ Rp.eiS 1 8 = 4604544271217802189 := by decide +kernel
theorem w42 : Rp.pc 4 2 = 13830554455654793216 ∧ Rp.pim 4 2 = 0 := by decide +kernel
set_option maxHeartbeats 2000000 in
theorem lives7_c (w : World) :
    Calls Tryd.prog 9 #[] w fun e w' => e = .returned (.bool true) ∧ Below w.heap.size w w' := by
  have hf := run_frombits
  have c1 := fun w => rootOk_c 4 1 w (by decide) (by decide)
  rw [w41.1, w41.2] at c1
  have c2 := fun w => rootOk_c 8 1 w (by decide) (by decide)
  rw [w81] at c2
  have c3 := fun w => EighthOk_c 1 8 w (by decide) (by decide) (by decide)
  rw [e18.1, e18.2] at c3
  have c4 := fun w => allOk_c 4 w (by decide) (by decide)
  go_enter Tryd.func9, Tryd.ntmps9
  go_wp2_with fail
  refine (c1 _).mono ?_
  rintro e w1 ⟨rfl, B1⟩
  go_wp2_with fail
  refine (c2 _).mono ?_
  rintro e w2 ⟨rfl, B2⟩
  go_wp2_with fail
  refine (c3 _).mono ?_
  rintro e w3 ⟨rfl, B3⟩
  · go_wp2_with fail
    refine (c4 _).mono ?_
    rintro e w4 ⟨G, rfl, hG, hrow, B4⟩
    have B : Hid (Below w.heap.size w w4) := below_tr (below_tr (below_tr B1 B2) B3) B4
    have cell := hrow.cellAt 2 (by decide)
    clear B1 B2 B3 B4 c1 c2 c3 c4
    have cell2 : w4.cell? ⟨G, 2, none⟩ = some (.complex .f64 13830554455654793216 0) := by
      rw [cell]
      simp [cz, rl, rlv, w42]
    clear cell hrow
    have o1 : FloatKind.f64.format.order 0 0 = some .eq := by decide +kernel
    have o2 : FloatKind.f64.format.order 13830554455654793216 13830554455654793216 = some .eq := by decide +kernel
    have o3 : FloatKind.f64.format.order 4604544271217802189 4604544271217802189 = some .eq := by decide +kernel
    go_wp2_with fail
    go_ret
    exact ⟨rfl, B.out⟩
theorem fit_c (n k : Int) (w : World) :
    Calls Tryd.prog 26 #[.int .i64 n, .int .i64 k] w fun e w' => ∃ N : Nat, e = .returned (.tuple #[.int .i64 (N : Int), .int .i64 (k.tmod 1099511627776)]) ∧ 0 < N ∧ N ≤ 4194304 ∧ w' = w := by
  have hb : 0 ≤ (n % 18446744073709551616) % 4194304 ∧ (n % 18446744073709551616) % 4194304 < 4194304 := by omega
  obtain ⟨b1, b2⟩ := hb
  go_enter Tryd.func26, Tryd.ntmps26
  go_wp2
  go_ret2
  refine ⟨(1 + n % 18446744073709551616 % 4194304).toNat, ?_, by omega, by omega, rfl⟩
  have e : wrap64 (1 + wrap64 ((IntKind.u64.wrap n).tmod 4194304)) = ((1 + n % 18446744073709551616 % 4194304).toNat : Int) := by
    rw [IntKind.wrap_u64, Int.tmod_eq_emod_of_nonneg (by omega)]
    unfold wrap64
    omega
  rw [e]
  rfl
set_option maxHeartbeats 1000000 in
theorem r7Mul_c (a b c d : Nat) (w : World) :
    Calls Tryd.prog 41 #[.complex .f64 a b, .complex .f64 c d] w (RC w (mulRe a b c d) (mulIm a b c d)) := by
  have h1 := @run_fmul Tryd.prog
  have h2 := @run_fadd Tryd.prog
  have h3 := @run_fsub Tryd.prog
  go_enter Tryd.func41, Tryd.ntmps41
  go_wp2
  go_ret
  exact ⟨_, _, _, rfl, rfl, fr_lt .., fr_lt .., by simp only [bt_fr, co_fr_left, co_fr_right]; rfl, by simp only [bt_fr, co_fr_left, co_fr_right]; rfl⟩
theorem md_zero {n : Nat} (h : 0 < n) {k : Int} : Rp.md n k = 0 ↔ k.tmod n = 0 := by
  have e := Rp.md_eq h k
  have : k.tmod n = 0 ↔ k % (n : Int) = 0 := by
    rw [← Int.dvd_iff_tmod_eq_zero, Int.dvd_iff_emod_eq_zero]
  rw [this, ← e]
  omega
set_option maxHeartbeats 1000000 in
theorem r7TwistOk_c (a b n : Nat) (k : Int) (w : World) (h : 0 < n) (hn : n ≤ 4194304) (hk : k.tmod n ≠ 0) :
    Calls Tryd.prog 23 #[.complex .f64 a b, .int .i64 n, .int .i64 k] w (RC w (mulRe a b (Rp.pc n (Rp.md n k)) (Rp.pim n (Rp.md n k))) (mulIm a b (Rp.pc n (Rp.md n k)) (Rp.pim n (Rp.md n k)))) := by
  have hr := r7Root_c n k w h hn
  have hm := mod7_c n k w h (by omega)
  have hz : ((Rp.md n k : Int) == 0) = false := beq_eq_false_iff_ne.2 (fun e => hk ((md_zero h).1 (by omega)))
  generalize Rp.pc n (Rp.md n k) = c at *
  generalize Rp.pim n (Rp.md n k) = s at *
  generalize Rp.md n k = m at *
  clear hk
  go_enter Tryd.func23, Tryd.ntmps23
  go_wp2_with fail
  refine hm.mono ?_
  rintro e w1 ⟨rfl, rfl⟩
  go_wp2_with fail
  refine hr.mono ?_
  rintro e w2 ⟨rfl, d, rfl⟩
  go_wp2_with fail
  refine (r7Mul_c a b c s _).mono ?_
  rintro e w3 ⟨x, y, q, rfl, rfl, lx, ly, ex, ey⟩
  have hx : Hid (bt x = mulRe a b c s) := ex
  have hy : Hid (bt y = mulIm a b c s) := ey
  clear ex ey
  go_wp2_with fail
  go_ret
  exact ⟨x, y, _, rfl, rfl, lx, ly, hx.out, hy.out⟩
set_option maxHeartbeats 1000000 in
theorem r7TwistId_c (a b n : Nat) (k : Int) (w : World) (h : 0 < n) (hn : n ≤ 4194304) (hk : k.tmod n = 0) :
    Calls Tryd.prog 23 #[.complex .f64 a b, .int .i64 n, .int .i64 k] w fun e w' => e = .returned (.complex .f64 a b) ∧ ∃ d, w' = w.drewN d := by
  have hm := mod7_c n k w h (by omega)
  rw [(md_zero h).2 hk] at hm
  clear hk
  go_enter Tryd.func23, Tryd.ntmps23
  go_wp2_with fail
  refine hm.mono ?_
  rintro e w1 ⟨rfl, rfl⟩
  go_wp2_with fail
  go_ret
  exact ⟨rfl, 0, rfl⟩
end Go.Proofs.YtbljgmipfclcoaaDoor
