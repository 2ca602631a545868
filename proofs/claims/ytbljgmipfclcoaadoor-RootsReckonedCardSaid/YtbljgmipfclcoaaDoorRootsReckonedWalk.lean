/-
  The walk of RootsReckoned.
-/
import Derived.Test.YtbljgmipfclcoaaDoorPu7
import Derived.Test.YtbljgmipfclcoaaDoorPv7
import Derived.Test.YtbljgmipfclcoaaDoorLaid
import Derived.Test.YtbljgmipfclcoaaDoorRows
namespace Go.Proofs.YtbljgmipfclcoaaDoor
open Flo Go.RowKit
theorem Errs.drawn {w : World} {al : List Addr} (h : Errs w al) (k : Nat) : Errs (w.drewN k) al := h.below (below_drewN (Below.refl _ _) k)
theorem rsameT (a : Nat) (w : World) (ha : a < 18446744073709551616) :
    Calls Tryd.prog 13 #[.float .f64 a, .float .f64 a] w fun e w' => e = .returned (.bool true) ∧ w = w' := by
  have := rsame_c a a w ha ha
  rw [beq_self_eq_true] at this
  exact this
theorem eC_lt (r n : Int) : eC r n < 18446744073709551616 ∧ eS r n < 18446744073709551616 := by
  have o := Rp.one_lt
  by_cases h : eN r n = 0
  · have hh : ¬ (n < 1 ∨ 16777216 < n) ∧ ¬ (r < 0 ∨ n / 8 < r) := by
      unfold eN at h
      by_cases h1 : n < 1 ∨ 16777216 < n
      · rw [if_pos h1] at h; omega
      · rw [if_neg h1] at h
        by_cases h2 : r < 0 ∨ n / 8 < r
        · rw [if_pos h2] at h; omega
        · exact ⟨h1, h2⟩
    unfold eC eS
    rw [if_pos h, if_pos h]
    have c := Rp.eiC_le (r := r.toNat) (n := n.toNat) (by omega) (by omega)
    have s := Rp.eiS_le (r := r.toNat) (n := n.toNat) (by omega) (by omega)
    omega
  · unfold eC eS
    rw [if_neg h, if_neg h]
    omega
theorem cC_lt (n k : Int) : cC n k < 18446744073709551616 ∧ cS n k < 18446744073709551616 := by
  unfold cC cS
  cases hc : cu n
  · rw [if_neg (by decide), if_neg (by decide)]; omega
  · obtain ⟨h1, h2⟩ := cu_t hc
    rw [if_pos rfl, if_pos rfl]
    exact ⟨(Rp.pc_fin _ (by omega) (by omega)).1, (Rp.ps_fin _ (by omega) (by omega)).1⟩
set_option maxHeartbeats 4000000 in
theorem reckoned_w (r n k : Int) (w : World) (al : List Addr) (he : Errs w al) :
    Calls Tryd.prog 3 #[.int .i64 r, .int .i64 n, .int .i64 k] w fun e w' => e = .returned (.bool true) ∧ Below w.heap.size w w' := by
  have q1 := fun w he => Eighth_c r n w al he
  have q2 := r7Eighth_c r n
  have q3 := fun w he => cos_c n k w al he
  have q4 := r7Cos_c n k
  have q5 := fun w he => sin_c n k w al he
  have q6 := r7Sin_c n k
  have q7 : Hid (∀ w, cu n = false → Errs w al → Calls Tryd.prog 18 #[.int .i64 n, .int .i64 k] w fun e w' => e = .returned (.tuple #[.complex .f64 0 0, ek al 6]) ∧ Below w.heap.size w w') := fun w h he => rootNo_c n k w al he h
  have q8 : Hid (cu n = true → ∃ x y, x < 18446744073709551616 ∧ y < 18446744073709551616 ∧ (∀ w, Calls Tryd.prog 18 #[.int .i64 n, .int .i64 k] w fun e w' => e = .returned (.tuple #[.complex .f64 x y, .nilIface]) ∧ Below w.heap.size w w') ∧ ∀ w, Calls Tryd.prog 20 #[.int .i64 n, .int .i64 k] w fun e w' => e = .returned (.complex .f64 x y) ∧ ∃ d, w' = w.drewN d) := fun hc => by
    obtain ⟨h1, h2⟩ := cu_t hc
    have a := fun w => rootOk_c n.toNat k w (by omega) (by omega)
    have b := fun w => r7Root_c n.toNat k w (by omega) (by omega)
    rw [Int.toNat_of_nonneg (by omega)] at a b
    exact ⟨_, _, (Rp.pc_fin _ (by omega) (by omega)).1, (Rp.pim_fin _ (by omega) (by omega)).1, a, b⟩
  obtain ⟨l1, l2⟩ := eC_lt r n
  obtain ⟨l3, l4⟩ := cC_lt n k
  have hN : cN n = 0 ∧ cu n = true ∨ cN n = 7 ∧ cu n = false := by
    unfold cN
    cases cu n
    · right; exact ⟨rfl, rfl⟩
    · left; exact ⟨rfl, rfl⟩
  have hNH : Hid (cN n = 0 ∧ cu n = true ∨ cN n = 7 ∧ cu n = false) := hN
  generalize eC r n = c1 at *
  generalize eS r n = c2 at *
  generalize eN r n = c3 at *
  generalize cC n k = c4 at *
  generalize cS n k = c5 at *
  generalize cN n = c6 at *
  have h0 : Hid (Errs w al) := he
  clear he hN
  go_enter Tryd.func3, Tryd.ntmps3
  go_wp2_with fail
  refine (lives7_c _).mono ?_
  rintro e w1 ⟨rfl, B1⟩
  have h1 : Hid (Errs w1 al) := h0.out.below B1
  have A1 : Hid (Below w.heap.size w w1) := B1
  clear B1 h0
  go_wp2_with fail
  refine (q1 _ h1.out).mono ?_
  rintro e w2 ⟨er2, rfl, n2, B2⟩
  have h2 : Hid (Errs w2 al) := h1.out.below B2
  have A2 : Hid (Below w.heap.size w w2) := below_tr A1.out B2
  have m2 : Hid (Er al er2 c3) := n2
  clear B2 h1 A1 n2
  go_wp2_with fail
  refine (q2 _).mono ?_
  rintro e w3 ⟨rfl, d3, rfl⟩
  have h3 : Hid (Errs (w2.drewN d3) al) := h2.out.drawn d3
  have A3 : Hid (Below w.heap.size w (w2.drewN d3)) := below_drewN A2.out d3
  clear h2 A2
  generalize w2.drewN d3 = w3 at *
  go_wp2_with fail
  refine (numE_c m2.out _ h3.out).mono ?_
  rintro e w4 ⟨rfl, B4⟩
  have h4 : Hid (Errs w4 al) := h3.out.below B4
  have A4 : Hid (Below w.heap.size w w4) := below_tr A3.out B4
  clear B4 h3 A3
  go_wp2_with fail
  refine (rsameT c1 _ l1).mono ?_
  rintro e w5 ⟨rfl, rfl⟩
  go_wp2_with fail
  refine (rsameT c2 _ l2).mono ?_
  rintro e w5 ⟨rfl, rfl⟩
  go_wp2_with fail
  refine (q3 _ h4.out).mono ?_
  rintro e w6 ⟨er6, rfl, n6, B6⟩
  have h6 : Hid (Errs w6 al) := h4.out.below B6
  have A6 : Hid (Below w.heap.size w w6) := below_tr A4.out B6
  have m6 : Hid (Er al er6 c6) := n6
  clear B6 h4 A4 n6
  go_wp2_with fail
  refine (q4 _).mono ?_
  rintro e w7 ⟨rfl, d7, rfl⟩
  have h7 : Hid (Errs (w6.drewN d7) al) := h6.out.drawn d7
  have A7 : Hid (Below w.heap.size w (w6.drewN d7)) := below_drewN A6.out d7
  clear h6 A6
  generalize w6.drewN d7 = w7 at *
  go_wp2_with fail
  refine (numE_c m6.out _ h7.out).mono ?_
  rintro e w8 ⟨rfl, B8⟩
  have h8 : Hid (Errs w8 al) := h7.out.below B8
  have A8 : Hid (Below w.heap.size w w8) := below_tr A7.out B8
  clear B8 h7 A7
  go_wp2_with fail
  refine (rsameT c4 _ l3).mono ?_
  rintro e w9 ⟨rfl, rfl⟩
  go_wp2_with fail
  refine (q5 _ h8.out).mono ?_
  rintro e w10 ⟨er10, rfl, n10, B10⟩
  have h10 : Hid (Errs w10 al) := h8.out.below B10
  have A10 : Hid (Below w.heap.size w w10) := below_tr A8.out B10
  have m10 : Hid (Er al er10 c6) := n10
  clear B10 h8 A8 n10
  go_wp2_with fail
  refine (q6 _).mono ?_
  rintro e w11 ⟨rfl, d11, rfl⟩
  have h11 : Hid (Errs (w10.drewN d11) al) := h10.out.drawn d11
  have A11 : Hid (Below w.heap.size w (w10.drewN d11)) := below_drewN A10.out d11
  clear h10 A10
  generalize w10.drewN d11 = w11 at *
  go_wp2_with fail
  refine (numE_c m10.out _ h11.out).mono ?_
  rintro e w12 ⟨rfl, B12⟩
  have h12 : Hid (Errs w12 al) := h11.out.below B12
  have A12 : Hid (Below w.heap.size w w12) := below_tr A11.out B12
  clear B12 h11 A11
  go_wp2_with fail
  refine (rsameT c5 _ l4).mono ?_
  rintro e w13 ⟨rfl, rfl⟩
  rcases hNH.out with ⟨rfl, hc⟩ | ⟨rfl, hc⟩
  · obtain ⟨x, y, lx, ly, ra, rb⟩ := q8.out hc
    clear q1 q2 q3 q4 q5 q6 q7 q8 hc hNH m2 m6 m10
    go_wp2_with fail
    refine (ra _).mono ?_
    rintro e w14 ⟨rfl, B14⟩
    have A14 : Hid (Below w.heap.size w w14) := below_tr A12.out B14
    clear B14 A12
    go_wp2_with fail
    refine (rb _).mono ?_
    rintro e w15 ⟨rfl, d15, rfl⟩
    go_wp2_with fail
    refine (same7_c x y x y _ lx ly lx ly rfl rfl).mono ?_
    rintro e w16 ⟨rfl, rfl⟩
    go_wp2_with fail
    go_ret
    exact ⟨rfl, below_drewN A14.out d15⟩
  · have q9 := fun w => q7.out w hc
    clear q1 q2 q3 q4 q5 q6 q7 q8 hc hNH m2 m6 m10
    go_wp2_with fail
    refine (q9 _ h12.out).mono ?_
    rintro e w14 ⟨rfl, B14⟩
    have h14 : Hid (Errs w14 al) := h12.out.below B14
    have A14 : Hid (Below w.heap.size w w14) := below_tr A12.out B14
    clear B14 A12 h12
    go_wp2_with fail
    refine (numE_c (Er.mk al 6 (by decide)) _ h14.out).mono ?_
    rintro e w15 ⟨rfl, B15⟩
    have A15 : Hid (Below w.heap.size w w15) := below_tr A14.out B15
    clear B15 A14
    go_wp2_with fail
    refine (same7_c 0 0 0 0 _ (by decide) (by decide) (by decide) (by decide) rfl rfl).mono ?_
    rintro e w16 ⟨rfl, rfl⟩
    go_wp2_with fail
    go_ret
    exact ⟨rfl, A15.out⟩
end Go.Proofs.YtbljgmipfclcoaaDoor
namespace Go.Proofs.YtbljgmipfclcoaaDoor.rootsReckoned
open Go.RowKit
theorem walk (x0 x1 x2 : Int) (w : World) (_l0 : -9223372036854775808 ≤ x0) (_u0 : x0 ≤ 9223372036854775807) (_l1 : -9223372036854775808 ≤ x1) (_u1 : x1 ≤ 9223372036854775807) (_l2 : -9223372036854775808 ≤ x2) (_u2 : x2 ≤ 9223372036854775807) (hL : laidMetH Tryd.prog Rows.rootsReckonedRow.laid w) :
    Calls Tryd.prog 3 #[.int .i64 x0, .int .i64 x1, .int .i64 x2] w fun e w' => e = .returned (.bool true) ∧ Below w.heap.size w w' := by
  obtain ⟨al, he⟩ := errs_of (W := w) hL
  exact reckoned_w x0 x1 x2 w al he
end Go.Proofs.YtbljgmipfclcoaaDoor.rootsReckoned
