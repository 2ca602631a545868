/-
  The walk of ChirpNumbers.
-/
import Derived.Test.YtgfmimmiaalhcaaDoorCk1
import Derived.Test.YtgfmimmiaalhcaaDoorLaid
import Derived.Test.YtgfmimmiaalhcaaDoorRows
namespace Go.Proofs.YtgfmimmiaalhcaaDoor
open Flo Go.RowKit
set_option maxRecDepth 100000 in
set_option maxHeartbeats 4000000 in
theorem numbers_w (n j : Int) (w : World) (al : List Addr) (he : Errs w al) :
    Calls Tryd.prog 3 #[.int .i64 n, .int .i64 j] w fun e w' => e = .returned (.bool true) ∧ Below w.heap.size w w' := by
  have h0 : Hid (Errs w al) := he
  have hlim : Hid ((ca n j).1 < 18446744073709551616 ∧ (ca n j).2 < 18446744073709551616) := ca_lim n j
  have c1 : Hid (∀ W, Errs W al → Calls Tryd.prog 9 #[.int .i64 n, .int .i64 j] W fun e w' => ∃ er, e = .returned (.tuple #[.complex .f64 (ca n j).1 (ca n j).2, er]) ∧ Er al er (ce n) ∧ Below W.heap.size W w') := fun W hW => pAt_c n j W al hW
  have c2 : Hid (∀ W, Calls Tryd.prog 10 #[.int .i64 n, .int .i64 j] W fun e w' => e = .returned (.tuple #[.complex .f64 (ca n j).1 (ca n j).2, .int .i64 (ce n : Nat)]) ∧ ∃ d, w' = W.drewN d) := fun W => rAt_c n j W
  have c3 : Hid (∀ W, Calls Tryd.prog 13 #[.int .i64 n] W fun e w' => e = .returned (.int .i64 (cl n)) ∧ w' = W) := fun W => pLeast_c n W
  have c4 : Hid (∀ W, Calls Tryd.prog 14 #[.int .i64 n] W fun e w' => e = .returned (.int .i64 (cl n)) ∧ w' = W) := fun W => rLeast_c n W
  clear he
  generalize ca n j = z at *
  generalize ce n = k at *
  generalize cl n = K at *
  obtain ⟨x, y⟩ := z
  go_enter Tryd.func3, Tryd.ntmps3
  go_wp2_with fail
  refine (lives13_c _).mono ?_
  rintro e w1 ⟨rfl, B1⟩
  have h1 : Hid (Errs w1 al) := h0.out.below B1
  have A1 : Hid (Below w.heap.size w w1) := B1
  clear B1 h0
  go_wp2_with fail
  refine (c1.out _ h1.out).mono ?_
  rintro e w2 ⟨er, rfl, hEr, B2⟩
  have hE : Hid (Er al er k) := hEr
  have h2 : Hid (Errs w2 al) := h1.out.below B2
  have A2 : Hid (Below w.heap.size w w2) := below_tr A1.out B2
  clear B2 h1 A1 hEr
  go_wp2_with fail
  refine (c2.out _).mono ?_
  rintro e w3 ⟨rfl, d, rfl⟩
  have h3 : Hid (Errs (w2.drewN d) al) := h2.out.below (below_drewN (Below.refl _ _) d)
  have A3 : Hid (Below w.heap.size w (w2.drewN d)) := below_drewN A2.out d
  clear h2 A2
  generalize w2.drewN d = w3 at *
  go_wp2_with fail
  refine (numE_c hE.out _ h3.out).mono ?_
  rintro e w4 ⟨rfl, B4⟩
  have h4 : Hid (Errs w4 al) := h3.out.below B4
  have A4 : Hid (Below w.heap.size w w4) := below_tr A3.out B4
  clear B4 h3 A3
  go_wp2_with fail
  refine (same13_c x y x y _ hlim.out.1 hlim.out.2 hlim.out.1 hlim.out.2 (Lk.refl _)).mono ?_
  rintro e w5 ⟨rfl, rfl⟩
  go_wp2_with fail
  refine (c3.out _).mono ?_
  rintro e w5 ⟨rfl, rfl⟩
  go_wp2_with fail
  refine (c4.out _).mono ?_
  rintro e w6 ⟨rfl, rfl⟩
  go_wp2_with fail
  refine (pSize_c n _ al h4.out).mono ?_
  rintro e w7 ⟨s, k2, er2, rfl, hS, hEr2, B7⟩
  have hSH : Hid (SzE n s k2) := hS
  have hE2 : Hid (Er al er2 k2) := hEr2
  have h7 : Hid (Errs w7 al) := h4.out.below B7
  have A7 : Hid (Below w.heap.size w w7) := below_tr A4.out B7
  clear hS hEr2 B7 h4 A4
  go_wp2_with fail
  refine (rSize_c n _).mono ?_
  rintro e w8 ⟨s2, k3, rfl, hS2, rfl⟩
  obtain ⟨rfl, rfl⟩ := hSH.out.uniq hS2
  clear hS2 hSH
  go_wp2_with fail
  refine (numE_c hE2.out _ h7.out).mono ?_
  rintro e w9 ⟨rfl, B9⟩
  have A9 : Hid (Below w.heap.size w w9) := below_tr A7.out B9
  clear B9
  go_wp2_with fail
  go_ret
  exact ⟨rfl, A9.out⟩
end Go.Proofs.YtgfmimmiaalhcaaDoor
namespace Go.Proofs.YtgfmimmiaalhcaaDoor.chirpNumbers
open Go.RowKit
theorem walk (x0 x1 : Int) (w : World) (_l0 : -9223372036854775808 ≤ x0) (_u0 : x0 ≤ 9223372036854775807) (_l1 : -9223372036854775808 ≤ x1) (_u1 : x1 ≤ 9223372036854775807) (hL : laidMetH Tryd.prog Rows.chirpNumbersRow.laid w) :
    Calls Tryd.prog 3 #[.int .i64 x0, .int .i64 x1] w fun e w' => e = .returned (.bool true) ∧ Below w.heap.size w w' := by
  obtain ⟨al, he⟩ := errs_of (W := w) hL
  exact numbers_w x0 x1 w al he
end Go.Proofs.YtgfmimmiaalhcaaDoor.chirpNumbers
