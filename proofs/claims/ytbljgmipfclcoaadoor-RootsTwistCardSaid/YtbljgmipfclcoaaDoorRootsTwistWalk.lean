/-
  The walk of RootsTwist.
-/
import Derived.Test.YtbljgmipfclcoaaDoorPu7
import Derived.Test.YtbljgmipfclcoaaDoorPv7
import Derived.Test.YtbljgmipfclcoaaDoorLaid
import Derived.Test.YtbljgmipfclcoaaDoorRows
namespace Go.Proofs.YtbljgmipfclcoaaDoor
open Flo Go.RowKit
set_option maxHeartbeats 4000000 in
theorem twist_w (a b : Nat) (n k : Int) (w : World) (al : List Addr) (he : Errs w al) (ha : a < 18446744073709551616) (hb : b < 18446744073709551616) :
    Calls Tryd.prog 4 #[.int .u64 a, .int .u64 b, .int .i64 n, .int .i64 k] w fun e w' => e = .returned (.bool true) ∧ Below w.heap.size w w' := by
  have hf := run_frombits
  have h0 : Hid (Errs w al) := he
  clear he
  cases hc : cu n
  · have q1 := fun w he => twistNo_c a b n k w al he hc
    have hn : ¬ (1 ≤ n ∧ n ≤ 4194304) := of_decide_eq_false hc
    clear hc
    by_cases hn1 : n < 1
    · clear hn
      go_enter Tryd.func4, Tryd.ntmps4
      go_wp2_with fail
      refine (lives7_c _).mono ?_
      rintro e w1 ⟨rfl, B1⟩
      have h1 : Hid (Errs w1 al) := h0.out.below B1
      have A1 : Hid (Below w.heap.size w w1) := B1
      clear B1 h0
      go_wp2_with fail
      refine (q1 _ h1.out).mono ?_
      rintro e w2 ⟨rfl, B2⟩
      have h2 : Hid (Errs w2 al) := h1.out.below B2
      have A2 : Hid (Below w.heap.size w w2) := below_tr A1.out B2
      clear B2 h1 A1
      go_wp2_with fail
      refine (numE_c (Er.mk al 6 (by decide)) _ h2.out).mono ?_
      rintro e w3 ⟨rfl, B3⟩
      have A3 : Hid (Below w.heap.size w w3) := below_tr A2.out B3
      clear B3 A2
      go_wp2_with fail
      refine (same7_c 0 0 0 0 _ (by decide) (by decide) (by decide) (by decide) rfl rfl).mono ?_
      rintro e w4 ⟨rfl, rfl⟩
      go_wp2_with fail
      go_ret
      exact ⟨rfl, A3.out⟩
    · have hn2 : n > 4194304 := by omega
      have hn1' : decide (n < 1) = false := decide_eq_false hn1
      clear hn
      go_enter Tryd.func4, Tryd.ntmps4
      go_wp2_with fail
      refine (lives7_c _).mono ?_
      rintro e w1 ⟨rfl, B1⟩
      have h1 : Hid (Errs w1 al) := h0.out.below B1
      have A1 : Hid (Below w.heap.size w w1) := B1
      clear B1 h0
      go_wp2_with fail
      refine (q1 _ h1.out).mono ?_
      rintro e w2 ⟨rfl, B2⟩
      have h2 : Hid (Errs w2 al) := h1.out.below B2
      have A2 : Hid (Below w.heap.size w w2) := below_tr A1.out B2
      clear B2 h1 A1
      go_wp2_with fail
      refine (numE_c (Er.mk al 6 (by decide)) _ h2.out).mono ?_
      rintro e w3 ⟨rfl, B3⟩
      have A3 : Hid (Below w.heap.size w w3) := below_tr A2.out B3
      clear B3 A2
      go_wp2_with fail
      refine (same7_c 0 0 0 0 _ (by decide) (by decide) (by decide) (by decide) rfl rfl).mono ?_
      rintro e w4 ⟨rfl, rfl⟩
      go_wp2_with fail
      go_ret
      exact ⟨rfl, A3.out⟩
  · obtain ⟨h1, h2⟩ := cu_t hc
    obtain ⟨m, rfl⟩ := Int.eq_ofNat_of_zero_le (show 0 ≤ n by omega)
    have g1 : decide ((m : Int) < 1) = false := decide_eq_false (by omega)
    have g2 : decide ((m : Int) > 4194304) = false := decide_eq_false (by omega)
    have hm0 : 0 < m := by omega
    have hm1 : m ≤ 4194304 := by omega
    clear hc h1 h2 h0
    by_cases hk : k.tmod m = 0
    · have q1 := fun w => twistId_c a b m k w hm0 hm1 hk
      have q2 := fun w => r7TwistId_c a b m k w hm0 hm1 hk
      clear hk
      go_enter Tryd.func4, Tryd.ntmps4
      go_wp2_with fail
      refine (lives7_c _).mono ?_
      rintro e w1 ⟨rfl, B1⟩
      have A1 : Hid (Below w.heap.size w w1) := B1
      clear B1
      go_wp2_with fail
      refine (q1 _).mono ?_
      rintro e w2 ⟨rfl, B2⟩
      have A2 : Hid (Below w.heap.size w w2) := below_tr A1.out B2
      clear B2 A1
      go_wp2_with fail
      refine (q2 _).mono ?_
      rintro e w3 ⟨rfl, d3, rfl⟩
      go_wp2_with fail
      refine (same7_c a b a b _ ha hb ha hb rfl rfl).mono ?_
      rintro e w4 ⟨rfl, rfl⟩
      go_wp2_with fail
      go_ret
      exact ⟨rfl, below_drewN A2.out d3⟩
    · have q1 := fun w => twistOk_c a b m k w hm0 hm1 hk
      have q2 := fun w => r7TwistOk_c a b m k w hm0 hm1 hk
      clear hk
      generalize mulRe a b (Rp.pc m (Rp.md m k)) (Rp.pim m (Rp.md m k)) = X at *
      generalize mulIm a b (Rp.pc m (Rp.md m k)) (Rp.pim m (Rp.md m k)) = Y at *
      go_enter Tryd.func4, Tryd.ntmps4
      go_wp2_with fail
      refine (lives7_c _).mono ?_
      rintro e w1 ⟨rfl, B1⟩
      have A1 : Hid (Below w.heap.size w w1) := B1
      clear B1
      go_wp2_with fail
      refine (q1 _).mono ?_
      rintro e w2 ⟨x, y, rfl, lx, ly, ex, ey, B2⟩
      have A2 : Hid (Below w.heap.size w w2) := below_tr A1.out B2
      have Ex : Hid (bt x = X) := ex
      have Ey : Hid (bt y = Y) := ey
      clear B2 A1 ex ey
      go_wp2_with fail
      refine (q2 _).mono ?_
      rintro e w3 ⟨x', y', d3, rfl, rfl, lx', ly', ex', ey'⟩
      refine id ?_
      have Ex' : Hid (bt x = bt x') := Ex.out.trans ex'.symm
      have Ey' : Hid (bt y = bt y') := Ey.out.trans ey'.symm
      clear ex' ey' Ex Ey
      go_wp2_with fail
      refine (same7_c x y x' y' _ lx ly lx' ly' Ex'.out Ey'.out).mono ?_
      rintro e w4 ⟨rfl, rfl⟩
      go_wp2_with fail
      go_ret
      exact ⟨rfl, below_drewN A2.out d3⟩
end Go.Proofs.YtbljgmipfclcoaaDoor
namespace Go.Proofs.YtbljgmipfclcoaaDoor.rootsTwist
open Go.RowKit
theorem walk (x0 x1 x2 x3 : Int) (w : World) (l0 : 0 ≤ x0) (u0 : x0 ≤ 18446744073709551615) (l1 : 0 ≤ x1) (u1 : x1 ≤ 18446744073709551615) (_l2 : -9223372036854775808 ≤ x2) (_u2 : x2 ≤ 9223372036854775807) (_l3 : -9223372036854775808 ≤ x3) (_u3 : x3 ≤ 9223372036854775807) (hL : laidMetH Tryd.prog Rows.rootsTwistRow.laid w) :
    Calls Tryd.prog 4 #[.int .u64 x0, .int .u64 x1, .int .i64 x2, .int .i64 x3] w fun e w' => e = .returned (.bool true) ∧ Below w.heap.size w w' := by
  obtain ⟨n0, rfl⟩ := Int.eq_ofNat_of_zero_le l0
  obtain ⟨n1, rfl⟩ := Int.eq_ofNat_of_zero_le l1
  obtain ⟨al, he⟩ := errs_of (W := w) hL
  exact twist_w n0 n1 x2 x3 w al he (by omega) (by omega)
end Go.Proofs.YtbljgmipfclcoaaDoor.rootsTwist
