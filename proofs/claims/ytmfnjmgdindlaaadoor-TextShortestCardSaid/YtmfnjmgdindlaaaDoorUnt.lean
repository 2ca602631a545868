/-
  The program's units and scaleOf.
-/
import Derived.Test.YtmfnjmgdindlaaaDoorQf
import Derived.Handy
import Derived.Deep.RegionWith
import Derived.BigRegion
namespace Go.Proofs.YtmfnjmgdindlaaaDoor
open Flo Go.RowKit
theorem nw_mul {U n k : Nat} (h : Wd.nw W64 U ≤ k) (hn : n < W64) : Wd.nw W64 (U * n + 0) ≤ k + 1 := by
  apply Wd.nw_le W64_2
  rw [Nat.add_zero, Nat.pow_succ]
  exact Nat.mul_lt_mul'' (Nat.lt_of_lt_of_le (Wd.lt_pow_nw W64_2 U) (Nat.pow_le_pow_right W64_0 h)) hn
set_option maxRecDepth 100000 in
set_option maxHeartbeats 2000000 in
theorem units_c (B C U D n : Nat) (u v : Value) (w : World) (hu : Hid (Nl w B u U)) (hv : Hid (Nl w C v D)) (hD : Hid (0 < D)) (hn : Hid (0 < n)) (hn6 : Hid (n < 18446744073709551616)) (hq : Hid (U * n / D < 18446744073709551616)) (hU1 : Hid (Wd.nw W64 U ≤ 1000)) (hD1 : Hid (Wd.nw W64 D ≤ 1000)) :
    Calls Tryd.prog 62 #[.agg #[u, v], .int .u64 n] w fun e w' => e = .returned (.tuple #[.int .u64 ((U * n / D : Nat) : Int), .bool (decide (U * n % D = 0))]) ∧ Below w.heap.size w w' := by
  have hUn : Hid (Wd.nw W64 (U * n + 0) ≤ 1001) := nw_mul hU1.out hn6.out
  go_enter Tryd.func62, Tryd.ntmps62
  go_wp2_with fail
  generalize hW : w.alloc (.cells #[u, v] 89) = W
  have hbW : Hid (Below w.heap.size w W) := by rw [← hW]; exact (Below.refl _ _).alloc (Nat.le_refl _) _
  have hc0 : W.cell? ⟨w.heap.size, 0, none⟩ = some u := by rw [← hW]; simp
  have hc1 : W.cell? ⟨w.heap.size, 1, none⟩ = some v := by rw [← hW]; simp
  have hWs : Hid (w.heap.size + 1 = W.heap.size) := by show _ = _; rw [← hW]; simp
  have huW : Hid (Nl W B u U) := Row.under hu.out hbW.out
  have hvW : Hid (Nl W C v D) := Row.under hv.out hbW.out
  clear hW hu hv
  have hnw1 : Hid (Wd.nw W64 U ≤ 1000000) := Nat.le_trans hU1.out (by decide)
  have hc1H : Hid (∀ w', Below W.heap.size W w' → w'.cell? ⟨w.heap.size, 1, none⟩ = some v) := fun w' hb => (hb.cell (p := ⟨w.heap.size, 1, none⟩) (by have := hWs.out; show w.heap.size < _; omega)).trans hc1
  go_region_with (first
    | (go_at_call 76; refine (clone_c B U u W.drew huW.out hnw1.out).mono ?_; rintro e w1 ⟨u1, rfl, hu1, hb1⟩; have hu1H : Hid (Nl w1 W.heap.size u1 U) := hu1; have hb1H : Hid (Below W.heap.size W w1) := ⟨hb1.os, hb1.tape, hb1.output, hb1.size, hb1.block⟩; have hcc := hc1H.out w1 hb1H.out; clear hu1 hb1)
    | (go_at_call 55; refine (timesPlus_c W.heap.size U n 0 u1 w1 hb1H.out.size hu1H.out hnw1.out hn6.out hn.out (by decide)).mono ?_; rintro e w2 ⟨u2, rfl, hu2, hb2, _⟩; have hu2H : Hid (Nl w2 W.heap.size u2 (U * n + 0)) := hu2; have hb2H : Hid (Below W.heap.size W w2) := hb1H.out.trans hb2; have hcc2 := hc1H.out w2 hb2H.out; have hv2 : Hid (Nl w2 C v D) := Row.under hvW.out hb2H.out; clear hu2 hb2)
    | (go_at_call 59; refine (over_c W.heap.size C (U * n + 0) D 1001 u2 v w2 hu2H.out hv2.out hD.out hq.out (by decide) hUn.out (Nat.le_trans hD1.out (by decide))).mono ?_; rintro e w3 ⟨r3, rfl, hr3, hb3⟩; have hr3H : Hid (Nl w3 w2.heap.size r3 ((U * n + 0) % D)) := hr3; have hbw : Hid (Below w.heap.size w w3) := hbW.out.trans ((hb2H.out.trans (hb3.mono hb2H.out.size)).mono hbW.out.size); clear hr3 hb3))
  all_goals
    obtain ⟨ao, cap, hr3e⟩ := Row.slice hr3H.out
    subst hr3e
    have hz := nw_zero_iff ((U * n + 0) % D)
    rw [Nat.add_zero] at hz
    clear hr3H
    generalize Wd.nw W64 ((U * n + 0) % D) = k at hz ⊢
    have hk : Hid (((k : Int) == 0) = decide (U * n % D = 0)) := by
      show _ = _
      by_cases h : U * n % D = 0
      · rw [hz.2 h, h]; rfl
      · have h' : k ≠ 0 := fun e => h (hz.1 e)
        rw [decide_eq_false h]
        exact beq_eq_false_iff_ne.2 (by omega)
    clear hz
    go_wp2
    go_ret2
    refine ⟨?_, hbw.out⟩
    rw [← hk.out]
    simp
end Go.Proofs.YtmfnjmgdindlaaaDoor
