/-
  The statements' own 'lives', 'same' and 'fit' of layer 7; the document's Mul and Twist.
-/
import Derived.Test.YtbljgmipfclcoabDoorPt7
import Derived.Test.YtbljgmipfclcoabDoorRef
namespace Go.Proofs.YtbljgmipfclcoabDoor
open Flo Go.RowKit

set_option maxHeartbeats 1000000 in
theorem same7_c (a b c d : Nat) (w : World) (ha : a < 18446744073709551616) (hb : b < 18446744073709551616) (hc : c < 18446744073709551616) (hd : d < 18446744073709551616) (h1 : bt a = bt c) (h2 : bt b = bt d) :
    Calls Tryd.prog 8 #[.complex .f64 a b, .complex .f64 c d] w fun e w' => e = .returned (.bool true) ∧ w = w' := by
  have s1 := rsame_c a c
  have s2 := rsame_c b d
  have e1 : ((bt a : Int) == (bt c : Int)) = true := by rw [h1]; exact beq_self_eq_true _
  have e2 : ((bt b : Int) == (bt d : Int)) = true := by rw [h2]; exact beq_self_eq_true _
  clear h1 h2
  go_enter Tryd.func8, Tryd.ntmps8
  go_wp2_with fail
  refine (s1 _ ha hc).mono ?_
  rintro e w1 ⟨rfl, rfl⟩
  rw [e1]
  go_wp2_with fail
  refine (s2 _ hb hd).mono ?_
  rintro e w2 ⟨rfl, rfl⟩
  rw [e2]
  go_wp2_with fail
  go_ret
  exact ⟨rfl, rfl⟩
theorem w41 : Rp.pc 4 (Rp.md 4 1) = 0 ∧ Rp.pim 4 (Rp.md 4 1) = 13830554455654793216 := by decide +kernel
theorem w81 : Rp.pc 8 (Rp.md 8 1) = 4604544271217802189 := by decide +kernel
theorem e18 : Rp.eiC 1 8 = 4604544271217802189 ∧ Rp.eiS 1 8 = 4604544271217802189 := by decide +kernel
theorem w42 : Rp.pc 4 2 = 13830554455654793216 ∧ Rp.pim 4 2 = 0 := by decide +kernel
set_option maxHeartbeats 2000000 in
theorem lives7_c (w : World) :
    Calls Tryd.prog 4 #[] w fun e w' => e = .returned (.bool true) ∧ Below w.heap.size w w' := by
  have hf := run_frombits
  have c1 := fun w => rootOk_c 4 1 w (by decide) (by decide)
  rw [w41.1, w41.2] at c1
  have c2 := fun w => rootOk_c 8 1 w (by decide) (by decide)
  rw [w81] at c2
  have c3 := fun w => EighthOk_c 1 8 w (by decide) (by decide) (by decide)
  rw [e18.1, e18.2] at c3
  have c4 := fun w => allOk_c 4 w (by decide) (by decide)
  go_enter Tryd.func4, Tryd.ntmps4
  go_wp2_with fail
  refine (c1 _).mono ?_
  rintro e w1 ⟨rfl, B1⟩
  go_wp2_with fail
  refine (c2 _).mono ?_
  rintro e w2 ⟨rfl, B2⟩
  go_wp2_with fail
  refine (c3 _).mono ?_
  rintro e w3 ⟨rfl, B3⟩
  · go_wp2_with fail
    refine (c4 _).mono ?_
    rintro e w4 ⟨G, rfl, hG, hrow, B4⟩
    have B : Hid (Below w.heap.size w w4) := below_tr (below_tr (below_tr B1 B2) B3) B4
    have cell := hrow.cellAt 2 (by decide)
    clear B1 B2 B3 B4 c1 c2 c3 c4
    have cell2 : w4.cell? ⟨G, 2, none⟩ = some (.complex .f64 13830554455654793216 0) := by
      rw [cell]
      simp [cz, rl, rlv, w42]
    clear cell hrow
    have o1 : FloatKind.f64.format.order 0 0 = some .eq := by decide +kernel
    have o2 : FloatKind.f64.format.order 13830554455654793216 13830554455654793216 = some .eq := by decide +kernel
    have o3 : FloatKind.f64.format.order 4604544271217802189 4604544271217802189 = some .eq := by decide +kernel
    go_wp2_with fail
    go_ret
    exact ⟨rfl, B.out⟩
theorem fit_c (n k : Int) (w : World) :
    Calls Tryd.prog 6 #[.int .i64 n, .int .i64 k] w fun e w' => ∃ N : Nat, e = .returned (.tuple #[.int .i64 (N : Int), .int .i64 (k.tmod 1099511627776)]) ∧ 0 < N ∧ N ≤ 4194304 ∧ w' = w := by
  have hb : 0 ≤ (n % 18446744073709551616) % 4194304 ∧ (n % 18446744073709551616) % 4194304 < 4194304 := by omega
  obtain ⟨b1, b2⟩ := hb
  go_enter Tryd.func6, Tryd.ntmps6
  go_wp2
  go_ret2
  refine ⟨(1 + n % 18446744073709551616 % 4194304).toNat, ?_, by omega, by omega, rfl⟩
  have e : wrap64 (1 + wrap64 ((IntKind.u64.wrap n).tmod 4194304)) = ((1 + n % 18446744073709551616 % 4194304).toNat : Int) := by
    rw [IntKind.wrap_u64, Int.tmod_eq_emod_of_nonneg (by omega)]
    unfold wrap64
    omega
  rw [e]
  rfl
theorem md_zero {n : Nat} (h : 0 < n) {k : Int} : Rp.md n k = 0 ↔ k.tmod n = 0 := by
  have e := Rp.md_eq h k
  have : k.tmod n = 0 ↔ k % (n : Int) = 0 := by
    rw [← Int.dvd_iff_tmod_eq_zero, Int.dvd_iff_emod_eq_zero]
  rw [this, ← e]
  omega
end Go.Proofs.YtbljgmipfclcoabDoor
