/-
  The walk of RootsTurned.
-/
import Derived.Test.YtbljgmipfclcoaaDoorPx7
import Derived.Deep.Cut
import Derived.Test.YtbljgmipfclcoaaDoorRows
namespace Go.Proofs.YtbljgmipfclcoaaDoor
open Flo Go.RowKit
theorem root_at (n : Nat) (k : Int) (h : 0 < n) (hn : n ≤ 4194304) (x y : Nat) (ex : Rp.pc n (Rp.md n k) = x) (ey : Rp.pim n (Rp.md n k) = y) (N : Int) (eN : N = (n : Int)) (w : World) :
    Calls Tryd.prog 18 #[.int .i64 N, .int .i64 k] w fun e w' => e = .returned (.tuple #[.complex .f64 x y, .nilIface]) ∧ Below w.heap.size w w' := by
  subst ex ey eN; exact rootOk_c n k w h hn
theorem rsameU (a : Nat) (w : World) (ha : a < 18446744073709551616) :
    Calls Tryd.prog 13 #[.float .f64 a, .float .f64 a] w fun e w' => e = .returned (.bool true) ∧ w = w' := by
  have := rsame_c a a w ha ha
  rw [beq_self_eq_true] at this
  exact this
theorem tmod40 (k : Int) : -1099511627776 < k.tmod 1099511627776 ∧ k.tmod 1099511627776 < 1099511627776 :=
  ⟨by have := Int.lt_tmod_of_pos k (show (0 : Int) < 1099511627776 by omega); omega, Int.tmod_lt_of_pos k (by omega)⟩
theorem shl8 (m : Int) : ∃ j : Nat, j < 8 ∧ (IntKind.u64.wrap m).tmod 8 = (j : Int) := by
  rw [IntKind.wrap_u64, Int.tmod_eq_emod_of_nonneg (by omega)]
  exact ⟨(m % 18446744073709551616 % 8).toNat, by omega, by omega⟩
set_option maxRecDepth 100000 in
set_option maxHeartbeats 8000000 in
theorem turned_w (n k m : Int) (w : World) :
    Calls Tryd.prog 6 #[.int .i64 n, .int .i64 k, .int .i64 m] w fun e w' => e = .returned (.bool true) ∧ Below w.heap.size w w' := by
  obtain ⟨j, hj, ej⟩ := shl8 m
  have hfit := fit_c n k
  have hk : Hid (-1099511627776 < k.tmod 1099511627776 ∧ k.tmod 1099511627776 < 1099511627776) := tmod40 k
  generalize k.tmod 1099511627776 = K at *
  have ejH : Hid ((IntKind.u64.wrap m).tmod 8 = (j : Int)) := ej
  clear ej
  go_enter Tryd.func6, Tryd.ntmps6
  go_wp2_with fail
  refine (lives7_c _).mono ?_
  rintro e w1 ⟨rfl, B1⟩
  have A1 : Hid (Below w.heap.size w w1) := B1
  clear B1
  go_wp2_with fail
  refine (hfit _).mono ?_
  rintro e w2 ⟨N, rfl, N0, N1, rfl⟩
  clear hfit
  obtain ⟨k1, k2⟩ := hk.out
  have r1 := root_at N K N0 N1 _ _ rfl rfl _ rfl
  have r2 := root_at N (K + N) N0 N1 _ _ (by rw [Rp.md_add]) (by rw [Rp.md_add]) _ rfl
  have r3 := root_at N (-K) N0 N1 _ _ (Rp.root_back N0 N1 K).1 (Rp.root_back N0 N1 K).2 _ rfl
  have fx : Ari.fin (Rp.pc N (Rp.md N K)) := Rp.pc_fin _ N0 N1
  have fy : Ari.fin (Rp.pim N (Rp.md N K)) := Rp.pim_fin _ N0 N1
  have r4 : Hid (∀ J : Nat, N * 2 ^ J ≤ 4194304 → ∀ M : Int, M = ((N * 2 ^ J : Nat) : Int) → ∀ w, Calls Tryd.prog 18 #[.int .i64 M, .int .i64 (K * ((2 ^ J : Nat) : Int))] w fun e w' => e = .returned (.tuple #[.complex .f64 (Rp.pc N (Rp.md N K)) (Rp.pim N (Rp.md N K)), .nilIface]) ∧ Below w.heap.size w w') := fun J hJ M hM => root_at (N * 2 ^ J) _ (Nat.mul_pos N0 (Nat.two_pow_pos J)) hJ _ _ (Rp.root_scale N0 K J hJ).1 (Rp.root_scale N0 K J hJ).2 M hM
  have r5 : Hid (∀ t : Nat, N = 2 * t → ∀ w, Calls Tryd.prog 18 #[.int .i64 (N : Int), .int .i64 (K + t)] w fun e w' => e = .returned (.tuple #[.complex .f64 (Rp.zp (Ari.ng (Rp.pc N (Rp.md N K)))) (Rp.zp (Ari.ng (Rp.pim N (Rp.md N K)))), .nilIface]) ∧ Below w.heap.size w w') := fun t ht => root_at N _ N0 N1 _ _ (Rp.root_half N0 N1 ht K).1 (Rp.root_half N0 N1 ht K).2 _ rfl
  have r6 : Hid (∀ t : Nat, N = 4 * t → ∀ w, Calls Tryd.prog 18 #[.int .i64 (N : Int), .int .i64 (K + t)] w fun e w' => e = .returned (.tuple #[.complex .f64 (Rp.zp (Rp.pim N (Rp.md N K))) (Rp.zp (Ari.ng (Rp.pc N (Rp.md N K)))), .nilIface]) ∧ Below w.heap.size w w') := fun t ht => root_at N _ N0 N1 _ _ (Rp.root_quarter N0 N1 ht K).1 (Rp.root_quarter N0 N1 ht K).2 _ rfl
  have r7 := fun w => cosOk_c N K w N0 N1
  have r8 := fun w => sinOk_c N K w N0 N1
  rw [Rp.root_sine N0 N1 K] at r8
  have zx : Hid (Rp.zp (Rp.pc N (Rp.md N K)) = Rp.pc N (Rp.md N K)) := Rp.zp_pc _ _
  generalize Rp.pc N (Rp.md N K) = x at *
  generalize Rp.pim N (Rp.md N K) = y at *
  have lx := fx.1
  have ly := fy.1
  have nx := fun w => run_fneg (P := Tryd.prog) x w lx
  have ny := fun w => run_fneg (P := Tryd.prog) y w ly
  have nxy := fun w => run_cneg (P := Tryd.prog) x y w lx ly
  have gx : Hid (Ari.fin x) := fx
  have gy : Hid (Ari.fin y) := fy
  have gnx : Hid (Ari.fin (Ari.ng x)) := Ari.fin_ng fx
  have gny : Hid (Ari.fin (Ari.ng y)) := Ari.fin_ng fy
  have oo := order_zp (Ari.fin_ng fy)
  have oo' : (FloatKind.f64.format.order (Rp.zp (Ari.ng y)) (Ari.ng y) == some .eq) = true := beq_iff_eq.2 oo
  clear fx fy
  go_wp2_with fail
  refine (r1 _).mono ?_
  rintro e w3 ⟨rfl, B3⟩
  have A3 : Hid (Below w.heap.size w w3) := below_tr A1.out B3
  clear B3 A1
  go_wp2_with fail
  refine (r2 _).mono ?_
  rintro e w4 ⟨rfl, B4⟩
  have A4 : Hid (Below w.heap.size w w4) := below_tr A3.out B4
  clear B4 A3
  go_wp2_with fail
  refine (r3 _).mono ?_
  rintro e w5 ⟨rfl, B5⟩
  have A5 : Hid (Below w.heap.size w w5) := below_tr A4.out B5
  clear B5 A4
  go_wp2_with fail
  refine (same7_c x y x y _ lx ly lx ly rfl rfl).mono ?_
  rintro e w6 ⟨rfl, rfl⟩
  go_wp2_with fail
  refine (equal7_c x (Ari.ng y) _ gx.out gny.out).mono ?_
  rintro e w7 ⟨rfl, rfl⟩
  have ej := ejH.out
  clear r1 r2 r3
  go_upto_region 10 with fail
  have ep : wrap64 ((2 : Int) ^ j) = ((2 ^ j : Nat) : Int) := by
    have e : (2 : Int) ^ j = ((2 ^ j : Nat) : Int) := (Int.natCast_pow 2 j).symm
    have : 2 ^ j ≤ 2 ^ 7 := Nat.pow_le_pow_right (by omega) (by omega)
    rw [e]
    generalize 2 ^ j = P at *
    unfold wrap64
    omega
  rw [ep]
  have hP : 1 ≤ 2 ^ j ∧ 2 ^ j ≤ 128 := ⟨Nat.two_pow_pos j, by
    have : 2 ^ j ≤ 2 ^ 7 := Nat.pow_le_pow_right (by omega) (by omega)
    omega⟩
  have r4j := r4.out j
  clear r4 ep ej ejH hj
  generalize 2 ^ j = P at *
  obtain ⟨P1, P2⟩ := hP
  obtain ⟨M, hM⟩ : ∃ M, N * P = M := ⟨_, rfl⟩
  obtain ⟨Q, hQ⟩ : ∃ Q, K * (P : Int) = Q := ⟨_, rfl⟩
  have M1 : M ≤ 536870912 := by rw [← hM]; exact Nat.mul_le_mul N1 P2
  have Q1 : -140737488355328 ≤ Q := by
    have := Int.mul_le_mul_of_nonneg_right (show -1099511627776 ≤ K by omega) (show (0 : Int) ≤ (P : Int) by omega)
    omega
  have Q2 : Q ≤ 140737488355328 := by
    have := Int.mul_le_mul_of_nonneg_right (show K ≤ 1099511627776 by omega) (show (0 : Int) ≤ (P : Int) by omega)
    omega
  have hM' : (N : Int) * (P : Int) = (M : Int) := by rw [← hM, Int.natCast_mul]
  rw [hM, hQ] at r4j
  replace r4j : Hid (M ≤ 4194304 → ∀ w, Calls Tryd.prog 18 #[.int .i64 (M : Int), .int .i64 Q] w fun e w' => e = .returned (.tuple #[.complex .f64 x y, .nilIface]) ∧ Below w.heap.size w w') := fun h => r4j h _ rfl
  clear hM
  by_cases hle : M ≤ 4194304
  · have hle' : (M : Int) ≤ 4194304 := by omega
    have u4 := r4j.out hle
    clear r4j
    go_wp2_with fail
    refine (u4 _).mono ?_
    rintro e w8 ⟨rfl, B8⟩
    have A9 : Hid (Below w.heap.size w w8) := below_tr A5.out B8
    clear B8 A5 u4
    go_wp2_with fail
    refine (same7_c x y x y _ lx ly lx ly rfl rfl).mono ?_
    rintro e w9 ⟨rfl, rfl⟩
    clear hM' hQ
    by_cases c2 : N % 2 = 0
    · obtain ⟨t2, ht2⟩ : ∃ t, N = 2 * t := ⟨N / 2, by omega⟩
      have d2 : (N : Int).tmod 2 = 0 := by rw [Int.tmod_eq_emod_of_nonneg (by omega)]; omega
      have q2 : (N : Int).tdiv 2 = (t2 : Int) := by rw [Int.tdiv_eq_ediv_of_nonneg (by omega)]; omega
      have b2 : t2 ≤ 4194304 := by omega
      have ht2H : Hid (N = 2 * t2) := ht2
      by_cases c4 : N % 4 = 0
      · obtain ⟨t4, ht4⟩ : ∃ t, N = 4 * t := ⟨N / 4, by omega⟩
        have d4 : (N : Int).tmod 4 = 0 := by rw [Int.tmod_eq_emod_of_nonneg (by omega)]; omega
        have q4 : (N : Int).tdiv 4 = (t4 : Int) := by rw [Int.tdiv_eq_ediv_of_nonneg (by omega)]; omega
        have b4 : t4 ≤ 4194304 := by omega
        have u5 := r5.out t2 ht2
        have u6 := r6.out t4 ht4
        clear ht2 ht2H ht4 c2 c4
        go_wp2_with fail
        refine (u5 _).mono ?_
        rintro e w10 ⟨rfl, B10⟩
        have A10 : Hid (Below w.heap.size w w10) := below_tr A9.out B10
        clear B10 A9 u5
        go_wp2_with fail
        refine (equal7_c (Ari.ng x) (Ari.ng y) _ gnx.out gny.out).mono ?_
        rintro e w11 ⟨rfl, rfl⟩
        go_wp2_with fail
        refine (u6 _).mono ?_
        rintro e w12 ⟨rfl, B12⟩
        have A12 : Hid (Below w.heap.size w w12) := below_tr A10.out B12
        clear B12 A10 u6
        go_wp2_with fail
        refine (equal7_c y (Ari.ng x) _ gy.out gnx.out).mono ?_
        rintro e w13 ⟨rfl, rfl⟩
        clear r5 r6
        go_wp2_with fail
        refine (r7 _).mono ?_
        rintro e w14 ⟨rfl, B14⟩
        have A14 : Hid (Below w.heap.size w w14) := below_tr A12.out B14
        clear B14 A12 r7
        go_wp2_with fail
        refine (r8 _).mono ?_
        rintro e w15 ⟨rfl, B15⟩
        have A15 : Hid (Below w.heap.size w w15) := below_tr A14.out B15
        clear B15 A14 r8
        go_wp2_with fail
        refine (rsameU x _ lx).mono ?_
        rintro e w16 ⟨rfl, rfl⟩
        go_wp2_with fail
        go_ret
        exact ⟨rfl, A15.out⟩
      · have d4 : ((N : Int) % 4 == 0) = false := beq_eq_false_iff_ne.2 (by omega)
        have u5 := r5.out t2 ht2
        clear ht2 ht2H c2
        go_wp2_with fail
        refine (u5 _).mono ?_
        rintro e w10 ⟨rfl, B10⟩
        have A10 : Hid (Below w.heap.size w w10) := below_tr A9.out B10
        clear B10 A9 u5
        go_wp2_with fail
        refine (equal7_c (Ari.ng x) (Ari.ng y) _ gnx.out gny.out).mono ?_
        rintro e w11 ⟨rfl, rfl⟩
        have A12 := A10
        clear A10
        clear r5 r6
        go_wp2_with fail
        refine (r7 _).mono ?_
        rintro e w14 ⟨rfl, B14⟩
        have A14 : Hid (Below w.heap.size w w14) := below_tr A12.out B14
        clear B14 A12 r7
        go_wp2_with fail
        refine (r8 _).mono ?_
        rintro e w15 ⟨rfl, B15⟩
        have A15 : Hid (Below w.heap.size w w15) := below_tr A14.out B15
        clear B15 A14 r8
        go_wp2_with fail
        refine (rsameU x _ lx).mono ?_
        rintro e w16 ⟨rfl, rfl⟩
        go_wp2_with fail
        go_ret
        exact ⟨rfl, A15.out⟩
    · have d2 : ((N : Int) % 2 == 0) = false := beq_eq_false_iff_ne.2 (by omega)
      have d4 : ((N : Int) % 4 == 0) = false := beq_eq_false_iff_ne.2 (by omega)
      have A10 := A9
      clear A9
      have A12 := A10
      clear A10
      clear r5 r6
      go_wp2_with fail
      refine (r7 _).mono ?_
      rintro e w14 ⟨rfl, B14⟩
      have A14 : Hid (Below w.heap.size w w14) := below_tr A12.out B14
      clear B14 A12 r7
      go_wp2_with fail
      refine (r8 _).mono ?_
      rintro e w15 ⟨rfl, B15⟩
      have A15 : Hid (Below w.heap.size w w15) := below_tr A14.out B15
      clear B15 A14 r8
      go_wp2_with fail
      refine (rsameU x _ lx).mono ?_
      rintro e w16 ⟨rfl, rfl⟩
      go_wp2_with fail
      go_ret
      exact ⟨rfl, A15.out⟩
  · have hle' : decide ((M : Int) ≤ 4194304) = false := decide_eq_false (by omega)
    have A9 := A5
    clear A5 r4j
    by_cases c2 : N % 2 = 0
    · obtain ⟨t2, ht2⟩ : ∃ t, N = 2 * t := ⟨N / 2, by omega⟩
      have d2 : (N : Int).tmod 2 = 0 := by rw [Int.tmod_eq_emod_of_nonneg (by omega)]; omega
      have q2 : (N : Int).tdiv 2 = (t2 : Int) := by rw [Int.tdiv_eq_ediv_of_nonneg (by omega)]; omega
      have b2 : t2 ≤ 4194304 := by omega
      have ht2H : Hid (N = 2 * t2) := ht2
      by_cases c4 : N % 4 = 0
      · obtain ⟨t4, ht4⟩ : ∃ t, N = 4 * t := ⟨N / 4, by omega⟩
        have d4 : (N : Int).tmod 4 = 0 := by rw [Int.tmod_eq_emod_of_nonneg (by omega)]; omega
        have q4 : (N : Int).tdiv 4 = (t4 : Int) := by rw [Int.tdiv_eq_ediv_of_nonneg (by omega)]; omega
        have b4 : t4 ≤ 4194304 := by omega
        have u5 := r5.out t2 ht2
        have u6 := r6.out t4 ht4
        clear ht2 ht2H ht4 c2 c4
        go_wp2_with fail
        refine (u5 _).mono ?_
        rintro e w10 ⟨rfl, B10⟩
        have A10 : Hid (Below w.heap.size w w10) := below_tr A9.out B10
        clear B10 A9 u5
        go_wp2_with fail
        refine (equal7_c (Ari.ng x) (Ari.ng y) _ gnx.out gny.out).mono ?_
        rintro e w11 ⟨rfl, rfl⟩
        go_wp2_with fail
        refine (u6 _).mono ?_
        rintro e w12 ⟨rfl, B12⟩
        have A12 : Hid (Below w.heap.size w w12) := below_tr A10.out B12
        clear B12 A10 u6
        go_wp2_with fail
        refine (equal7_c y (Ari.ng x) _ gy.out gnx.out).mono ?_
        rintro e w13 ⟨rfl, rfl⟩
        clear r5 r6
        go_wp2_with fail
        refine (r7 _).mono ?_
        rintro e w14 ⟨rfl, B14⟩
        have A14 : Hid (Below w.heap.size w w14) := below_tr A12.out B14
        clear B14 A12 r7
        go_wp2_with fail
        refine (r8 _).mono ?_
        rintro e w15 ⟨rfl, B15⟩
        have A15 : Hid (Below w.heap.size w w15) := below_tr A14.out B15
        clear B15 A14 r8
        go_wp2_with fail
        refine (rsameU x _ lx).mono ?_
        rintro e w16 ⟨rfl, rfl⟩
        go_wp2_with fail
        go_ret
        exact ⟨rfl, A15.out⟩
      · have d4 : ((N : Int) % 4 == 0) = false := beq_eq_false_iff_ne.2 (by omega)
        have u5 := r5.out t2 ht2
        clear ht2 ht2H c2
        go_wp2_with fail
        refine (u5 _).mono ?_
        rintro e w10 ⟨rfl, B10⟩
        have A10 : Hid (Below w.heap.size w w10) := below_tr A9.out B10
        clear B10 A9 u5
        go_wp2_with fail
        refine (equal7_c (Ari.ng x) (Ari.ng y) _ gnx.out gny.out).mono ?_
        rintro e w11 ⟨rfl, rfl⟩
        have A12 := A10
        clear A10
        clear r5 r6
        go_wp2_with fail
        refine (r7 _).mono ?_
        rintro e w14 ⟨rfl, B14⟩
        have A14 : Hid (Below w.heap.size w w14) := below_tr A12.out B14
        clear B14 A12 r7
        go_wp2_with fail
        refine (r8 _).mono ?_
        rintro e w15 ⟨rfl, B15⟩
        have A15 : Hid (Below w.heap.size w w15) := below_tr A14.out B15
        clear B15 A14 r8
        go_wp2_with fail
        refine (rsameU x _ lx).mono ?_
        rintro e w16 ⟨rfl, rfl⟩
        go_wp2_with fail
        go_ret
        exact ⟨rfl, A15.out⟩
    · have d2 : ((N : Int) % 2 == 0) = false := beq_eq_false_iff_ne.2 (by omega)
      have d4 : ((N : Int) % 4 == 0) = false := beq_eq_false_iff_ne.2 (by omega)
      have A10 := A9
      clear A9
      have A12 := A10
      clear A10
      clear r5 r6
      go_wp2_with fail
      refine (r7 _).mono ?_
      rintro e w14 ⟨rfl, B14⟩
      have A14 : Hid (Below w.heap.size w w14) := below_tr A12.out B14
      clear B14 A12 r7
      go_wp2_with fail
      refine (r8 _).mono ?_
      rintro e w15 ⟨rfl, B15⟩
      have A15 : Hid (Below w.heap.size w w15) := below_tr A14.out B15
      clear B15 A14 r8
      go_wp2_with fail
      refine (rsameU x _ lx).mono ?_
      rintro e w16 ⟨rfl, rfl⟩
      go_wp2_with fail
      go_ret
      exact ⟨rfl, A15.out⟩
end Go.Proofs.YtbljgmipfclcoaaDoor
namespace Go.Proofs.YtbljgmipfclcoaaDoor.rootsTurned
open Go.RowKit
theorem walk (x0 x1 x2 : Int) (w : World) (_l0 : -9223372036854775808 ≤ x0) (_u0 : x0 ≤ 9223372036854775807) (_l1 : -9223372036854775808 ≤ x1) (_u1 : x1 ≤ 9223372036854775807) (_l2 : -9223372036854775808 ≤ x2) (_u2 : x2 ≤ 9223372036854775807) (_hL : laidMetH Tryd.prog Rows.rootsTurnedRow.laid w) :
    Calls Tryd.prog 6 #[.int .i64 x0, .int .i64 x1, .int .i64 x2] w fun e w' => e = .returned (.bool true) ∧ Below w.heap.size w w' := turned_w x0 x1 x2 w
end Go.Proofs.YtbljgmipfclcoaaDoor.rootsTurned
