/-
  The walk of RootsTwisted.
-/
import Derived.Test.YtbljgmipfclcoabDoorTw7
import Derived.Test.YtbljgmipfclcoabDoorRows
namespace Go.Proofs.YtbljgmipfclcoabDoor
open Flo Go.RowKit
theorem run_cnegT {P : Program} (x y : Nat) (w : World) (h : x < 18446744073709551616) (h' : y < 18446744073709551616) : (Op.unary .neg (.complex .f64 x y)).run P w = .ok (.complex .f64 (Ari.ng x) (Ari.ng y)) w := by
  have e : (Op.unary .neg (.complex .f64 x y)).run P w = .ok (.complex .f64 (Op.negFloat .f64 x) (Op.negFloat .f64 y)) w := by simp [Op.unary]
  rw [e, negFloat_eq h, negFloat_eq h']
theorem order_fz {x y : Nat} (hx : Ari.fin x) (hy : Ari.fin y) (h : Ari.fz x = Ari.fz y) : FloatKind.f64.format.order x y = some .eq := by
  have := Ari.eq_fin hx hy
  rw [decide_eq_true h] at this
  exact beq_iff_eq.1 this
/-- twisted by a root that is a told one, where the product is finite -/
theorem twist_at (a b n : Nat) (k Nv : Int) (c d : Nat) (h : 0 < n) (hn : n ≤ 4194304) (eN : Nv = (n : Int)) (hk : k.tmod n ≠ 0) (ec : Rp.pc n (Rp.md n k) = c) (ed : Rp.pim n (Rp.md n k) = d) (f1 : Ari.fin (mulRe a b c d)) (f2 : Ari.fin (mulIm a b c d)) (w : World) :
    Calls Tryd.prog 7 #[.complex .f64 a b, .int .i64 Nv, .int .i64 k] w fun e w' => e = .returned (.tuple #[.complex .f64 (mulRe a b c d) (mulIm a b c d), .nilIface]) ∧ Below w.heap.size w w' := by
  subst eN
  have := twistOk_c a b n k w h hn hk
  rw [ec, ed] at this
  refine this.mono ?_
  rintro e w' ⟨x, y, rfl, _, _, ex, ey, B⟩
  rw [eq_of_bt ex (Ari.nan_fin f1), eq_of_bt ey (Ari.nan_fin f2)]
  exact ⟨rfl, B⟩
theorem twist_id (a b n : Nat) (k Nv : Int) (h : 0 < n) (hn : n ≤ 4194304) (eN : Nv = (n : Int)) (hk : k.tmod n = 0) (w : World) :
    Calls Tryd.prog 7 #[.complex .f64 a b, .int .i64 Nv, .int .i64 k] w fun e w' => e = .returned (.tuple #[.complex .f64 a b, .nilIface]) ∧ Below w.heap.size w w' := by
  subst eN; exact twistId_c a b n k w h hn hk
theorem half_at {n t : Nat} (h : n = 4 * t) (h0 : 0 < t) : Rp.pc n (Rp.md n ((2 * t : Nat) : Int)) = 13830554455654793216 ∧ Rp.pim n (Rp.md n ((2 * t : Nat) : Int)) = 0 := by
  rw [md_self (by omega)]
  have e := Rp.pair_at (n := n) (m := 2 * t) (q := 2) (by omega) (by omega)
  unfold Rp.pim
  rw [e.1, e.2]
  decide
theorem quarter_at {n t : Nat} (h : n = 4 * t) (h0 : 0 < t) : Rp.pc n (Rp.md n (t : Int)) = 0 ∧ Rp.pim n (Rp.md n (t : Int)) = 13830554455654793216 := by
  rw [md_self (by omega)]
  have e := Rp.pair_at (n := n) (m := t) (q := 1) (by omega) (by omega)
  unfold Rp.pim
  rw [e.1, e.2]
  decide
theorem tmod_small {n k : Nat} (h : k < n) (h0 : 0 < k) : ((k : Nat) : Int).tmod n ≠ 0 := by
  rw [Int.tmod_eq_emod_of_nonneg (by omega), Int.emod_eq_of_lt (by omega) (by omega)]
  omega
theorem fin_of_parts {x : Nat} (h : x < 18446744073709551616) (h1 : infB x = false) (h2 : nanB x = false) : Ari.fin x := by
  unfold infB at h1; unfold nanB at h2
  simp only [decide_eq_false_iff_not] at h1 h2
  exact ⟨h, by omega⟩
set_option maxRecDepth 100000 in
set_option maxHeartbeats 8000000 in
theorem twisted_w (a b : Nat) (n : Int) (w : World) (la : a < 18446744073709551616) (lb : b < 18446744073709551616) :
    Calls Tryd.prog 3 #[.int .u64 a, .int .u64 b, .int .i64 n] w fun e w' => e = .returned (.bool true) ∧ Below w.heap.size w w' := by
  have hf := run_frombits
  have hfit := fit_c n 0
  have ia := fun w => isInf_c a w la
  have ib := fun w => isInf_c b w lb
  have na := fun w => run_fneg (P := Tryd.prog) a w la
  have nab := fun w => run_cnegT (P := Tryd.prog) a b w la lb
  go_enter Tryd.func3, Tryd.ntmps3
  go_wp2_with fail
  refine (lives7_c _).mono ?_
  rintro e w1 ⟨rfl, B1⟩
  have A1 : Hid (Below w.heap.size w w1) := B1
  clear B1
  go_wp2_with fail
  refine (hfit _).mono ?_
  rintro e w2 ⟨N, rfl, N0, N1, rfl⟩
  clear hfit
  obtain ⟨q, hq⟩ : ∃ q, N / 4 = q := ⟨_, rfl⟩
  have hq' : (N : Int) / 4 = (q : Int) := by omega
  have hq1 : q ≤ 1048576 := by omega
  clear hq
  by_cases hgt : q = 1048576
  · subst hgt
    clear hq1
    obtain ⟨t, htH⟩ : ∃ t : Nat, Hid (t = 1048576) := ⟨1048576, rfl⟩
    obtain ⟨M, hMt⟩ : ∃ M, M = 4 * t := ⟨_, rfl⟩
    have hM0 : 0 < M := by have := htH.out; omega
    have hM1 : M ≤ 4194304 := by have := htH.out; omega
    have ht0 : 0 < t := by have := htH.out; omega
    have tI := twist_id a b M (-20971520) 4194304 hM0 hM1 (by have := htH.out; omega) (by have := htH.out; rw [show (-20971520 : Int) = -5 * (M : Int) by omega]; exact Int.mul_tmod_left _ _)
    have tHH : Hid (∀ c d : Nat, Rp.pc M (Rp.md M ((2 * t : Nat) : Int)) = c → Rp.pim M (Rp.md M ((2 * t : Nat) : Int)) = d → Ari.fin (mulRe a b c d) → Ari.fin (mulIm a b c d) → ∀ w, Calls Tryd.prog 7 #[.complex .f64 a b, .int .i64 4194304, .int .i64 2097152] w fun e w' => e = .returned (.tuple #[.complex .f64 (mulRe a b c d) (mulIm a b c d), .nilIface]) ∧ Below w.heap.size w w') := fun c d ec ed f1 f2 => by
      have e := htH.out
      have := twist_at a b M ((2 * t : Nat) : Int) 4194304 c d hM0 hM1 (by omega) (tmod_small (by omega) (by omega)) ec ed f1 f2
      rw [show ((2 * t : Nat) : Int) = 2097152 by omega] at this
      exact this
    have tQQ : Hid (∀ c d : Nat, Rp.pc M (Rp.md M (t : Int)) = c → Rp.pim M (Rp.md M (t : Int)) = d → Ari.fin (mulRe a b c d) → Ari.fin (mulIm a b c d) → ∀ w, Calls Tryd.prog 7 #[.complex .f64 a b, .int .i64 4194304, .int .i64 1048576] w fun e w' => e = .returned (.tuple #[.complex .f64 (mulRe a b c d) (mulIm a b c d), .nilIface]) ∧ Below w.heap.size w w') := fun c d ec ed f1 f2 => by
      have e := htH.out
      have := twist_at a b M (t : Int) 4194304 c d hM0 hM1 (by omega) (tmod_small (by omega) (by omega)) ec ed f1 f2
      rw [show (t : Int) = 1048576 by omega] at this
      exact this
    have hMtH : Hid (M = 4 * t) := hMt
    clear hMt hM0 hM1
    go_wp2_with fail
    refine (tI _).mono ?_
    rintro e w3 ⟨rfl, B3⟩
    have A3 : Hid (Below w.heap.size w w3) := below_tr A1.out B3
    clear B3 A1 tI
    go_wp2_with fail
    refine (same7_c a b a b _ la lb la lb rfl rfl).mono ?_
    rintro e w4 ⟨rfl, rfl⟩
    go_wp2_with fail
    refine (ia _).mono ?_
    rintro e w5 ⟨rfl, rfl⟩
    cases hia : infB a
    · go_wp2_with fail
      refine (ib _).mono ?_
      rintro e w6 ⟨rfl, rfl⟩
      cases hib : infB b
      · cases hna : nanB a
        · cases hnb : nanB b
          · have fa := fin_of_parts la hia hna
            have fb := fin_of_parts lb hib hnb
            obtain ⟨⟨h1, h2⟩, ⟨h3, h4⟩⟩ := Rp.half_mul fa fb
            obtain ⟨⟨k1, k2⟩, ⟨k3, k4⟩⟩ := Rp.quarter_mul fa fb
            have oa := order_fz fa fa rfl
            have ob := order_fz fb fb rfl
            have p1 := order_fz h1 (Ari.fin_ng fa) h2
            have p2 := order_fz h3 (Ari.fin_ng fb) h4
            have p3 := order_fz k1 fb k2
            have p4 := order_fz k3 (Ari.fin_ng fa) k4
            have tH := tHH.out _ _ (half_at hMtH.out ht0).1 (half_at hMtH.out ht0).2 h1 h3
            have tQ := tQQ.out _ _ (quarter_at hMtH.out ht0).1 (quarter_at hMtH.out ht0).2 k1 k3
            generalize mulRe a b 13830554455654793216 0 = X1 at *
            generalize mulIm a b 13830554455654793216 0 = Y1 at *
            generalize mulRe a b 0 13830554455654793216 = X2 at *
            generalize mulIm a b 0 13830554455654793216 = Y2 at *
            clear hna hnb hia hib fa fb h1 h2 h3 h4 k1 k2 k3 k4
            go_wp2_with fail
            refine (tH _).mono ?_
            rintro e w7 ⟨rfl, B7⟩
            have A7 : Hid (Below w.heap.size w w7) := below_tr A3.out B7
            clear B7 A3 tH
            go_wp2_with fail
            refine (tQ _).mono ?_
            rintro e w8 ⟨rfl, B8⟩
            have A8 : Hid (Below w.heap.size w w8) := below_tr A7.out B8
            clear B8 A7 tQ
            go_wp2_with fail
            go_ret
            exact ⟨rfl, A8.out⟩
          · have ob : FloatKind.f64.format.order b b = none := Flo.order_nan_left b b (of_decide_eq_true hnb)
            clear hna hnb hia hib
            go_wp2_with fail
            go_ret
            exact ⟨rfl, A3.out⟩
        · have oa : FloatKind.f64.format.order a a = none := Flo.order_nan_left a a (of_decide_eq_true hna)
          clear hna hia hib
          go_wp2_with fail
          go_ret
          exact ⟨rfl, A3.out⟩
      · go_wp2_with fail
        go_ret
        exact ⟨rfl, A3.out⟩
    · go_wp2_with fail
      go_ret
      exact ⟨rfl, A3.out⟩
  · obtain ⟨t, ht⟩ : ∃ t, 1 + q = t := ⟨_, rfl⟩
    obtain ⟨M, hMt⟩ : ∃ M, M = 4 * t := ⟨_, rfl⟩
    obtain ⟨T, hT⟩ : ∃ T, 2 * t = T := ⟨_, rfl⟩
    have hM0 : 0 < M := by omega
    have hM1 : M ≤ 4194304 := by omega
    have ht0 : 0 < t := by omega
    have hx : 4 * (1 + (q : Int)) = (M : Int) := by omega
    have hgtM : decide ((M : Int) > 4194304) = false := decide_eq_false (by omega)
    have e2 : (M : Int) / 2 = (T : Int) := by omega
    have e4 : (M : Int) / 4 = (t : Int) := by omega
    have tI := twist_id a b M (-5 * (M : Int)) M hM0 hM1 rfl (Int.mul_tmod_left _ _)
    have tHH : Hid (∀ c d : Nat, Rp.pc M (Rp.md M ((2 * t : Nat) : Int)) = c → Rp.pim M (Rp.md M ((2 * t : Nat) : Int)) = d → Ari.fin (mulRe a b c d) → Ari.fin (mulIm a b c d) → ∀ w, Calls Tryd.prog 7 #[.complex .f64 a b, .int .i64 (M : Int), .int .i64 (T : Int)] w fun e w' => e = .returned (.tuple #[.complex .f64 (mulRe a b c d) (mulIm a b c d), .nilIface]) ∧ Below w.heap.size w w') := fun c d ec ed f1 f2 => by
      have := twist_at a b M ((2 * t : Nat) : Int) M c d hM0 hM1 rfl (tmod_small (by omega) (by omega)) ec ed f1 f2
      rw [hT] at this
      exact this
    have tQQ : Hid (∀ c d : Nat, Rp.pc M (Rp.md M (t : Int)) = c → Rp.pim M (Rp.md M (t : Int)) = d → Ari.fin (mulRe a b c d) → Ari.fin (mulIm a b c d) → ∀ w, Calls Tryd.prog 7 #[.complex .f64 a b, .int .i64 (M : Int), .int .i64 (t : Int)] w fun e w' => e = .returned (.tuple #[.complex .f64 (mulRe a b c d) (mulIm a b c d), .nilIface]) ∧ Below w.heap.size w w') := fun c d ec ed f1 f2 =>
      twist_at a b M (t : Int) M c d hM0 hM1 rfl (tmod_small (by omega) (by omega)) ec ed f1 f2
    have hMtH : Hid (M = 4 * t) := hMt
    clear hMt ht hT
    go_wp2_with fail
    refine (tI _).mono ?_
    rintro e w3 ⟨rfl, B3⟩
    have A3 : Hid (Below w.heap.size w w3) := below_tr A1.out B3
    clear B3 A1 tI
    go_wp2_with fail
    refine (same7_c a b a b _ la lb la lb rfl rfl).mono ?_
    rintro e w4 ⟨rfl, rfl⟩
    go_wp2_with fail
    refine (ia _).mono ?_
    rintro e w5 ⟨rfl, rfl⟩
    cases hia : infB a
    · go_wp2_with fail
      refine (ib _).mono ?_
      rintro e w6 ⟨rfl, rfl⟩
      cases hib : infB b
      · cases hna : nanB a
        · cases hnb : nanB b
          · have fa := fin_of_parts la hia hna
            have fb := fin_of_parts lb hib hnb
            obtain ⟨⟨h1, h2⟩, ⟨h3, h4⟩⟩ := Rp.half_mul fa fb
            obtain ⟨⟨k1, k2⟩, ⟨k3, k4⟩⟩ := Rp.quarter_mul fa fb
            have oa := order_fz fa fa rfl
            have ob := order_fz fb fb rfl
            have p1 := order_fz h1 (Ari.fin_ng fa) h2
            have p2 := order_fz h3 (Ari.fin_ng fb) h4
            have p3 := order_fz k1 fb k2
            have p4 := order_fz k3 (Ari.fin_ng fa) k4
            have tH := tHH.out _ _ (half_at hMtH.out ht0).1 (half_at hMtH.out ht0).2 h1 h3
            have tQ := tQQ.out _ _ (quarter_at hMtH.out ht0).1 (quarter_at hMtH.out ht0).2 k1 k3
            generalize mulRe a b 13830554455654793216 0 = X1 at *
            generalize mulIm a b 13830554455654793216 0 = Y1 at *
            generalize mulRe a b 0 13830554455654793216 = X2 at *
            generalize mulIm a b 0 13830554455654793216 = Y2 at *
            clear hna hnb hia hib fa fb h1 h2 h3 h4 k1 k2 k3 k4
            go_wp2_with fail
            refine (tH _).mono ?_
            rintro e w7 ⟨rfl, B7⟩
            have A7 : Hid (Below w.heap.size w w7) := below_tr A3.out B7
            clear B7 A3 tH
            go_wp2_with fail
            refine (tQ _).mono ?_
            rintro e w8 ⟨rfl, B8⟩
            have A8 : Hid (Below w.heap.size w w8) := below_tr A7.out B8
            clear B8 A7 tQ
            go_wp2_with fail
            go_ret
            exact ⟨rfl, A8.out⟩
          · have ob : FloatKind.f64.format.order b b = none := Flo.order_nan_left b b (of_decide_eq_true hnb)
            clear hna hnb hia hib
            go_wp2_with fail
            go_ret
            exact ⟨rfl, A3.out⟩
        · have oa : FloatKind.f64.format.order a a = none := Flo.order_nan_left a a (of_decide_eq_true hna)
          clear hna hia hib
          go_wp2_with fail
          go_ret
          exact ⟨rfl, A3.out⟩
      · go_wp2_with fail
        go_ret
        exact ⟨rfl, A3.out⟩
    · go_wp2_with fail
      go_ret
      exact ⟨rfl, A3.out⟩
end Go.Proofs.YtbljgmipfclcoabDoor
namespace Go.Proofs.YtbljgmipfclcoabDoor.rootsTwisted
open Go.RowKit
theorem walk (x0 x1 x2 : Int) (w : World) (l0 : 0 ≤ x0) (u0 : x0 ≤ 18446744073709551615) (l1 : 0 ≤ x1) (u1 : x1 ≤ 18446744073709551615) (_l2 : -9223372036854775808 ≤ x2) (_u2 : x2 ≤ 9223372036854775807) (_hL : laidMetH Tryd.prog Rows.rootsTwistedRow.laid w) :
    Calls Tryd.prog 3 #[.int .u64 x0, .int .u64 x1, .int .i64 x2] w fun e w' => e = .returned (.bool true) ∧ Below w.heap.size w w' := by
  obtain ⟨n0, rfl⟩ := Int.eq_ofNat_of_zero_le l0
  obtain ⟨n1, rfl⟩ := Int.eq_ofNat_of_zero_le l1
  exact twisted_w n0 n1 x2 w (by omega) (by omega)
end Go.Proofs.YtbljgmipfclcoabDoor.rootsTwisted
