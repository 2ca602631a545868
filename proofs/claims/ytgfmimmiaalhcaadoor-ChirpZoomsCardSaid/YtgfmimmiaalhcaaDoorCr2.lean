/-
  The document's Zoom of layer 13.
-/
import Derived.Test.YtgfmimmiaalhcaaDoorCr1
import Derived.Test.YtgfmimmiaalhcaaDoorCh3
namespace Go.Proofs.YtgfmimmiaalhcaaDoor
open Flo Go.RowKit
theorem mod_mul_l (j A m : Nat) : j % m * A % m = j * A % m := by rw [Nat.mul_mod (j % m) A m, Nat.mod_mod, ← Nat.mul_mod]
set_option maxHeartbeats 4000000 in
theorem r13ZoomOk_n (b off cap : Nat) (zs : List (Nat × Nat)) (m L C : Nat) (fr : Int) (w : World) (hbw : b < w.heap.size) (hL : Hid (zs.length = L)) (hc : Hid (∀ i, i < L → w.cell? ⟨b, off + i, none⟩ = some (.complex .f64 (zs.getD i (0, 0)).1 (zs.getD i (0, 0)).2)))
    (hl : Hid (Lim zs)) (hL0 : 0 < L) (hL2 : L ≤ 140737488355328) (hm : 0 < m) (hm2 : m ≤ 4194304) (hC : C ≤ 1048576 / L) :
    Calls Tryd.prog 25 #[.slice (some ⟨b, off, none⟩) L cap, .int .i64 (m : Int), .int .i64 fr, .int .i64 (C : Int)] w fun e w' => ∃ v' us, e = .returned (.tuple #[v', .int .i64 0]) ∧ Gro w' w.heap.size C v' (zme m L fr fun j => zs.getD j (0, 0)) us ∧ Below w.heap.size w w' := by
  obtain ⟨F, hF⟩ : ∃ F : Nat → Nat × Nat, Hid (F = zme m L fr fun j => zs.getD j (0, 0)) := ⟨_, (rfl : _ = _)⟩
  rw [← hF.out]
  have hC2 : C ≤ 1048576 := Nat.le_trans hC (Nat.div_le_self _ _)
  have hCL : Hid (0 < C → L ≤ 1048576) := fun h0 => by
    have h1 : C * L ≤ 1048576 := (Nat.le_div_iff_mul_le hL0).1 hC
    have h2 : 1 * L ≤ C * L := Nat.mul_le_mul_right _ h0
    omega
  have q1 : ((L : Int) == 0) = false := beq_eq_false_iff_ne.2 (by omega)
  have q2 : decide ((m : Int) < 1) = false := decide_eq_false (by omega)
  have q3 : decide ((m : Int) > 4194304) = false := decide_eq_false (by omega)
  have q4 : decide ((C : Int) < 0) = false := decide_eq_false (by omega)
  obtain ⟨D, hD, hD1⟩ : ∃ D : Nat, Hid (1048576 / L = D) ∧ (1048576 : Int).tdiv (L : Int) = (D : Int) := ⟨1048576 / L, (rfl : _ = _), by rw [Int.tdiv_eq_ediv_of_nonneg (by omega)]; rfl⟩
  have hD2 : D ≤ 1048576 := by rw [← hD.out]; exact Nat.div_le_self _ _
  rw [hD.out] at hC
  have q5 : decide ((C : Int) > (D : Int)) = false := decide_eq_false (by omega)
  have q5' : decide (D < C) = false := decide_eq_false (by omega)
  have q6 : ¬ (L : Int) = 0 := by omega
  have q7 : ¬ (m : Int) = 0 := by omega
  have R0 : Hid (Gro (w.alloc (.cells #[] 23)) w.heap.size 0 (.slice (some ⟨w.heap.size, 0, none⟩) 0 0) F []) := Gro.start w F
  have hB0 : Hid (Below w.heap.size w (w.alloc (.cells #[] 23))) := (Below.refl _ _).alloc (Nat.le_refl _) _
  obtain ⟨i0, hi, hz0, hz1, hz2⟩ := info_cx
  have hbH : Hid (b < w.heap.size) := hbw
  have hmod : Hid (∀ W, Calls Tryd.prog 35 #[.int .i64 fr, .int .i64 m] W fun e w' => e = .returned (.int .i64 (Rp.md m fr)) ∧ w' = W) := fun W => mod7_c m fr W hm (by omega)
  obtain ⟨A0, hA0⟩ : ∃ A0, Rp.md m fr = A0 := ⟨_, rfl⟩
  have hA0H : Hid (A0 = Rp.md m (fr + (0 : Nat))) := (by rw [← hA0]; congr 1; omega : A0 = Rp.md m (fr + (0 : Nat)))
  have hA0m : A0 < m := by rw [← hA0]; exact Rp.md_lt hm _
  rw [hA0] at hmod
  clear hbw hA0
  go_enter Tryd.func25, Tryd.ntmps25
  go_wp2_with fail
  refine (hmod.out _).mono ?_
  rintro e w1 ⟨rfl, rfl⟩
  go_wp2_with fail
  clear q1 q2 q3 q4 q5 q5' q6 hD1 hmod
  go_loopw [10, 11, 12, 13, 14, 15] (fun so sa sk _ _ _ wx => ∃ (k A : Nat) (us : List (Nat × Nat)), k ≤ C ∧ sk = .int .i64 (k : Int) ∧ sa = .int .i64 (A : Int) ∧ A < m ∧ Hid (A = Rp.md m (fr + (k : Nat))) ∧ Hid (Gro wx w.heap.size k so F us) ∧ Hid (Below w.heap.size w wx)) (fun _ _ sk _ _ _ _ => C - (intOf sk).toNat)
  case atStart => exact ⟨0, A0, [], Nat.zero_le _, rfl, rfl, hA0m, hA0H, R0, hB0⟩
  case round =>
    clear R0 hB0 hA0H hA0m
    obtain ⟨k, A, us, hk, rfl, rfl, hAm, hA, R, hb⟩ := hrel
    by_cases hlt : k < C
    · have hlt' : (k : Int) < (C : Int) := by omega
      have hL1 : L ≤ 1048576 := hCL.out (by omega)
      rename World => wz
      have hcz : Hid (∀ i, i < L → wz.cell? ⟨b, off + i, none⟩ = some (.complex .f64 (zs.getD i (0, 0)).1 (zs.getD i (0, 0)).2)) := fun i hi => (hb.out.cell (p := ⟨b, off + i, none⟩) hbH.out).trans (hc.out i hi)
      have hc0 : wz.cell? ⟨b, off + 0, none⟩ = some (.complex .f64 (zs.getD 0 (0, 0)).1 (zs.getD 0 (0, 0)).2) := hcz.out 0 hL0
      rw [Nat.add_zero] at hc0
      obtain ⟨G, hG⟩ : ∃ G : Nat → Nat × Nat, Hid (G = dst m A (fun j => zs.getD j (0, 0))) := ⟨_, (rfl : _ = _)⟩
      have hFG : Hid (F k = G (L - 1)) := by show _ = _; rw [hF.out, hG.out, hA.out]; rfl
      have z0 : Hid (Lk ((zs.getD 0 (0, 0)).1, (zs.getD 0 (0, 0)).2) (G 0)) := by show Lk _ _; rw [hG.out]; exact Lk.refl _
      have hl0 : Hid ((zs.getD 0 (0, 0)).1 < 18446744073709551616 ∧ (zs.getD 0 (0, 0)).2 < 18446744073709551616) := hl.out 0 (by rw [hL.out]; exact hL0)
      generalize (zs.getD 0 (0, 0)).1 = x0 at *
      generalize (zs.getD 0 (0, 0)).2 = y0 at *
      go_wp2_with fail
      clear hc0
      go_loopw [13, 14, 15] (fun sv sj _ wx => ∃ x y j d : Nat, sv = .complex .f64 x y ∧ sj = .int .i64 (j : Int) ∧ j ≤ L ∧ 1 ≤ j ∧ Hid (wx = wz.drewN d) ∧ Hid (x < 18446744073709551616 ∧ y < 18446744073709551616 ∧ Lk (x, y) (G (j - 1)))) (fun _ sj _ _ => L - (intOf sj).toNat)
      case atStart => exact ⟨x0, y0, 1, 0, rfl, rfl, hL0, Nat.le_refl _, (rfl : wz = wz.drewN 0), hl0.out.1, hl0.out.2, z0.out⟩
      case round =>
        clear z0 hl0
        obtain ⟨x, y, j, d, rfl, rfl, hjL, hj1, hw, hxy⟩ := hrel
        by_cases hltj : j < L
        · have hltj' : (j : Int) < (L : Int) := by omega
          have hcj : wr.cell? ⟨b, off + j, none⟩ = some (.complex .f64 (zs.getD j (0, 0)).1 (zs.getD j (0, 0)).2) := by rw [hw.out]; exact hcz.out j hltj
          have hlj := hl.out j (by rw [hL.out]; exact hltj)
          obtain ⟨T, hT⟩ : ∃ T, Hid (T = j * A % m) := ⟨_, (rfl : _ = _)⟩
          have hTm : T < m := by rw [hT.out]; exact Nat.mod_lt _ hm
          obtain ⟨J0, hJ0, hJ00, hJ0m⟩ : ∃ J0 : Int, (j : Int).tmod (m : Int) = J0 ∧ 0 ≤ J0 ∧ J0 < (m : Int) := ⟨((j % m : Nat) : Int), by rw [Int.tmod_eq_emod_of_nonneg (by omega)]; rfl, by omega, by have := Nat.mod_lt j hm; omega⟩
          obtain ⟨AI, hAI, hAI0, hAIm⟩ : ∃ AI : Int, Hid ((A : Int) = AI) ∧ 0 ≤ AI ∧ AI < (m : Int) := ⟨(A : Int), (rfl : _ = _), by omega, by omega⟩
          obtain ⟨P, hP, hP0, hP1⟩ : ∃ P : Int, J0 * AI = P ∧ 0 ≤ P ∧ P ≤ 17592186044416 := by
            refine ⟨_, rfl, Int.mul_nonneg hJ00 hAI0, ?_⟩
            have h1 : J0.natAbs * AI.natAbs ≤ 4194304 * 4194304 := Nat.mul_le_mul (by omega) (by omega)
            have h2 : (J0 * AI).natAbs = J0.natAbs * AI.natAbs := Int.natAbs_mul ..
            omega
          have hPT : P.tmod (m : Int) = (T : Int) := by
            have e1 : J0 = ((j % m : Nat) : Int) := by rw [← hJ0, Int.tmod_eq_emod_of_nonneg (by omega)]; rfl
            have e2 : P = ((j % m * A : Nat) : Int) := by rw [← hP, e1, ← hAI.out, Int.natCast_mul]
            rw [e2, Int.tmod_eq_emod_of_nonneg (by omega), hT.out, ← mod_mul_l]; rfl
          have htw : Hid (∀ W, Calls Tryd.prog 36 #[.complex .f64 (zs.getD j (0, 0)).1 (zs.getD j (0, 0)).2, .int .i64 m, .int .i64 (T : Int)] W (RZ W (tws m T (zs.getD j (0, 0))))) := fun W => by
            have := tw10_c (zs.getD j (0, 0)).1 (zs.getD j (0, 0)).2 m (T : Int) W hm hm2 hlj.1 hlj.2
            rw [md_self hTm] at this
            exact this
          have hst : Hid (G j = adc (G (j - 1)) (tws m T (zs.getD j (0, 0)))) := by
            show _ = _
            obtain ⟨i, rfl⟩ : ∃ i, j = i + 1 := ⟨j - 1, by omega⟩
            rw [hT.out, hG.out]; rfl
          generalize (zs.getD j (0, 0)) = zq at *
          generalize tws m T zq = tq at *
          obtain ⟨a, c⟩ := zq
          obtain ⟨TI, hTI, hTI0, hTI1⟩ : ∃ TI : Int, (T : Int) = TI ∧ 0 ≤ TI ∧ TI < (m : Int) := ⟨(T : Int), rfl, by omega, by omega⟩
          rw [hTI] at hPT htw
          clear hlj hTI
          obtain ⟨J, hJ, hJ1⟩ : ∃ J : Nat, Hid (J = j + 1) ∧ (j : Int) + 1 = (J : Int) := ⟨j + 1, (rfl : _ = _), by omega⟩
          have hDr : Hid (∀ D, wr.drewN D = wz.drewN (d + D)) := fun D => by rw [hw.out, World.drewN_drewN]
          have hWP : IntKind.i64.wrap P = P := by rw [IntKind.wrap_i64]; omega
          rw [hAI.out]
          go_wp2_with fail
          go_region_with (go_at_call 36; refine (htw.out _).mono ?_; rintro e w6 ⟨x2, y2, q, rfl, rfl, lx2, ly2, lk2⟩; have hlk2 : Hid (Lk (x2, y2) tq) := lk2; clear lk2)
          all_goals
            clear htw hcj
            go_wp2_with fail
            refine (plus10_c x y x2 y2 _).mono ?_
            rintro e w7 ⟨x3, y3, q3, rfl, rfl, lx3, ly3, lk3⟩
            have hlk3 : Hid (Lk (x3, y3) (G j)) := by
              show Lk _ _
              rw [hst.out, ← adc_of hxy.out.2.2 hlk2.out]
              exact lk3
            clear lk3
            go_wp2_with fail
            go_roundw
            case rel =>
              refine ⟨x3, y3, J, _, rfl, rfl, ?_, ?_, hDr.out _, ?_⟩
              · rw [hJ.out]; exact hltj
              · rw [hJ.out]; omega
              · rw [hJ.out]; exact ⟨lx3, ly3, hlk3.out⟩
            case measure => simp [intOf]; have := hJ.out; omega
        · have hltj' : decide ((j : Int) < (L : Int)) = false := decide_eq_false (by omega)
          have ej : j = L := by omega
          subst ej
          have hlk : Hid (Lk (x, y) (F k)) := by show Lk _ _; rw [hFG.out]; exact hxy.out.2.2
          have lx := hxy.out.1
          have ly := hxy.out.2.1
          have RD : Hid (Gro wr w.heap.size k u10 F us) := by show Gro _ _ _ _ _ _; rw [hw.out]; exact R.out.keep (below_drewN (Below.refl _ _) d)
          have hbD : Hid (Below w.heap.size w wr) := by show Below _ _ _; rw [hw.out]; exact below_drewN hb.out d
          have hsz := hbD.out.size
          have hown : Hid (wr.ownsRow w.heap.size 23 1 u10 k (cz us)) := RD.out.own
          obtain ⟨A1, hA1, hA2, hA3⟩ : ∃ A1 : Nat, Hid (A1 = Rp.md m (fr + ((k + 1 : Nat) : Int))) ∧ ((A : Int) + 1).tmod (m : Int) = (A1 : Int) ∧ A1 < m := by
            refine ⟨(A + 1) % m, ?_, ?_, Nat.mod_lt _ hm⟩
            · show (A + 1) % m = _
              have := Rp.md_on (t := 1) hm (fr + (k : Nat))
              rw [← hA.out] at this
              rw [← this]
              congr 1
              omega
            · rw [Int.tmod_eq_emod_of_nonneg (by omega)]; rfl
          clear R hb hxy hw hFG hcz hA
          go_wp2_with (at_builtin; refine wpList_append_own _ rfl _ _ 38 rfl w.heap.size 23 i0 (.complex .f64 0 0) 1 16 Tryd.underlying38 hi hz0 hz1 hz2 rfl (by decide) _ _ _ rfl (hown.out.alloc _) ⟨wr.heap.size, 0, none⟩ 1 1 [.complex .f64 x y] rfl rfl (cell_one_new10 _ _ _) (by simp [Value.oneCell']) (by unfold maxLen; omega) (by omega) (by simp; omega) ?_)
          intro v' w4 q1 q2 q3
          have R4 : Hid (Gro w4 w.heap.size (k + 1) v' F (us ++ [(x, y)])) := RD.out.snoc q1 lx ly hlk.out
          have B4 : Hid (Below w.heap.size w w4) := (hbD.out.alloc hsz _).grown q2 (by simp; omega) (fun k' hk' => (RD.out.own.lt k' hk').1)
          clear q1 q2 q3 RD hbD hown hlk
          go_wp2_with fail
          go_roundw
          case rel => exact ⟨k + 1, A1, _, by omega, by go_num, rfl, hA3, hA1, R4, B4⟩
          case measure => simp [intOf]; omega
    · have hlt' : decide ((k : Int) < (C : Int)) = false := decide_eq_false (by omega)
      have ek : k = C := by omega
      subst ek
      go_wp2_with fail
      go_ret2
      exact ⟨_, us, rfl, R.out, hb.out⟩
theorem r13ZoomOk_c (v : Value) (zs : List (Nat × Nat)) (m L C : Nat) (fr : Int) (w : World) (hx : RdC w v zs) (hl : Lim zs) (hz : zs.length = L) (hL0 : 0 < L) (hL2 : L ≤ 140737488355328) (hm : 0 < m) (hm2 : m ≤ 4194304) (hC : C ≤ 1048576 / L) :
    Calls Tryd.prog 25 #[v, .int .i64 (m : Int), .int .i64 fr, .int .i64 (C : Int)] w fun e w' => ∃ v' us, e = .returned (.tuple #[v', .int .i64 0]) ∧ Gro w' w.heap.size C v' (zme m L fr fun j => zs.getD j (0, 0)) us ∧ Below w.heap.size w w' := by
  obtain ⟨ao, cap, rfl, h2⟩ := hx
  obtain ⟨b, off, rfl, hb, h3⟩ := h2 (fun e => by rw [e] at hz; simp at hz; omega)
  rw [hz]
  exact r13ZoomOk_n b off cap zs m L C fr w hb hz (by rw [← hz]; exact h3) hl hL0 hL2 hm hm2 hC
end Go.Proofs.YtgfmimmiaalhcaaDoor
