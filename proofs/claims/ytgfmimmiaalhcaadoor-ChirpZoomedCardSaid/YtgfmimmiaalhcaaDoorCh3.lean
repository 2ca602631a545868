/-
  Contracts of package chirp: sum and Zoom, where nothing is refused.
-/
import Derived.Test.YtgfmimmiaalhcaaDoorCh2
import Derived.Test.YtgfmimmiaalhcaaDoorGr0
namespace Go.Proofs.YtgfmimmiaalhcaaDoor
open Flo Go.RowKit

theorem tw13_c (a b n : Nat) (k : Int) (w : World) (h : 0 < n) (hn : n ≤ 4194304) (ha : a < 18446744073709551616) (hb : b < 18446744073709551616) :
    Calls Tryd.prog 43 #[.complex .f64 a b, .int .i64 n, .int .i64 k] w fun e w' => ∃ x y, e = .returned (.tuple #[.complex .f64 x y, .nilIface]) ∧ x < 18446744073709551616 ∧ y < 18446744073709551616 ∧ Lk (x, y) (tws n (Rp.md n k) (a, b)) ∧ Below w.heap.size w w' := by
  by_cases hk : k.tmod n = 0
  · refine (twistId_c a b n k w h hn hk).mono ?_
    rintro e w' ⟨rfl, B⟩
    refine ⟨a, b, rfl, ha, hb, ?_, B⟩
    unfold tws
    rw [if_pos ((md_zero h).2 hk)]
    exact Lk.refl _
  · refine (twistOk_c a b n k w h hn hk).mono ?_
    rintro e w' ⟨x, y, rfl, lx, ly, ex, ey, B⟩
    refine ⟨x, y, rfl, lx, ly, ?_, B⟩
    unfold tws
    rw [if_neg (fun c => hk ((md_zero h).1 c))]
    exact ⟨ex.trans (bt_mulRe ..).symm, ey.trans (bt_mulIm ..).symm⟩
theorem mul_lt {j : Nat} {K : Int} (hj : j ≤ 1048576) (h1 : -8388608 ≤ K) (h2 : K ≤ 8388608) : -8796093022208 ≤ (j : Int) * K ∧ (j : Int) * K ≤ 8796093022208 := by
  have e : ((j : Int) * K).natAbs = j * K.natAbs := by rw [Int.natAbs_mul]; rfl
  have h3 : j * K.natAbs ≤ 1048576 * 8388608 := Nat.mul_le_mul hj (by omega)
  omega
set_option maxHeartbeats 2000000 in
theorem zsum_n (b off cap : Nat) (zs : List (Nat × Nat)) (m L : Nat) (K : Int) (w : World) (hbw : b < w.heap.size) (hL : Hid (zs.length = L)) (hc : Hid (∀ i, i < L → w.cell? ⟨b, off + i, none⟩ = some (.complex .f64 (zs.getD i (0, 0)).1 (zs.getD i (0, 0)).2)))
    (hl : Hid (Lim zs)) (hL0 : 0 < L) (hL1 : L ≤ 1048576) (hm : 0 < m) (hm2 : m ≤ 4194304) (hK1 : -8388608 ≤ K) (hK2 : K ≤ 8388608) :
    Calls Tryd.prog 34 #[.slice (some ⟨b, off, none⟩) L cap, .int .i64 (m : Int), .int .i64 K] w fun e w' => ∃ x y, e = .returned (.complex .f64 x y) ∧ x < 18446744073709551616 ∧ y < 18446744073709551616 ∧ Lk (x, y) (dst m (Rp.md m K) (fun j => zs.getD j (0, 0)) (L - 1)) ∧ Below w.heap.size w w' := by
  have hc0 : w.cell? ⟨b, off + 0, none⟩ = some (.complex .f64 (zs.getD 0 (0, 0)).1 (zs.getD 0 (0, 0)).2) := hc.out 0 hL0
  rw [Nat.add_zero] at hc0
  obtain ⟨F, hF⟩ : ∃ F : Nat → Nat × Nat, Hid (F = dst m (Rp.md m K) (fun j => zs.getD j (0, 0))) := ⟨_, (rfl : _ = _)⟩
  rw [← hF.out]
  have z0 : Hid (Lk ((zs.getD 0 (0, 0)).1, (zs.getD 0 (0, 0)).2) (F 0)) := by show Lk _ _; rw [hF.out]; exact Lk.refl _
  have hl0 : Hid ((zs.getD 0 (0, 0)).1 < 18446744073709551616 ∧ (zs.getD 0 (0, 0)).2 < 18446744073709551616) := hl.out 0 (by rw [hL.out]; exact hL0)
  generalize (zs.getD 0 (0, 0)).1 = x0 at *
  generalize (zs.getD 0 (0, 0)).2 = y0 at *
  have hbH : Hid (b < w.heap.size) := hbw
  clear hbw
  go_enter Tryd.func34, Tryd.ntmps34
  go_wp2_with fail
  clear hc0
  go_loopw [7, 8, 9, 10] (fun sv sj _ _ wx => ∃ x y j : Nat, sv = .complex .f64 x y ∧ sj = .int .i64 (j : Int) ∧ j ≤ L ∧ 1 ≤ j ∧ Hid (x < 18446744073709551616 ∧ y < 18446744073709551616 ∧ Lk (x, y) (F (j - 1))) ∧ Hid (Below w.heap.size w wx)) (fun _ sj _ _ _ => L - (intOf sj).toNat)
  case atStart => exact ⟨x0, y0, 1, rfl, rfl, hL0, Nat.le_refl _, ⟨hl0.out.1, hl0.out.2, z0.out⟩, Below.refl _ _⟩
  case round =>
    clear z0 hl0
    obtain ⟨x, y, j, rfl, rfl, hjL, hj1, hxy, hB⟩ := hrel
    by_cases hlt : j < L
    · have hlt' : (j : Int) < (L : Int) := by omega
      have hcj : wr.cell? ⟨b, off + j, none⟩ = some (.complex .f64 (zs.getD j (0, 0)).1 (zs.getD j (0, 0)).2) := (hB.out.cell (p := ⟨b, off + j, none⟩) hbH.out).trans (hc.out j hlt)
      have hlj := hl.out j (by rw [hL.out]; exact hlt)
      have hp := mul_lt (j := j) (K := K) (by omega) hK1 hK2
      have hcall : Hid (∀ W, Calls Tryd.prog 43 #[.complex .f64 (zs.getD j (0, 0)).1 (zs.getD j (0, 0)).2, .int .i64 m, .int .i64 ((j : Int) * K)] W fun e w' => ∃ x y, e = .returned (.tuple #[.complex .f64 x y, .nilIface]) ∧ x < 18446744073709551616 ∧ y < 18446744073709551616 ∧ Lk (x, y) (tws m (j * Rp.md m K % m) (zs.getD j (0, 0))) ∧ Below W.heap.size W w') := fun W => by
        have := tw13_c (zs.getD j (0, 0)).1 (zs.getD j (0, 0)).2 m ((j : Int) * K) W hm hm2 hlj.1 hlj.2
        rw [md_mulr hm] at this
        exact this
      have hst : Hid (F j = adc (F (j - 1)) (tws m (j * Rp.md m K % m) (zs.getD j (0, 0)))) := by
        show _ = _
        obtain ⟨i, rfl⟩ : ∃ i, j = i + 1 := ⟨j - 1, by omega⟩
        rw [hF.out]; rfl
      generalize (zs.getD j (0, 0)) = zq at *
      generalize tws m (j * Rp.md m K % m) zq = tq at *
      obtain ⟨a, c⟩ := zq
      obtain ⟨P, hP⟩ : ∃ P, (j : Int) * K = P := ⟨_, rfl⟩
      rw [hP] at hp hcall
      have hp1 := hp.1
      have hp2 := hp.2
      clear hlj hp
      have hadd := @run_cadd Tryd.prog
      go_wp2_with fail
      refine (hcall.out _).mono ?_
      rintro e w3 ⟨x2, y2, rfl, lx, ly, lk, B3⟩
      have hx2 : Hid (Lk (x2, y2) tq) := lk
      have hB3 : Hid (Below w.heap.size w w3) := below_tr hB.out B3
      clear lk hcall hcj B3 hB
      obtain ⟨J, hJ, hJ1⟩ : ∃ J : Nat, Hid (J = j + 1) ∧ (j : Int) + 1 = (J : Int) := ⟨j + 1, (rfl : _ = _), by omega⟩
      go_wp2_with fail
      have hB4 : Hid (∀ D, Below w.heap.size w (w3.drewN D)) := fun D => below_drewN hB3.out D
      go_roundw
      case rel =>
        refine ⟨_, _, J, rfl, rfl, ?_, ?_, ⟨fr_lt .., fr_lt .., ?_⟩, ?_⟩
        · rw [hJ.out]; exact hlt
        · rw [hJ.out]; omega
        · rw [hJ.out]
          show Lk _ (F j)
          rw [hst.out, adc_of hxy.out.2.2.symm hx2.out.symm]
          exact ⟨by rw [bt_fr]; exact (bt_co ..).symm, by rw [bt_fr]; exact (bt_co ..).symm⟩
        · exact hB4.out _
      case measure => simp [intOf]; have := hJ.out; omega
    · have hlt' : decide ((j : Int) < (L : Int)) = false := decide_eq_false (by omega)
      have ej : j = L := by omega
      subst ej
      go_wp2
      go_ret
      exact ⟨x, y, rfl, hxy.out.1, hxy.out.2.1, hxy.out.2.2, hB.out⟩
set_option maxHeartbeats 2000000 in
theorem zoomOk_n (b off cap : Nat) (zs : List (Nat × Nat)) (m L C : Nat) (fr : Int) (w : World) (hbw : b < w.heap.size) (hL : Hid (zs.length = L)) (hc : Hid (∀ i, i < L → w.cell? ⟨b, off + i, none⟩ = some (.complex .f64 (zs.getD i (0, 0)).1 (zs.getD i (0, 0)).2)))
    (hl : Hid (Lim zs)) (hL0 : 0 < L) (hL2 : L ≤ 140737488355328) (hm : 0 < m) (hm2 : m ≤ 4194304) (hC : C ≤ 1048576 / L) :
    Calls Tryd.prog 24 #[.slice (some ⟨b, off, none⟩) L cap, .int .i64 (m : Int), .int .i64 fr, .int .i64 (C : Int)] w fun e w' => ∃ g us, e = .returned (.tuple #[.slice (some ⟨g, 0, none⟩) C C, .nilIface]) ∧ w.heap.size ≤ g ∧ Row w' g g C (zme m L fr fun j => zs.getD j (0, 0)) C us ∧ Below w.heap.size w w' := by
  obtain ⟨F, hF⟩ : ∃ F : Nat → Nat × Nat, Hid (F = zme m L fr fun j => zs.getD j (0, 0)) := ⟨_, (rfl : _ = _)⟩
  rw [← hF.out]
  have hC2 : C ≤ 1048576 := Nat.le_trans hC (Nat.div_le_self _ _)
  have hCL : Hid (0 < C → L ≤ 1048576) := fun h0 => by
    have h1 : C * L ≤ 1048576 := (Nat.le_div_iff_mul_le hL0).1 hC
    have h2 : 1 * L ≤ C * L := Nat.mul_le_mul_right _ h0
    omega
  have q1 : ((L : Int) == 0) = false := beq_eq_false_iff_ne.2 (by omega)
  have q2 : decide ((m : Int) < 1) = false := decide_eq_false (by omega)
  have q3 : decide ((m : Int) > 4194304) = false := decide_eq_false (by omega)
  have q4 : decide ((C : Int) < 0) = false := decide_eq_false (by omega)
  obtain ⟨D, hD, hD1⟩ : ∃ D : Nat, Hid (1048576 / L = D) ∧ (1048576 : Int).tdiv (L : Int) = (D : Int) := ⟨1048576 / L, (rfl : _ = _), by rw [Int.tdiv_eq_ediv_of_nonneg (by omega)]; rfl⟩
  have hD2 : D ≤ 1048576 := by rw [← hD.out]; exact Nat.div_le_self _ _
  rw [hD.out] at hC
  have q5 : decide ((C : Int) > (D : Int)) = false := decide_eq_false (by omega)
  have q5' : decide (D < C) = false := decide_eq_false (by omega)
  have q6 : ¬ (L : Int) = 0 := by omega
  have q7 : ¬ (m : Int) = 0 := by omega
  have hg3 : (0 : Int) ≤ (C : Int) := by omega
  obtain ⟨w1, hmk, hrow, hb1⟩ := makeCx w C (by omega)
  have R0 : Hid (Row w1 w.heap.size w.heap.size C F 0 (List.replicate C (0, 0))) := Row.made F hrow.out
  obtain ⟨r, hr0⟩ : ∃ r, fr.tmod m = r := ⟨_, rfl⟩
  have hrb := tm_lt fr hm
  rw [hr0] at hrb
  have hr1 := hrb.1
  have hr2 := hrb.2
  have hrk : Hid (∀ k : Nat, F k = dst m (Rp.md m (r + k)) (fun j => zs.getD j (0, 0)) (L - 1)) := fun k => by rw [hF.out, ← hr0, md_tm]; rfl
  have hbH : Hid (b < w.heap.size) := hbw
  clear hrow hrb hbw
  go_enter Tryd.func24, Tryd.ntmps24
  go_wp2_with fail
  clear hmk q1 q2 q3 q4 q5 q5' q6 q7 hD1 hr0
  go_loopw [12, 42] (fun _ si wx => ∃ (i : Nat) (us : List (Nat × Nat)), i ≤ C ∧ si = .int .i64 (i : Int) ∧ Hid (Row wx w.heap.size w.heap.size C F i us) ∧ Hid (Below w.heap.size w wx)) (fun _ si _ => C - (intOf si).toNat)
  case atStart => exact ⟨0, _, Nat.zero_le _, rfl, R0, hb1⟩
  case round =>
    clear R0 hb1
    obtain ⟨i, us, hi, rfl, R, hb⟩ := hrel
    by_cases hlt : i < C
    · have hlt' : (i : Int) < (C : Int) := by omega
      obtain ⟨T, hT, hT1, hT2, hT3⟩ : ∃ T : Int, Hid (T = r + i) ∧ r + (i : Int) = T ∧ -8388608 ≤ T ∧ T ≤ 8388608 := ⟨r + i, (rfl : _ = _), rfl, by omega, by omega⟩
      have hsum : Hid (Calls Tryd.prog 34 #[.slice (some ⟨b, off, none⟩) L cap, .int .i64 (m : Int), .int .i64 T] wr fun e w' => ∃ x y, e = .returned (.complex .f64 x y) ∧ x < 18446744073709551616 ∧ y < 18446744073709551616 ∧ Lk (x, y) (F i) ∧ Below wr.heap.size wr w') := by
        have := zsum_n b off cap zs m L T wr (Nat.lt_of_lt_of_le hbH.out hb.out.size) hL (fun i hi => (hb.out.cell (p := ⟨b, off + i, none⟩) hbH.out).trans (hc.out i hi)) hl hL0 (hCL.out (by omega)) hm hm2 hT2 hT3
        rw [hT.out, ← hrk.out] at this
        rw [hT.out]
        exact this
      go_wp2_with fail
      refine hsum.out.mono ?_
      rintro e w3 ⟨x, y, rfl, lx, ly, lk, B⟩
      have R2 : Hid (Row w3 w.heap.size w.heap.size C F i us) := R.out.keep B
      have B2 : Hid (Below w.heap.size w w3) := below_tr hb.out B
      clear R hb B hsum
      have c3 := R2.out.cell hlt
      have f2 := R2.out.frozen i
      have R3 : Hid (Row (w3.setCell ⟨w.heap.size, i, none⟩ (.complex .f64 x y)) w.heap.size w.heap.size C F (i + 1) (us.set i (x, y))) := R2.out.put lx ly hlt lk
      have B3 : Hid (Below w.heap.size w (w3.setCell ⟨w.heap.size, i, none⟩ (.complex .f64 x y))) := B2.out.setCell (p := ⟨w.heap.size, i, none⟩) (Nat.le_refl _) _
      have hsc := store_cx
      clear R2 B2 lk hT1
      go_wp2
      go_roundw
      case rel => exact ⟨i + 1, _, by omega, by go_num, R3, B3⟩
      case measure => simp [intOf]; omega
    · have hlt' : decide ((i : Int) < (C : Int)) = false := decide_eq_false (by omega)
      have ei : i = C := by omega
      subst ei
      go_wp2
      go_ret2
      exact ⟨_, _, rfl, Nat.le_refl _, R.out, hb.out⟩
theorem zoomOk_c (v : Value) (zs : List (Nat × Nat)) (m L C : Nat) (fr : Int) (w : World) (hx : RdC w v zs) (hl : Lim zs) (hz : zs.length = L) (hL0 : 0 < L) (hL2 : L ≤ 140737488355328) (hm : 0 < m) (hm2 : m ≤ 4194304) (hC : C ≤ 1048576 / L) :
    Calls Tryd.prog 24 #[v, .int .i64 (m : Int), .int .i64 fr, .int .i64 (C : Int)] w fun e w' => ∃ g us, e = .returned (.tuple #[.slice (some ⟨g, 0, none⟩) C C, .nilIface]) ∧ w.heap.size ≤ g ∧ Row w' g g C (zme m L fr fun j => zs.getD j (0, 0)) C us ∧ Below w.heap.size w w' := by
  obtain ⟨ao, cap, rfl, h2⟩ := hx
  obtain ⟨b, off, rfl, hb, h3⟩ := h2 (fun e => by rw [e] at hz; simp at hz; omega)
  rw [hz]
  exact zoomOk_n b off cap zs m L C fr w hb hz (by rw [← hz]; exact h3) hl hL0 hL2 hm hm2 hC
end Go.Proofs.YtgfmimmiaalhcaaDoor
