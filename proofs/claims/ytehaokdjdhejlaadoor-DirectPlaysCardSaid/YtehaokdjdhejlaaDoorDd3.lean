/-
  The document's layer 10: Plus, Less, a twist, the sum.
-/
import Derived.Test.YtehaokdjdhejlaaDoorDd1
import Derived.Test.YtehaokdjdhejlaaDoorLa1
import Derived.Test.YtehaokdjdhejlaaDoorDp1
import Derived.Test.YtehaokdjdhejlaaDoorDp5
namespace Go.Proofs.YtehaokdjdhejlaaDoor
open Flo Go.RowKit
set_option maxHeartbeats 1000000 in
theorem plus10_c (a b c d : Nat) (w : World) :
    Calls Tryd.prog 38 #[.complex .f64 a b, .complex .f64 c d] w (RZ w (adc (a, b) (c, d))) := by
  have h2 := @run_fadd Tryd.prog
  go_enter Tryd.func38, Tryd.ntmps38
  go_wp2
  go_ret
  exact ⟨_, _, _, rfl, rfl, fr_lt .., fr_lt .., by rw [bt_fr]; exact (bt_co ..).symm, by rw [bt_fr]; exact (bt_co ..).symm⟩
set_option maxHeartbeats 1000000 in
theorem less10_c (a b c d : Nat) (w : World) :
    Calls Tryd.prog 39 #[.complex .f64 a b, .complex .f64 c d] w (RZ w (sbc (a, b) (c, d))) := by
  have h2 := @run_fsub Tryd.prog
  go_enter Tryd.func39, Tryd.ntmps39
  go_wp2
  go_ret
  exact ⟨_, _, _, rfl, rfl, fr_lt .., fr_lt .., by rw [bt_fr]; exact (bt_co ..).symm, by rw [bt_fr]; exact (bt_co ..).symm⟩
theorem tw10_c (a b n : Nat) (k : Int) (w : World) (h : 0 < n) (hn : n ≤ 4194304) (ha : a < 18446744073709551616) (hb : b < 18446744073709551616) :
    Calls Tryd.prog 40 #[.complex .f64 a b, .int .i64 n, .int .i64 k] w (RZ w (tws n (Rp.md n k) (a, b))) := by
  by_cases hk : k.tmod n = 0
  · refine (r7TwistId_c a b n k w h hn hk).mono ?_
    rintro e w' ⟨rfl, d, rfl⟩
    refine ⟨a, b, d, rfl, rfl, ha, hb, ?_⟩
    unfold tws
    rw [if_pos ((md_zero h).2 hk)]
    exact Lk.refl _
  · refine (r7TwistOk_c a b n k w h hn hk).mono ?_
    intro e w' h2
    have := RC.z h2 (bt_mulRe ..) (bt_mulIm ..)
    unfold tws
    rw [if_neg (fun c => hk ((md_zero h).1 c))]
    exact this
set_option maxHeartbeats 2000000 in
theorem at10_n (b off cap : Nat) (zs : List (Nat × Nat)) (p jump n L : Nat) (k : Int) (w : World) (hL : Hid (zs.length = L)) (hb : Hid (∀ i, i < L → w.cell? ⟨b, off + i, none⟩ = some (.complex .f64 (zs.getD i (0, 0)).1 (zs.getD i (0, 0)).2)))
    (hl : Hid (Lim zs)) (hlast : p + (n - 1) * jump < L) (hn : 0 < n) (hn2 : n ≤ 1024) (hlen : L ≤ 140737488355328) :
    Calls Tryd.prog 32 #[.slice (some ⟨b, off, none⟩) L cap, .int .i64 (p : Int), .int .i64 (jump : Int), .int .i64 (n : Int), .int .i64 k] w (RZ w (dsm n (Rp.md n k) fun j => zs.getD (p + j * jump) (0, 0))) := by
  have hp1 : p < L := by omega
  have hc0 : w.cell? ⟨b, off + p, none⟩ = some (.complex .f64 (zs.getD p (0, 0)).1 (zs.getD p (0, 0)).2) := hb.out p hp1
  obtain ⟨m, hm⟩ : ∃ m, Hid (m = Rp.md n k) := ⟨_, (rfl : _ = _)⟩
  rw [← hm.out]
  have z0 : Hid (Lk ((zs.getD p (0, 0)).1, (zs.getD p (0, 0)).2) (dst n m (fun j => zs.getD (p + j * jump) (0, 0)) 0)) := by show Lk _ _; unfold dst; rw [Nat.zero_mul]; exact Lk.refl _
  have hl0 : Hid ((zs.getD p (0, 0)).1 < 18446744073709551616 ∧ (zs.getD p (0, 0)).2 < 18446744073709551616) := hl.out p (by rw [hL.out]; exact hp1)
  generalize (zs.getD p (0, 0)).1 = x0 at *
  generalize (zs.getD p (0, 0)).2 = y0 at *
  have hlast' : Hid (p + (n - 1) * jump < L) := hlast
  clear hlast
  go_enter Tryd.func32, Tryd.ntmps32
  go_wp2_with fail
  clear hc0
  go_loopw [11, 12, 13] (fun sv sj _ wx => ∃ x y j d : Nat, sv = .complex .f64 x y ∧ sj = .int .i64 (j : Int) ∧ j ≤ n ∧ 1 ≤ j ∧ Hid (wx = w.drewN d) ∧ Hid (x < 18446744073709551616 ∧ y < 18446744073709551616 ∧ Lk (x, y) (dst n m (fun j => zs.getD (p + j * jump) (0, 0)) (j - 1)))) (fun _ sj _ _ => n - (intOf sj).toNat)
  case atStart => exact ⟨x0, y0, 1, 0, rfl, rfl, hn, Nat.le_refl _, (rfl : w = w.drewN 0), hl0.out.1, hl0.out.2, z0.out⟩
  case round =>
    clear z0 hl0 hp1
    obtain ⟨x, y, j, d, rfl, rfl, hjn, hj1, hw, hxy⟩ := hrel
    by_cases hlt : j < n
    · have hlt' : (j : Int) < (n : Int) := by omega
      have hle : Hid (j * jump ≤ (n - 1) * jump) := Nat.mul_le_mul_right _ (by omega)
      obtain ⟨T, hT, hT1⟩ : ∃ T : Nat, Hid (T = j * jump) ∧ (j : Int) * (jump : Int) = (T : Int) := ⟨j * jump, (rfl : _ = _), by rw [Int.natCast_mul]⟩
      have hTL : p + T < L := by have h1 := hle.out; have h2 := hlast'.out; rw [← hT.out] at h1; omega
      obtain ⟨Q, hQ, hQ1⟩ : ∃ Q : Nat, Hid (Q = p + T) ∧ (p : Int) + (T : Int) = (Q : Int) := ⟨p + T, (rfl : _ = _), by omega⟩
      have hQL : Q < L := by rw [hQ.out]; exact hTL
      have hQL' : (Q : Int) < (L : Int) := by omega
      obtain ⟨t, ht⟩ : ∃ t, Hid (t = j * m % n) := ⟨_, (rfl : _ = _)⟩
      have htn : t < n := by rw [ht.out]; exact Nat.mod_lt _ hn
      have hpc : Hid (∀ W, Calls Tryd.prog 49 #[.int .i64 (j : Int), .int .i64 k, .int .i64 (n : Int)] W fun e w' => e = .returned (.int .i64 (t : Int)) ∧ w' = W) := fun W => by
        have := prod10_c j n k W hlt (by omega)
        rw [← hm.out, ← ht.out] at this
        exact this
      have hcQ : wr.cell? ⟨b, off + Q, none⟩ = some (.complex .f64 (zs.getD Q (0, 0)).1 (zs.getD Q (0, 0)).2) := by rw [hw.out]; exact hb.out Q hQL
      have hlQ := hl.out Q (by rw [hL.out]; exact hQL)
      have htw : Hid (∀ W, Calls Tryd.prog 40 #[.complex .f64 (zs.getD Q (0, 0)).1 (zs.getD Q (0, 0)).2, .int .i64 n, .int .i64 (t : Int)] W (RZ W (tws n t (zs.getD Q (0, 0))))) := fun W => by
        have := tw10_c (zs.getD Q (0, 0)).1 (zs.getD Q (0, 0)).2 n (t : Int) W hn (by omega) hlQ.1 hlQ.2
        rw [md_self htn] at this
        exact this
      have hst : Hid (dst n m (fun j => zs.getD (p + j * jump) (0, 0)) j = adc (dst n m (fun j => zs.getD (p + j * jump) (0, 0)) (j - 1)) (tws n t (zs.getD Q (0, 0)))) := by
        show _ = _
        obtain ⟨i, rfl⟩ : ∃ i, j = i + 1 := ⟨j - 1, by omega⟩
        rw [ht.out, hQ.out, hT.out]; rfl
      generalize (zs.getD Q (0, 0)) = zq at *
      obtain ⟨a, c⟩ := zq
      have hWJ : IntKind.i64.wrap (Q : Int) = (Q : Int) := by rw [IntKind.wrap_i64]; omega
      have hWT : IntKind.i64.wrap (T : Int) = (T : Int) := by rw [IntKind.wrap_i64]; omega
      clear hle hlQ hTL
      obtain ⟨J, hJ, hJ1⟩ : ∃ J : Nat, Hid (J = j + 1) ∧ (j : Int) + 1 = (J : Int) := ⟨j + 1, (rfl : _ = _), by omega⟩
      have hDr : Hid (∀ D, wr.drewN D = w.drewN (d + D)) := fun D => by rw [hw.out, World.drewN_drewN]
      go_wp2_with fail
      go_region_with (first
        | (go_at_call 49; refine (hpc.out _).mono ?_; rintro e w5 ⟨rfl, rfl⟩)
        | (go_at_call 40; refine (htw.out _).mono ?_; rintro e w6 ⟨x2, y2, q, rfl, rfl, lx2, ly2, lk2⟩; have hlk2 : Hid (Lk (x2, y2) (tws n t (a, c))) := lk2; clear lk2))
      all_goals
        clear hpc htw hcQ
        go_wp2_with fail
        refine (plus10_c x y x2 y2 _).mono ?_
        rintro e w7 ⟨x3, y3, q3, rfl, rfl, lx3, ly3, lk3⟩
        have hlk3 : Hid (Lk (x3, y3) (dst n m (fun j => zs.getD (p + j * jump) (0, 0)) j)) := by
          show Lk _ _
          rw [hst.out, ← adc_of hxy.out.2.2 hlk2.out]
          exact lk3
        clear lk3
        go_wp2_with fail
        go_roundw
        case rel =>
          refine ⟨x3, y3, J, _, rfl, rfl, ?_, ?_, hDr.out _, ?_⟩
          · rw [hJ.out]; exact hlt
          · rw [hJ.out]; omega
          · rw [hJ.out]; exact ⟨lx3, ly3, hlk3.out⟩
        case measure => simp [intOf]; have := hJ.out; omega
    · have hlt' : decide ((j : Int) < (n : Int)) = false := decide_eq_false (by omega)
      have ej : j = n := by omega
      subst ej
      have hE : Hid (wr = w.drewN d) := hw
      go_wp2_with fail
      go_ret
      exact ⟨x, y, d, rfl, hE.out, hxy.out.1, hxy.out.2.1, hxy.out.2.2⟩
end Go.Proofs.YtehaokdjdhejlaaDoor
namespace Go.Proofs.YtehaokdjdhejlaaDoor
open Flo Go.RowKit
theorem at10_c (v : Value) (zs : List (Nat × Nat)) (p jump n : Nat) (k : Int) (w : World) (hx : RdC w v zs) (hl : Lim zs) (hlast : p + (n - 1) * jump < zs.length) (hn : 0 < n) (hn2 : n ≤ 1024) (hlen : zs.length ≤ 140737488355328) :
    Calls Tryd.prog 32 #[v, .int .i64 (p : Int), .int .i64 (jump : Int), .int .i64 (n : Int), .int .i64 k] w (RZ w (dsm n (Rp.md n k) fun j => zs.getD (p + j * jump) (0, 0))) := by
  obtain ⟨ao, cap, rfl, h2⟩ := hx
  obtain ⟨b, off, rfl, hb, h3⟩ := h2 (fun e => by rw [e] at hlast; simp at hlast)
  exact at10_n b off cap zs p jump n _ k w rfl h3 hl hlast hn hn2 hlen
/-- what One answers where it isn't refused -/
def RZi (w : World) (z : Nat × Nat) (j : Int) (e : Ending) (w' : World) : Prop :=
  ∃ x y d, e = .returned (.tuple #[.complex .f64 x y, .int .i64 j]) ∧ w' = w.drewN d ∧ x < 18446744073709551616 ∧ y < 18446744073709551616 ∧ Lk (x, y) z
theorem div_turn {a : Int} {j m : Int} (hj : 0 < j) (hm : 0 < m) : m ≤ a / j ↔ j ≤ a / m := by
  rw [Int.le_ediv_iff_mul_le hj, Int.le_ediv_iff_mul_le hm, Int.mul_comm]
set_option maxHeartbeats 1000000 in
theorem oneL_c (v : Value) (p j n k : Int) (w : World) (h : n < 1 ∨ 1024 < n) :
    Calls Tryd.prog 22 #[v, .int .i64 p, .int .i64 j, .int .i64 n, .int .i64 k] w (RZi w (0, 0) 7) := by
  by_cases h1 : n < 1
  · clear h
    go_enter Tryd.func22, Tryd.ntmps22
    go_wp2_with fail
    go_ret2
    exact ⟨0, 0, 0, rfl, rfl, by decide, by decide, Lk.refl _⟩
  · have h1' : decide (n < 1) = false := decide_eq_false h1
    have h2 : n > 1024 := by omega
    clear h
    go_enter Tryd.func22, Tryd.ntmps22
    go_wp2_with fail
    go_ret2
    exact ⟨0, 0, 0, rfl, rfl, by decide, by decide, Lk.refl _⟩
set_option maxHeartbeats 2000000 in
theorem oneR_c (ao : Option Addr) (L cap n : Nat) (p j k : Int) (w : World) (hL : L ≤ 140737488355328) (hn : 0 < n) (hn2 : n ≤ 1024) (hi : ins L p j n = false) :
    Calls Tryd.prog 22 #[.slice ao L cap, .int .i64 p, .int .i64 j, .int .i64 (n : Int), .int .i64 k] w (RZi w (0, 0) 5) := by
  have g1 : decide ((n : Int) < 1) = false := decide_eq_false (by omega)
  have g2 : decide ((n : Int) > 1024) = false := decide_eq_false (by omega)
  have hi' := of_decide_eq_false hi
  have hend : Hid (∀ d, RZi w (0, 0) 5 (.returned (.tuple #[.complex .f64 0 0, .int .i64 5])) (w.drewN d)) := fun d => ⟨0, 0, d, rfl, rfl, by decide, by decide, Lk.refl _⟩
  by_cases h1 : p < 0
  · clear hi hi'
    go_enter Tryd.func22, Tryd.ntmps22
    go_wp2_with fail
    go_ret2
    exact hend.out 0
  have h1' : decide (p < 0) = false := decide_eq_false h1
  by_cases h2 : j < 1
  · clear hi hi'
    go_enter Tryd.func22, Tryd.ntmps22
    go_wp2_with fail
    go_ret2
    exact hend.out 0
  have h2' : decide (j < 1) = false := decide_eq_false h2
  by_cases h3 : p ≥ L
  · clear hi hi'
    go_enter Tryd.func22, Tryd.ntmps22
    go_wp2_with fail
    go_ret2
    exact hend.out 0
  have h3' : decide (p ≥ (L : Int)) = false := decide_eq_false h3
  have h4 : ¬ ((n : Int) - 1 ≤ ((L : Int) - 1 - p).tdiv j) := fun h => hi' ⟨by omega, by omega, by omega, h⟩
  rw [Int.tdiv_eq_ediv_of_nonneg (by omega)] at h4
  have h5 : 1 < n := by
    apply Nat.lt_of_not_le
    intro c
    apply h4
    have := Int.ediv_nonneg (a := (L : Int) - 1 - p) (b := j) (by omega) (by omega)
    omega
  have h6 : ¬ (j ≤ ((L : Int) - 1 - p) / ((n : Int) - 1)) := fun h => h4 ((div_turn (by omega) (by omega)).2 h)
  have h7 : ((L : Int) - 1 - p).tdiv ((n : Int) - 1) = ((L : Int) - 1 - p) / ((n : Int) - 1) := Int.tdiv_eq_ediv_of_nonneg (by omega)
  have h8 : 0 ≤ ((L : Int) - 1 - p) / ((n : Int) - 1) ∧ ((L : Int) - 1 - p) / ((n : Int) - 1) ≤ 140737488355328 := ⟨Int.ediv_nonneg (by omega) (by omega), by have := Int.ediv_le_self (a := (L : Int) - 1 - p) ((n : Int) - 1) (by omega); omega⟩
  obtain ⟨q, hq⟩ : ∃ q, ((L : Int) - 1 - p) / ((n : Int) - 1) = q := ⟨_, rfl⟩
  rw [hq] at h6 h7 h8
  have h9 : j > q := by omega
  have h10 : (n : Int) > 1 := by omega
  have h11 : ¬ (n : Int) - 1 = 0 := by omega
  clear hi hi' h4 hq h6
  go_enter Tryd.func22, Tryd.ntmps22
  go_wp2_with fail
  go_ret2
  exact hend.out 0
set_option maxHeartbeats 2000000 in
theorem oneOk_c (v : Value) (zs : List (Nat × Nat)) (n : Nat) (p j k : Int) (w : World) (hx : RdC w v zs) (hl : Lim zs) (hL0 : zs.length ≤ 140737488355328) (hn : 0 < n) (hn2 : n ≤ 1024) (hi : ins zs.length p j n = true) :
    Calls Tryd.prog 22 #[v, .int .i64 p, .int .i64 j, .int .i64 (n : Int), .int .i64 k] w (RZi w (dsm n (Rp.md n k) fun i => zs.getD (p.toNat + i * j.toNat) (0, 0)) 0) := by
  have g1 : decide ((n : Int) < 1) = false := decide_eq_false (by omega)
  have g2 : decide ((n : Int) > 1024) = false := decide_eq_false (by omega)
  obtain ⟨p0, p1, j1, hlast⟩ := ins_t hi hn
  have h4 : (n : Int) - 1 ≤ ((zs.length : Int) - 1 - p).tdiv j := (of_decide_eq_true hi).2.2.2
  rw [Int.tdiv_eq_ediv_of_nonneg (by omega)] at h4
  have hA : Hid (∀ W, RdC W v zs → Calls Tryd.prog 32 #[v, .int .i64 p, .int .i64 j, .int .i64 (n : Int), .int .i64 k] W (RZ W (dsm n (Rp.md n k) fun i => zs.getD (p.toNat + i * j.toNat) (0, 0)))) := fun W hW => by
    have := at10_c v zs p.toNat j.toNat n k W hW hl hlast hn hn2 hL0
    rw [Int.toNat_of_nonneg p0, Int.toNat_of_nonneg (by omega)] at this
    exact this
  obtain ⟨L, hL⟩ : ∃ L, Hid (zs.length = L) := ⟨_, (rfl : _ = _)⟩
  rw [hL.out] at h4 p1 hL0
  obtain ⟨ao, cap, rfl⟩ := hx.slice hL.out
  have hX : Hid (RdC w (.slice ao L cap) zs) := hx
  clear hlast hi hx hl
  generalize (dsm n (Rp.md n k) fun i => zs.getD (p.toNat + i * j.toNat) (0, 0)) = Z at *
  have h1' : decide (p < 0) = false := decide_eq_false (by omega)
  have h2' : decide (j < 1) = false := decide_eq_false (by omega)
  have h3' : decide (p ≥ (L : Int)) = false := decide_eq_false (by omega)
  by_cases h5 : n = 1
  · have h5' : decide ((n : Int) > 1) = false := decide_eq_false (by omega)
    have h5H : Hid (n = 1) := h5
    clear h4 h5
    go_enter Tryd.func22, Tryd.ntmps22
    go_wp2_with fail
    refine (hA.out w hX.out).mono ?_
    rintro e w1 ⟨x, y, d, rfl, rfl, lx, ly, lk⟩
    have hlk : Hid (Lk (x, y) Z) := lk
    clear lk
    go_wp2_with fail
    go_ret2
    exact ⟨x, y, d, rfl, rfl, lx, ly, hlk.out⟩
  · have h6 : j ≤ ((L : Int) - 1 - p) / ((n : Int) - 1) := (div_turn (by omega) (by omega)).1 h4
    have h7 : ((L : Int) - 1 - p).tdiv ((n : Int) - 1) = ((L : Int) - 1 - p) / ((n : Int) - 1) := Int.tdiv_eq_ediv_of_nonneg (by omega)
    have h8 : 0 ≤ ((L : Int) - 1 - p) / ((n : Int) - 1) ∧ ((L : Int) - 1 - p) / ((n : Int) - 1) ≤ 140737488355328 := ⟨Int.ediv_nonneg (by omega) (by omega), by have := Int.ediv_le_self (a := (L : Int) - 1 - p) ((n : Int) - 1) (by omega); omega⟩
    obtain ⟨q, hq⟩ : ∃ q, ((L : Int) - 1 - p) / ((n : Int) - 1) = q := ⟨_, rfl⟩
    rw [hq] at h6 h7 h8
    have h9 : decide (j > q) = false := decide_eq_false (by omega)
    have h10 : (n : Int) > 1 := by omega
    have h11 : ¬ (n : Int) - 1 = 0 := by omega
    clear h4 hq h5
    go_enter Tryd.func22, Tryd.ntmps22
    go_wp2_with fail
    refine (hA.out w hX.out).mono ?_
    rintro e w1 ⟨x, y, d, rfl, rfl, lx, ly, lk⟩
    have hlk : Hid (Lk (x, y) Z) := lk
    clear lk
    go_wp2_with fail
    go_ret2
    exact ⟨x, y, d, rfl, rfl, lx, ly, hlk.out⟩
end Go.Proofs.YtehaokdjdhejlaaDoor
