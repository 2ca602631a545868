/-
  The document's layer 10: Plus, Less, a twist, the sum.
-/
import Derived.Test.YtehaokdjdhejlaaDoorDd1
import Derived.Test.YtehaokdjdhejlaaDoorLa1
import Derived.Test.YtehaokdjdhejlaaDoorDpm
namespace Go.Proofs.YtehaokdjdhejlaaDoor
open Flo Go.RowKit
set_option maxHeartbeats 1000000 in
theorem plus10_c (a b c d : Nat) (w : World) :
    Calls Tryd.prog 38 #[.complex .f64 a b, .complex .f64 c d] w (RZ w (adc (a, b) (c, d))) := by
  have h2 := @run_fadd Tryd.prog
  go_enter Tryd.func38, Tryd.ntmps38
  go_wp2
  go_ret
  exact ⟨_, _, _, rfl, rfl, fr_lt .., fr_lt .., by rw [bt_fr]; exact (bt_co ..).symm, by rw [bt_fr]; exact (bt_co ..).symm⟩
set_option maxHeartbeats 1000000 in
theorem less10_c (a b c d : Nat) (w : World) :
    Calls Tryd.prog 39 #[.complex .f64 a b, .complex .f64 c d] w (RZ w (sbc (a, b) (c, d))) := by
  have h2 := @run_fsub Tryd.prog
  go_enter Tryd.func39, Tryd.ntmps39
  go_wp2
  go_ret
  exact ⟨_, _, _, rfl, rfl, fr_lt .., fr_lt .., by rw [bt_fr]; exact (bt_co ..).symm, by rw [bt_fr]; exact (bt_co ..).symm⟩
theorem tw10_c (a b n : Nat) (k : Int) (w : World) (h : 0 < n) (hn : n ≤ 4194304) (ha : a < 18446744073709551616) (hb : b < 18446744073709551616) :
    Calls Tryd.prog 40 #[.complex .f64 a b, .int .i64 n, .int .i64 k] w (RZ w (tws n (Rp.md n k) (a, b))) := by
  by_cases hk : k.tmod n = 0
  · refine (r7TwistId_c a b n k w h hn hk).mono ?_
    rintro e w' ⟨rfl, d, rfl⟩
    refine ⟨a, b, d, rfl, rfl, ha, hb, ?_⟩
    unfold tws
    rw [if_pos ((md_zero h).2 hk)]
    exact Lk.refl _
  · refine (r7TwistOk_c a b n k w h hn hk).mono ?_
    intro e w' h2
    have := RC.z h2 (bt_mulRe ..) (bt_mulIm ..)
    unfold tws
    rw [if_neg (fun c => hk ((md_zero h).1 c))]
    exact this
set_option maxHeartbeats 2000000 in
theorem at10_n (b off cap : Nat) (zs : List (Nat × Nat)) (p jump n L : Nat) (k : Int) (w : World) (hL : Hid (zs.length = L)) (hb : Hid (∀ i, i < L → w.cell? ⟨b, off + i, none⟩ = some (.complex .f64 (zs.getD i (0, 0)).1 (zs.getD i (0, 0)).2)))
    (hl : Hid (Lim zs)) (hlast : p + (n - 1) * jump < L) (hn : 0 < n) (hn2 : n ≤ 1024) (hlen : L ≤ 140737488355328) :
    Calls Tryd.prog 32 #[.slice (some ⟨b, off, none⟩) L cap, .int .i64 (p : Int), .int .i64 (jump : Int), .int .i64 (n : Int), .int .i64 k] w (RZ w (dsm n (Rp.md n k) fun j => zs.getD (p + j * jump) (0, 0))) := by
  have hp1 : p < L := by omega
  have hc0 : w.cell? ⟨b, off + p, none⟩ = some (.complex .f64 (zs.getD p (0, 0)).1 (zs.getD p (0, 0)).2) := hb.out p hp1
  obtain ⟨m, hm⟩ : ∃ m, Hid (m = Rp.md n k) := ⟨_, (rfl : _ = _)⟩
  rw [← hm.out]
  have z0 : Hid (Lk ((zs.getD p (0, 0)).1, (zs.getD p (0, 0)).2) (dst n m (fun j => zs.getD (p + j * jump) (0, 0)) 0)) := by show Lk _ _; unfold dst; rw [Nat.zero_mul]; exact Lk.refl _
  have hl0 : Hid ((zs.getD p (0, 0)).1 < 18446744073709551616 ∧ (zs.getD p (0, 0)).2 < 18446744073709551616) := hl.out p (by rw [hL.out]; exact hp1)
  generalize (zs.getD p (0, 0)).1 = x0 at *
  generalize (zs.getD p (0, 0)).2 = y0 at *
  have hlast' : Hid (p + (n - 1) * jump < L) := hlast
  clear hlast
  go_enter Tryd.func32, Tryd.ntmps32
  go_wp2_with fail
  clear hc0
  go_loopw [11, 12, 13] (fun sv sj _ wx => ∃ x y j d : Nat, sv = .complex .f64 x y ∧ sj = .int .i64 (j : Int) ∧ j ≤ n ∧ 1 ≤ j ∧ Hid (wx = w.drewN d) ∧ Hid (x < 18446744073709551616 ∧ y < 18446744073709551616 ∧ Lk (x, y) (dst n m (fun j => zs.getD (p + j * jump) (0, 0)) (j - 1)))) (fun _ sj _ _ => n - (intOf sj).toNat)
  case atStart => exact ⟨x0, y0, 1, 0, rfl, rfl, hn, Nat.le_refl _, (rfl : w = w.drewN 0), hl0.out.1, hl0.out.2, z0.out⟩
  case round =>
    clear z0 hl0 hp1
    obtain ⟨x, y, j, d, rfl, rfl, hjn, hj1, hw, hxy⟩ := hrel
    by_cases hlt : j < n
    · have hlt' : (j : Int) < (n : Int) := by omega
      have hle : Hid (j * jump ≤ (n - 1) * jump) := Nat.mul_le_mul_right _ (by omega)
      obtain ⟨T, hT, hT1⟩ : ∃ T : Nat, Hid (T = j * jump) ∧ (j : Int) * (jump : Int) = (T : Int) := ⟨j * jump, (rfl : _ = _), by rw [Int.natCast_mul]⟩
      have hTL : p + T < L := by have h1 := hle.out; have h2 := hlast'.out; rw [← hT.out] at h1; omega
      obtain ⟨Q, hQ, hQ1⟩ : ∃ Q : Nat, Hid (Q = p + T) ∧ (p : Int) + (T : Int) = (Q : Int) := ⟨p + T, (rfl : _ = _), by omega⟩
      have hQL : Q < L := by rw [hQ.out]; exact hTL
      have hQL' : (Q : Int) < (L : Int) := by omega
      obtain ⟨t, ht⟩ : ∃ t, Hid (t = j * m % n) := ⟨_, (rfl : _ = _)⟩
      have htn : t < n := by rw [ht.out]; exact Nat.mod_lt _ hn
      have hpc : Hid (∀ W, Calls Tryd.prog 49 #[.int .i64 (j : Int), .int .i64 k, .int .i64 (n : Int)] W fun e w' => e = .returned (.int .i64 (t : Int)) ∧ w' = W) := fun W => by
        have := prod10_c j n k W hlt (by omega)
        rw [← hm.out, ← ht.out] at this
        exact this
      have hcQ : wr.cell? ⟨b, off + Q, none⟩ = some (.complex .f64 (zs.getD Q (0, 0)).1 (zs.getD Q (0, 0)).2) := by rw [hw.out]; exact hb.out Q hQL
      have hlQ := hl.out Q (by rw [hL.out]; exact hQL)
      have htw : Hid (∀ W, Calls Tryd.prog 40 #[.complex .f64 (zs.getD Q (0, 0)).1 (zs.getD Q (0, 0)).2, .int .i64 n, .int .i64 (t : Int)] W (RZ W (tws n t (zs.getD Q (0, 0))))) := fun W => by
        have := tw10_c (zs.getD Q (0, 0)).1 (zs.getD Q (0, 0)).2 n (t : Int) W hn (by omega) hlQ.1 hlQ.2
        rw [md_self htn] at this
        exact this
      have hst : Hid (dst n m (fun j => zs.getD (p + j * jump) (0, 0)) j = adc (dst n m (fun j => zs.getD (p + j * jump) (0, 0)) (j - 1)) (tws n t (zs.getD Q (0, 0)))) := by
        show _ = _
        obtain ⟨i, rfl⟩ : ∃ i, j = i + 1 := ⟨j - 1, by omega⟩
        rw [ht.out, hQ.out, hT.out]; rfl
      generalize (zs.getD Q (0, 0)) = zq at *
      obtain ⟨a, c⟩ := zq
      have hWJ : IntKind.i64.wrap (Q : Int) = (Q : Int) := by rw [IntKind.wrap_i64]; omega
      have hWT : IntKind.i64.wrap (T : Int) = (T : Int) := by rw [IntKind.wrap_i64]; omega
      clear hle hlQ hTL
      obtain ⟨J, hJ, hJ1⟩ : ∃ J : Nat, Hid (J = j + 1) ∧ (j : Int) + 1 = (J : Int) := ⟨j + 1, (rfl : _ = _), by omega⟩
      have hDr : Hid (∀ D, wr.drewN D = w.drewN (d + D)) := fun D => by rw [hw.out, World.drewN_drewN]
      go_wp2_with fail
      go_region_with (first
        | (go_at_call 49; refine (hpc.out _).mono ?_; rintro e w5 ⟨rfl, rfl⟩)
        | (go_at_call 40; refine (htw.out _).mono ?_; rintro e w6 ⟨x2, y2, q, rfl, rfl, lx2, ly2, lk2⟩; have hlk2 : Hid (Lk (x2, y2) (tws n t (a, c))) := lk2; clear lk2))
      all_goals
        clear hpc htw hcQ
        go_wp2_with fail
        refine (plus10_c x y x2 y2 _).mono ?_
        rintro e w7 ⟨x3, y3, q3, rfl, rfl, lx3, ly3, lk3⟩
        have hlk3 : Hid (Lk (x3, y3) (dst n m (fun j => zs.getD (p + j * jump) (0, 0)) j)) := by
          show Lk _ _
          rw [hst.out, ← adc_of hxy.out.2.2 hlk2.out]
          exact lk3
        clear lk3
        go_wp2_with fail
        go_roundw
        case rel =>
          refine ⟨x3, y3, J, _, rfl, rfl, ?_, ?_, hDr.out _, ?_⟩
          · rw [hJ.out]; exact hlt
          · rw [hJ.out]; omega
          · rw [hJ.out]; exact ⟨lx3, ly3, hlk3.out⟩
        case measure => simp [intOf]; have := hJ.out; omega
    · have hlt' : decide ((j : Int) < (n : Int)) = false := decide_eq_false (by omega)
      have ej : j = n := by omega
      subst ej
      have hE : Hid (wr = w.drewN d) := hw
      go_wp2_with fail
      go_ret
      exact ⟨x, y, d, rfl, hE.out, hxy.out.1, hxy.out.2.1, hxy.out.2.2⟩
end Go.Proofs.YtehaokdjdhejlaaDoor
