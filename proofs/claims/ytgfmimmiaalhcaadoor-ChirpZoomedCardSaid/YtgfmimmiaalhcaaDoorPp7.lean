/-
  Contracts of package roots: the eighth, the quarter, the turn, the root.
-/
import Derived.Test.YtgfmimmiaalhcaaDoorPo7
import Derived.Test.YtgfmimmiaalhcaaDoorMd7
namespace Go.Proofs.YtgfmimmiaalhcaaDoor
open Flo Go.RowKit

theorem below_tr {w a b : World} (h : Below w.heap.size w a) (k : Below a.heap.size a b) : Below w.heap.size w b := h.trans (k.mono h.size)
set_option maxHeartbeats 2000000 in
theorem eighth_c (r n : Nat) (w : World) (h : 8 * r ≤ n) (hn : n < 33554432) :
    Calls Tryd.prog 59 #[.int .i64 r, .int .i64 n] w fun e w' => e = .returned (.tuple #[.float .f64 (Rp.eiC r n), .float .f64 (Rp.eiS r n)]) ∧ Below w.heap.size w w' := by
  by_cases h0 : r = 0
  · subst h0
    go_enter Tryd.func59, Tryd.ntmps59
    go_wp2
    go_ret2
    exact ⟨rfl, Below.refl _ _⟩
  · have c0 : ((r : Int) == 0) = false := beq_eq_false_iff_ne.2 (by omega)
    by_cases h8 : 8 * r = n
    · have c8 : (8 * (r : Int) == (n : Int)) = true := beq_iff_eq.2 (by omega)
      have v1 : Hid (Rp.half = Rp.eiC r n) := (by unfold Rp.eiC; rw [if_neg h0, if_pos h8] : Rp.half = Rp.eiC r n)
      have v2 : Hid (Rp.half = Rp.eiS r n) := (by unfold Rp.eiS; rw [if_neg h0, if_pos h8] : Rp.half = Rp.eiS r n)
      clear h8
      go_enter Tryd.func59, Tryd.ntmps59
      go_wp2_with fail
      refine (of_c _ _).mono ?_
      rintro e w1 ⟨rfl, rfl⟩
      go_wp2
      go_ret2
      exact ⟨ret_ff v1.out v2.out, Below.refl _ _⟩
    · have c8 : (8 * (r : Int) == (n : Int)) = false := beq_eq_false_iff_ne.2 (by omega)
      have hm := @run_fmul Tryd.prog
      have hq := @run_fquo Tryd.prog
      have b1 : Hid (nanB (Rp.eiC r n) = false) := bd_nan (Rp.eiC_bd h hn)
      have b2 : Hid (nanB (Rp.eiS r n) = false) := bd_nan (Rp.eiS_bd h hn)
      have v1 : Hid (Rp.eiC r n = Rp.ser (co .mul (Rp.ang r n) (Rp.ang r n)) 0 8) := (by unfold Rp.eiC; rw [if_neg h0, if_neg h8] : Rp.eiC r n = _)
      have v2 : Hid (Rp.eiS r n = co .mul (Rp.ang r n) (Rp.ser (co .mul (Rp.ang r n) (Rp.ang r n)) 1 8)) := (by unfold Rp.eiS; rw [if_neg h0, if_neg h8] : Rp.eiS r n = _)
      go_enter Tryd.func59, Tryd.ntmps59
      go_wp2_with fail
      refine (of_c _ _).mono ?_
      rintro e w1 ⟨rfl, rfl⟩
      go_wp2_with fail
      have ea : ∀ v, bt (fr .quo (fr .mul 4618760256179416344 (floatOfInt .f64 (r : Int)) w) (floatOfInt .f64 (n : Int)) v) = bt (Rp.ang r n) := by
        intro v
        rw [bt_fr, co_fr_left]
        exact (bt_co ..).symm
      generalize hD : fk BinOp.mul 4618760256179416344 (floatOfInt FloatKind.f64 (r : Int)) + fk BinOp.quo (fr BinOp.mul 4618760256179416344 (floatOfInt FloatKind.f64 (r : Int)) w) (floatOfInt FloatKind.f64 (n : Int)) = D1
      have ea1 := ea (w.drewN (fk BinOp.mul 4618760256179416344 (floatOfInt FloatKind.f64 (r : Int))))
      generalize fr .quo (fr .mul 4618760256179416344 (floatOfInt .f64 (r : Int)) w) (floatOfInt .f64 (n : Int)) (w.drewN (fk BinOp.mul 4618760256179416344 (floatOfInt FloatKind.f64 (r : Int)))) = t at *
      clear ea hD
      have ey : Hid (bt (fr BinOp.mul t t (w.drewN D1)) = bt (co .mul (Rp.ang r n) (Rp.ang r n))) := (by rw [bt_fr, bt_co]; exact co_of ea1 ea1 : bt (fr BinOp.mul t t (w.drewN D1)) = _)
      generalize fr BinOp.mul t t (w.drewN D1) = y at *
      have et : Hid (bt t = bt (Rp.ang r n)) := ea1
      clear ea1
      generalize D1 + fk BinOp.mul t t = D2
      have B0 : Hid (Below w.heap.size w (w.drewN D2)) := below_drewN (Below.refl _ _) D2
      generalize w.drewN D2 = v0 at B0 ⊢
      refine (cosT_c _).mono ?_
      rintro e z1 ⟨rfl, C1⟩
      have B1 : Hid (Below w.heap.size w z1) := below_tr B0.out C1
      clear B0 C1
      go_wp2_with fail
      refine (series_c 0 _ cosA _ nineC (by decide)).mono ?_
      rintro e z2 ⟨x1, rfl, l1, e1, C2⟩
      have B2 : Hid (Below w.heap.size w z2) := below_tr B1.out C2
      have E1 : Hid (bt x1 = Rp.ser y 0 8) := e1
      clear B1 C2 e1
      go_wp2_with fail
      refine (sinT_c _).mono ?_
      rintro e z3 ⟨rfl, C3⟩
      have B3 : Hid (Below w.heap.size w z3) := below_tr B2.out C3
      clear B2 C3
      go_wp2_with fail
      refine (series_c 1 _ sinA _ nineS (by decide)).mono ?_
      rintro e z4 ⟨x2, rfl, l2, e2, C4⟩
      have B4 : Hid (Below w.heap.size w z4) := below_tr B3.out C4
      have E2 : Hid (bt x2 = Rp.ser y 1 8) := e2
      clear B3 C4 e2
      go_wp2_with fail
      go_ret2
      refine ⟨ret_ff ?_ ?_, below_drewN B4.out _⟩
      · refine eq_of_bt ?_ b1.out
        rw [E1.out, v1.out]
        exact ser_of 0 ey.out 8
      · refine eq_of_bt ?_ b2.out
        rw [bt_fr, v2.out]
        refine co_of et.out ?_
        rw [E2.out, bt_ser]
        exact ser_of 1 ey.out 8
set_option maxHeartbeats 400000 in
theorem minus_c (x : Nat) (w : World) (h : Ari.fin x) :
    Calls Tryd.prog 54 #[.float .f64 x] w fun e w' => e = .returned (.float .f64 (Rp.zp (Ari.ng x))) ∧ w' = w := by
  have ho : (FloatKind.f64.format.order x 0 == some .eq) = decide (x % 9223372036854775808 = 0) := order0 h
  have hn := fun w => run_fneg (P := Tryd.prog) x w h.1
  by_cases h0 : x % 9223372036854775808 = 0
  · rw [decide_eq_true h0] at ho
    have hv : Hid (0 = Rp.zp (Ari.ng x)) := (by unfold Rp.zp; rw [Ari.ng_mod h.1, if_pos h0] : 0 = Rp.zp (Ari.ng x))
    clear h0
    go_enter Tryd.func54, Tryd.ntmps54
    go_wp2
    go_ret
    exact ⟨ret_float hv.out, rfl⟩
  · rw [decide_eq_false h0] at ho
    have hv : Hid (Ari.ng x = Rp.zp (Ari.ng x)) := (by unfold Rp.zp; rw [Ari.ng_mod h.1, if_neg h0] : Ari.ng x = Rp.zp (Ari.ng x))
    clear h0
    go_enter Tryd.func54, Tryd.ntmps54
    go_wp2
    go_ret
    exact ⟨ret_float hv.out, rfl⟩
theorem tmod_pos {n : Nat} (h : 0 < n) {k : Int} (hk : 0 ≤ k.tmod n) : k.tmod n = ((Rp.md n k : Nat) : Int) := by
  have e := tmod_md h k
  have hl := Int.tmod_lt_of_pos k (show (0 : Int) < n by omega)
  rw [Int.tmod_eq_emod_of_nonneg (by omega), Int.add_emod_right, Int.emod_eq_of_lt hk hl] at e
  exact e
theorem tmod_neg {n : Nat} (h : 0 < n) {k : Int} (hk : k.tmod n < 0) : k.tmod n + n = ((Rp.md n k : Nat) : Int) := by
  have e := tmod_md h k
  have hl := Int.lt_tmod_of_pos k (show (0 : Int) < n by omega)
  rw [Int.tmod_eq_emod_of_nonneg (by omega), Int.emod_eq_of_lt (by omega) (by omega)] at e
  exact e
theorem modulo_c (n : Nat) (k : Int) (w : World) (h : 0 < n) (hn : n ≤ 16777216) :
    Calls Tryd.prog 56 #[.int .i64 k, .int .i64 n] w fun e w' => e = .returned (.int .i64 (Rp.md n k)) ∧ w' = w := by
  have h1 := Int.lt_tmod_of_pos k (show (0 : Int) < n by omega)
  have h2 := Int.tmod_lt_of_pos k (show (0 : Int) < n by omega)
  by_cases hk : k.tmod n < 0
  · have e : Hid (k.tmod n + n = ((Rp.md n k : Nat) : Int)) := tmod_neg h hk
    go_enter Tryd.func56, Tryd.ntmps56
    go_wp2
    go_ret
    exact ⟨ret_int e.out, rfl⟩
  · have e : Hid (k.tmod n = ((Rp.md n k : Nat) : Int)) := tmod_pos h (by omega)
    have hk' : decide (k.tmod n < 0) = false := decide_eq_false hk
    go_enter Tryd.func56, Tryd.ntmps56
    go_wp2
    go_ret
    exact ⟨ret_int e.out, rfl⟩
theorem eighth_e (a b : Int) (r n : Nat) (w : World) (ea : a = (r : Int)) (eb : b = (n : Int)) (h : 8 * r ≤ n) (hn : n < 33554432) :
    Calls Tryd.prog 59 #[.int .i64 a, .int .i64 b] w fun e w' => e = .returned (.tuple #[.float .f64 (Rp.eiC r n), .float .f64 (Rp.eiS r n)]) ∧ Below w.heap.size w w' := by
  subst ea eb; exact eighth_c r n w h hn
set_option maxHeartbeats 1000000 in
theorem quarter_c (r n : Nat) (w : World) (h : r < n) (hn : n ≤ 4194304) :
    Calls Tryd.prog 57 #[.int .i64 r, .int .i64 n] w fun e w' => e = .returned (.tuple #[.float .f64 (Rp.bc n r), .float .f64 (Rp.bs n r)]) ∧ Below w.heap.size w w' := by
  by_cases h2 : 2 * r ≤ n
  · have h2' : (2 * (r : Int) ≤ (n : Int)) := by omega
    have vc : Hid (Rp.eiC r (4 * n) = Rp.bc n r) := (by unfold Rp.bc; rw [if_pos h2] : Rp.eiC r (4 * n) = _)
    have vs : Hid (Rp.eiS r (4 * n) = Rp.bs n r) := (by unfold Rp.bs; rw [if_pos h2] : Rp.eiS r (4 * n) = _)
    go_enter Tryd.func57, Tryd.ntmps57
    go_wp2_with fail
    refine (eighth_e _ _ r (4 * n) _ ?ea ?eb (by omega) (by omega)).mono ?_
    case ea => rfl
    case eb => omega
    rintro e w2 ⟨rfl, B⟩
    rw [vc.out, vs.out]
    go_wp2
    go_ret2
    exact ⟨rfl, B⟩
  · have h2' : ¬ (2 * (r : Int) ≤ (n : Int)) := by omega
    have vc : Hid (Rp.eiS (n - r) (4 * n) = Rp.bc n r) := (by unfold Rp.bc; rw [if_neg h2] : Rp.eiS (n - r) (4 * n) = _)
    have vs : Hid (Rp.eiC (n - r) (4 * n) = Rp.bs n r) := (by unfold Rp.bs; rw [if_neg h2] : Rp.eiC (n - r) (4 * n) = _)
    go_enter Tryd.func57, Tryd.ntmps57
    go_wp2_with fail
    refine (eighth_e _ _ (n - r) (4 * n) _ ?ea ?eb (by omega) (by omega)).mono ?_
    case ea => omega
    case eb => omega
    rintro e w2 ⟨rfl, B⟩
    rw [vc.out, vs.out]
    go_wp2
    go_ret2
    exact ⟨rfl, B⟩
theorem quarter_e (a : Int) (r n : Nat) (w : World) (ea : a = (r : Int)) (h : r < n) (hn : n ≤ 4194304) :
    Calls Tryd.prog 57 #[.int .i64 a, .int .i64 n] w fun e w' => e = .returned (.tuple #[.float .f64 (Rp.bc n r), .float .f64 (Rp.bs n r)]) ∧ Below w.heap.size w w' := by
  subst ea; exact quarter_c r n w h hn
set_option maxHeartbeats 2000000 in
theorem turn_c (n : Nat) (k : Int) (w : World) (h : 0 < n) (hn : n ≤ 4194304) :
    Calls Tryd.prog 53 #[.int .i64 n, .int .i64 k] w fun e w' => e = .returned (.tuple #[.float .f64 (Rp.pc n (Rp.md n k)), .float .f64 (Rp.ps n (Rp.md n k))]) ∧ Below w.heap.size w w' := by
  have hm := Rp.md_lt h k
  obtain ⟨q, r, e1, e2, e3, hr, hq⟩ := Rp.parts hm
  have hc : Hid (Ari.fin (Rp.bc n r)) := Rp.bc_fin hr hn
  have hs : Hid (Ari.fin (Rp.bs n r)) := Rp.bs_fin hr hn
  have zc : Hid (Rp.zp (Rp.bc n r) = Rp.bc n r) := Rp.zp_word (Nat.lt_of_le_of_lt (Rp.bc_le hr hn) (by decide))
  have zs : Hid (Rp.zp (Rp.bs n r) = Rp.bs n r) := Rp.zp_word (Nat.lt_of_le_of_lt (Rp.bs_le hr hn) (by decide))
  have g1 : Hid (Rp.pc n (Rp.md n k) = Rp.zp (Rp.qC q (Rp.bc n r) (Rp.bs n r))) := (by unfold Rp.pc Rp.pcQ; rw [e1, e2] : Rp.pc n (Rp.md n k) = _)
  have g2 : Hid (Rp.ps n (Rp.md n k) = Rp.zp (Rp.qS q (Rp.bc n r) (Rp.bs n r))) := (by unfold Rp.ps Rp.psQ; rw [e1, e2] : Rp.ps n (Rp.md n k) = _)
  obtain ⟨d1, d2⟩ := div4 e3 hr
  clear e1 e2
  have hmod := modulo_c n k w h (by omega)
  have hqu := fun (a : Int) (w : World) (ea : a = (r : Int)) => quarter_e a r n w ea hr hn
  generalize Rp.md n k = m at *
  generalize Rp.bc n r = c at *
  generalize Rp.bs n r = s at *
  go_enter Tryd.func53, Tryd.ntmps53
  go_wp2_with fail
  refine hmod.mono ?_
  rintro e w1 ⟨rfl, rfl⟩
  go_wp2_with fail
  refine (hqu _ _ ?ea).mono ?_
  case ea => first | rfl | assumption
  rintro e w2 ⟨rfl, B⟩
  have hB : Hid (Below w1.heap.size w1 w2) := B
  clear B hqu hmod
  rcases (by omega : q = 0 ∨ q = 1 ∨ q = 2 ∨ q = 3) with rfl | rfl | rfl | rfl
  · go_wp2_with fail
    go_ret2
    exact ⟨ret_ff (by rw [g1.out, Rp.qC0, zc.out]) (by rw [g2.out, Rp.qS0, zs.out]), hB.out⟩
  · go_wp2_with fail
    refine (minus_c s _ hs.out).mono ?_
    rintro e w3 ⟨rfl, rfl⟩
    go_wp2_with fail
    go_ret2
    exact ⟨ret_ff (by rw [g1.out, Rp.qC1]) (by rw [g2.out, Rp.qS1, zc.out]), hB.out⟩
  · go_wp2_with fail
    refine (minus_c c _ hc.out).mono ?_
    rintro e w3 ⟨rfl, rfl⟩
    go_wp2_with fail
    refine (minus_c s _ hs.out).mono ?_
    rintro e w4 ⟨rfl, rfl⟩
    go_wp2_with fail
    go_ret2
    exact ⟨ret_ff (by rw [g1.out, Rp.qC2]) (by rw [g2.out, Rp.qS2]), hB.out⟩
  · go_wp2_with fail
    refine (minus_c c _ hc.out).mono ?_
    rintro e w3 ⟨rfl, rfl⟩
    go_wp2_with fail
    go_ret2
    exact ⟨ret_ff (by rw [g1.out, Rp.qC3, zs.out]) (by rw [g2.out, Rp.qS3]), hB.out⟩
set_option maxHeartbeats 1000000 in
theorem root_c (n : Nat) (k : Int) (w : World) (h : 0 < n) (hn : n ≤ 4194304) :
    Calls Tryd.prog 48 #[.int .i64 n, .int .i64 k] w fun e w' => e = .returned (.complex .f64 (Rp.pc n (Rp.md n k)) (Rp.pim n (Rp.md n k))) ∧ Below w.heap.size w w' := by
  have hs : Hid (Ari.fin (Rp.ps n (Rp.md n k))) := Rp.ps_fin _ h hn
  have ht := turn_c n k w h hn
  generalize Rp.md n k = m at *
  unfold Rp.pim
  generalize Rp.pc n m = c at *
  generalize Rp.ps n m = s at *
  go_enter Tryd.func48, Tryd.ntmps48
  go_wp2_with fail
  refine ht.mono ?_
  rintro e w1 ⟨rfl, B⟩
  go_wp2_with fail
  refine (minus_c s _ hs.out).mono ?_
  rintro e w2 ⟨rfl, rfl⟩
  go_wp2_with fail
  go_ret
  exact ⟨rfl, B⟩
end Go.Proofs.YtgfmimmiaalhcaaDoor
