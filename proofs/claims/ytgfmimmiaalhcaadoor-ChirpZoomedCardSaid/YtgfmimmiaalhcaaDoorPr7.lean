/-
  The contract of the document's pair of layer 7.
-/
import Derived.Test.YtgfmimmiaalhcaaDoorMd7
import Derived.Deep.QuietTactic
import Derived.BigQuiet
namespace Go.Proofs.YtgfmimmiaalhcaaDoor
open Flo Go.RowKit

theorem ei7_e (a b : Int) (r n : Nat) (w : World) (ea : a = (r : Int)) (eb : b = (n : Int)) (h : 8 * r ≤ n) (h1 : 1 ≤ n) (hn : n < 33554432) :
    Calls Tryd.prog 55 #[.int .i64 a, .int .i64 b] w fun e w' => e = .returned (.tuple #[.float .f64 (Rp.eiC r n), .float .f64 (Rp.eiS r n)]) ∧ ∃ k, w' = w.drewN k := by
  subst ea eb; exact ei7_c r n w h h1 hn
set_option maxHeartbeats 4000000 in
theorem pair7_c (n : Nat) (k : Int) (w : World) (h : 0 < n) (hn : n ≤ 4194304) :
    Calls Tryd.prog 49 #[.int .i64 n, .int .i64 k] w fun e w' => e = .returned (.tuple #[.float .f64 (Rp.pc n (Rp.md n k)), .float .f64 (Rp.ps n (Rp.md n k))]) ∧ ∃ d, w' = w.drewN d := by
  have hm := Rp.md_lt h k
  obtain ⟨q, r, e1, e2, e3, hr, hq⟩ := Rp.parts hm
  have hc : Hid (Ari.fin (Rp.bc n r)) := Rp.bc_fin hr hn
  have hs : Hid (Ari.fin (Rp.bs n r)) := Rp.bs_fin hr hn
  have g1 : Hid (Rp.pc n (Rp.md n k) = Rp.zp (Rp.qC q (Rp.bc n r) (Rp.bs n r))) := (by unfold Rp.pc Rp.pcQ; rw [e1, e2] : Rp.pc n (Rp.md n k) = _)
  have g2 : Hid (Rp.ps n (Rp.md n k) = Rp.zp (Rp.qS q (Rp.bc n r) (Rp.bs n r))) := (by unfold Rp.ps Rp.psQ; rw [e1, e2] : Rp.ps n (Rp.md n k) = _)
  obtain ⟨d1, d2⟩ := div4 e3 hr
  clear e1 e2
  have hmod := mod7_c n k w h (by omega)
  generalize Rp.md n k = m at *
  generalize hC : Rp.bc n r = c at *
  generalize hS : Rp.bs n r = s at *
  have hnc := fun w => run_fneg (P := Tryd.prog) c w hc.out.1
  have hns := fun w => run_fneg (P := Tryd.prog) s w hs.out.1
  have hcn : Hid (Ari.fin (Ari.ng c)) := Ari.fin_ng hc.out
  have hsn : Hid (Ari.fin (Ari.ng s)) := Ari.fin_ng hs.out
  by_cases h2 : 2 * r ≤ n
  · have h2' : (2 * (r : Int) ≤ (n : Int)) := by omega
    have vc : Hid (Rp.eiC r (4 * n) = c) := (by rw [← hC]; unfold Rp.bc; rw [if_pos h2] : Rp.eiC r (4 * n) = c)
    have vs : Hid (Rp.eiS r (4 * n) = s) := (by rw [← hS]; unfold Rp.bs; rw [if_pos h2] : Rp.eiS r (4 * n) = s)
    clear hC hS
    go_enter Tryd.func49, Tryd.ntmps49
    go_wp2_with fail
    refine hmod.mono ?_
    rintro e w1 ⟨rfl, rfl⟩
    go_wp2_with fail
    go_quiet (fail)
    go_wp2_with fail
    refine (ei7_e _ _ r (4 * n) _ ?ea ?eb (by omega) (by omega) (by omega)).mono ?_
    case ea => rfl
    case eb => omega
    rintro e w2 ⟨rfl, d, rfl⟩
    rw [vc.out, vs.out]
    rcases (by omega : q = 0 ∨ q = 1 ∨ q = 2 ∨ q = 3) with rfl | rfl | rfl | rfl
    · go_wp2
      all_goals
        go_ret2
        refine ⟨ret_ff ?_ ?_, _, rfl⟩
        · rw [g1.out, Rp.qC0]; first | exact zp_t hc.out (by assumption) | exact zp_f hc.out (by assumption)
        · rw [g2.out, Rp.qS0]; first | exact zp_t hs.out (by assumption) | exact zp_f hs.out (by assumption)
    · go_wp2
      all_goals
        go_ret2
        refine ⟨ret_ff ?_ ?_, _, rfl⟩
        · rw [g1.out, Rp.qC1]; first | exact zp_t hsn.out (by assumption) | exact zp_f hsn.out (by assumption)
        · rw [g2.out, Rp.qS1]; first | exact zp_t hc.out (by assumption) | exact zp_f hc.out (by assumption)
    · go_wp2
      all_goals
        go_ret2
        refine ⟨ret_ff ?_ ?_, _, rfl⟩
        · rw [g1.out, Rp.qC2]; first | exact zp_t hcn.out (by assumption) | exact zp_f hcn.out (by assumption)
        · rw [g2.out, Rp.qS2]; first | exact zp_t hsn.out (by assumption) | exact zp_f hsn.out (by assumption)
    · go_wp2
      all_goals
        go_ret2
        refine ⟨ret_ff ?_ ?_, _, rfl⟩
        · rw [g1.out, Rp.qC3]; first | exact zp_t hs.out (by assumption) | exact zp_f hs.out (by assumption)
        · rw [g2.out, Rp.qS3]; first | exact zp_t hcn.out (by assumption) | exact zp_f hcn.out (by assumption)
  · have h2' : ¬ (2 * (r : Int) ≤ (n : Int)) := by omega
    have vc : Hid (Rp.eiS (n - r) (4 * n) = c) := (by rw [← hC]; unfold Rp.bc; rw [if_neg h2] : Rp.eiS (n - r) (4 * n) = c)
    have vs : Hid (Rp.eiC (n - r) (4 * n) = s) := (by rw [← hS]; unfold Rp.bs; rw [if_neg h2] : Rp.eiC (n - r) (4 * n) = s)
    clear hC hS
    go_enter Tryd.func49, Tryd.ntmps49
    go_wp2_with fail
    refine hmod.mono ?_
    rintro e w1 ⟨rfl, rfl⟩
    go_wp2_with fail
    go_quiet (fail)
    go_wp2_with fail
    refine (ei7_e _ _ (n - r) (4 * n) _ ?ea ?eb (by omega) (by omega) (by omega)).mono ?_
    case ea => omega
    case eb => omega
    rintro e w2 ⟨rfl, d, rfl⟩
    rw [vc.out, vs.out]
    rcases (by omega : q = 0 ∨ q = 1 ∨ q = 2 ∨ q = 3) with rfl | rfl | rfl | rfl
    · go_wp2
      all_goals
        go_ret2
        refine ⟨ret_ff ?_ ?_, _, rfl⟩
        · rw [g1.out, Rp.qC0]; first | exact zp_t hc.out (by assumption) | exact zp_f hc.out (by assumption)
        · rw [g2.out, Rp.qS0]; first | exact zp_t hs.out (by assumption) | exact zp_f hs.out (by assumption)
    · go_wp2
      all_goals
        go_ret2
        refine ⟨ret_ff ?_ ?_, _, rfl⟩
        · rw [g1.out, Rp.qC1]; first | exact zp_t hsn.out (by assumption) | exact zp_f hsn.out (by assumption)
        · rw [g2.out, Rp.qS1]; first | exact zp_t hc.out (by assumption) | exact zp_f hc.out (by assumption)
    · go_wp2
      all_goals
        go_ret2
        refine ⟨ret_ff ?_ ?_, _, rfl⟩
        · rw [g1.out, Rp.qC2]; first | exact zp_t hcn.out (by assumption) | exact zp_f hcn.out (by assumption)
        · rw [g2.out, Rp.qS2]; first | exact zp_t hsn.out (by assumption) | exact zp_f hsn.out (by assumption)
    · go_wp2
      all_goals
        go_ret2
        refine ⟨ret_ff ?_ ?_, _, rfl⟩
        · rw [g1.out, Rp.qC3]; first | exact zp_t hs.out (by assumption) | exact zp_f hs.out (by assumption)
        · rw [g2.out, Rp.qS3]; first | exact zp_t hcn.out (by assumption) | exact zp_f hcn.out (by assumption)
end Go.Proofs.YtgfmimmiaalhcaaDoor
