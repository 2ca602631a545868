/-
  Contracts of the document's series and eighth of layer 7.
-/
import Derived.Test.YtgfmimmiaalhcaaDoorLow
import Derived.Test.YtgfmimmiaalhcaaDoorRts
namespace Go.Proofs.YtgfmimmiaalhcaaDoor
open Flo Go.RowKit

theorem bt_ser (y odd i : Nat) : bt (Rp.ser y odd i) = Rp.ser y odd i := by
  cases i with
  | zero => exact bt_co ..
  | succ i => exact bt_co ..
theorem bt_ffac (n : Nat) : bt (Rp.ffac n) = Rp.ffac n := by
  match n with
  | 0 => decide
  | 1 => decide
  | n + 2 => exact bt_co ..
theorem ffac_step {m : Nat} (h : 2 ≤ m) : Rp.ffac m = co .mul (Rp.ffac (m - 1)) (Rp.fl (m : Int)) := by
  obtain ⟨k, rfl⟩ : ∃ k, m = k + 2 := ⟨m - 2, by omega⟩
  rfl
set_option maxHeartbeats 2000000 in
theorem ser7_c (y odd : Nat) (w : World) (ho : odd < 2) :
    Calls Tryd.prog 58 #[.float .f64 y, .int .i64 odd] w (RF w (Rp.ser y odd 8)) := by
  have hm := @run_fmul Tryd.prog
  have hs := @run_fsub Tryd.prog
  have hq := @run_fquo Tryd.prog
  go_enter Tryd.func58, Tryd.ntmps58
  go_wp2
  go_loopw [5, 6, 7, 8, 9] (fun sp sk _ _ _ wx => ∃ i d p : Nat, i ≤ 9 ∧ sk = .int .i64 ((8 : Int) - i) ∧ sp = .float .f64 p ∧ p < 18446744073709551616 ∧ Hid (1 ≤ i → bt p = Rp.ser y odd (i - 1)) ∧ wx = w.drewN d) (fun _ sk _ _ _ _ => (intOf sk + 1).toNat)
  case atStart => exact ⟨0, 0, 0, by omega, rfl, rfl, by decide, fun h => absurd h (by omega), rfl⟩
  case round =>
    obtain ⟨i, d, p, hi, rfl, rfl, lp, hp, rfl⟩ := hrel
    by_cases h9 : i = 9
    · subst h9
      have hfin : Hid (bt p = Rp.ser y odd 8) := hp.out (by omega)
      go_wp2
      go_ret
      exact ⟨p, d, rfl, rfl, lp, hfin.out⟩
    · obtain ⟨k, hk⟩ : ∃ k : Nat, k + i = 8 := ⟨8 - i, by omega⟩
      have ek : (8 : Int) - (i : Int) = (k : Int) := by omega
      rw [ek]
      have hk8 : k ≤ 8 := by omega
      go_wp2
      go_loopw [7, 8] (fun sf sm wx => ∃ m d f : Nat, 2 ≤ m ∧ m ≤ 2 * k + odd + 2 ∧ (m ≤ 2 * k + odd + 1 ∨ m = 2) ∧ sm = .int .i64 m ∧ sf = .float .f64 f ∧ f < 18446744073709551616 ∧ Hid (bt f = Rp.ffac (m - 1)) ∧ wx = w.drewN d) (fun _ sm _ => (2 * k + odd + 3) - (intOf sm).toNat)
      case atStart => exact ⟨2, d, Rp.one, by omega, by omega, Or.inr rfl, rfl, rfl, by decide, (by decide : bt Rp.one = Rp.ffac 1), rfl⟩
      case round =>
        obtain ⟨m, d, f, m2, ml, mo, rfl, rfl, lf, hf, rfl⟩ := hrel
        by_cases hle : m ≤ 2 * k + odd
        · have hle' : (m : Int) ≤ 2 * (k : Int) + (odd : Int) := by omega
          go_wp2
          go_roundw
          case rel =>
            refine ⟨m + 1, _, _, by omega, by omega, Or.inl (by omega), by go_num, rfl, fr_lt .., ?_, rfl⟩
            show bt _ = Rp.ffac m
            rw [bt_fr, ffac_step m2]
            exact co_of (by rw [hf.out, bt_ffac]) rfl
          case measure => simp [intOf]; omega
        · have hle' : decide ((m : Int) ≤ 2 * (k : Int) + (odd : Int)) = false := decide_eq_false (by omega)
          have hle2 : ¬ m ≤ 2 * k + odd := hle
          have hff : Hid (bt f = Rp.ffac (2 * k + odd)) := (by
            rw [hf.out]
            by_cases hz : 2 * k + odd = 0
            · rw [hz, show m - 1 = 1 by omega]; rfl
            · congr 1; omega : bt f = Rp.ffac (2 * k + odd))
          by_cases h8 : k = 8
          · have c8 : ((k : Int) == 8) = true := beq_iff_eq.2 (by omega)
            have i0 : i = 0 := by omega
            subst i0
            go_wp2
            go_roundw
            case rel =>
              refine ⟨1, _, _, by omega, congrArg (Value.int .i64) (by omega), rfl, fr_lt .., fun _ => ?_, rfl⟩
              rw [bt_fr]
              show _ = co .quo Rp.one (Rp.ffac (2 * 8 + odd))
              rw [← h8]
              exact co_of rfl (by rw [hff.out, bt_ffac])
            case measure => first | (simp [intOf]; done) | (simp [intOf]; omega)
          · have c8 : ((k : Int) == 8) = false := beq_eq_false_iff_ne.2 (by omega)
            go_wp2
            go_roundw
            case rel =>
              refine ⟨i + 1, _, _, by omega, congrArg (Value.int .i64) (by omega), rfl, fr_lt .., fun _ => ?_, rfl⟩
              obtain ⟨j, rfl⟩ : ∃ j, i = j + 1 := ⟨i - 1, by omega⟩
              rw [bt_fr, co_fr_left, co_fr_right]
              show _ = co .sub (co .quo Rp.one (Rp.ffac (2 * (7 - j) + odd))) (co .mul y (Rp.ser y odd j))
              rw [show 7 - j = k by omega]
              have e1 : co .quo 4607182418800017408 f = co .quo Rp.one (Rp.ffac (2 * k + odd)) := co_of rfl (by rw [hff.out, bt_ffac])
              have e2 : co .mul y p = co .mul y (Rp.ser y odd j) := co_of rfl (by rw [hp.out (by omega), bt_ser]; rfl)
              rw [e1, e2]
            case measure => first | (simp [intOf]; done) | (simp [intOf]; omega)
end Go.Proofs.YtgfmimmiaalhcaaDoor
