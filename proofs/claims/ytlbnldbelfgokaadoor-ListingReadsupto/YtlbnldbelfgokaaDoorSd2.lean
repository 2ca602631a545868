/-
  timbreref15: within, number, Form.
-/
import Derived.Test.YtlbnldbelfgokaaDoorSd1
import Derived.Deep.RegionWith
import Derived.Deep.RegionLaw
namespace Go.Proofs.YtlbnldbelfgokaaDoor
open Flo Go.RowKit
theorem dwithin_c (x lo hi : Int) (b : Bool) (hb : Sp.wi x lo hi = b) (w : World) :
    Calls Tryd.prog 35 #[.int .i64 x, .int .i64 lo, .int .i64 hi] w fun e w' => e = .returned (.bool b) ∧ w = w' := by
  subst hb
  by_cases h1 : lo ≤ x
  · by_cases h2 : x ≤ hi
    · have hf : Hid (Sp.wi x lo hi = true) := Sp.wi_iff.2 ⟨h1, h2⟩
      rw [hf.out]
      go_enter Tryd.func35, Tryd.ntmps35
      go_wp2
      go_ret
      exact ⟨rfl, rfl⟩
    · have hf : Hid (Sp.wi x lo hi = false) := by unfold Sp.wi; rw [decide_eq_false h2, Bool.and_false]; rfl
      rw [hf.out]
      have q2 : decide (x ≤ hi) = false := decide_eq_false h2
      go_enter Tryd.func35, Tryd.ntmps35
      go_wp2
      go_ret
      exact ⟨rfl, rfl⟩
  · have hf : Hid (Sp.wi x lo hi = false) := by unfold Sp.wi; rw [decide_eq_false h1, Bool.false_and]; rfl
    rw [hf.out]
    have q1 : decide (lo ≤ x) = false := decide_eq_false h1
    go_enter Tryd.func35, Tryd.ntmps35
    go_wp2
    go_ret
    exact ⟨rfl, rfl⟩
/-- a Bool of a comparison -/
theorem dnum_ret {b c : Bool} (h : b = c) : Ending.returned (.bool b) = .returned (.bool c) := by rw [h]
set_option maxHeartbeats 4000000 in
theorem dnumber_c (s : Sp.St) (w : World) :
    Calls Tryd.prog 37 #[sv s] w fun e w' => e = .returned (.bool (Sp.num s)) ∧ Below w.heap.size w w' := by
  obtain ⟨op, dst, src, jump, count, n, k⟩ := s
  obtain ⟨wa, ewa⟩ : ∃ wa, Hid (w.alloc (.cells #[.int .i64 op, .int .i64 dst, .int .i64 src, .int .i64 jump, .int .i64 count, .int .i64 n, .int .i64 k] 38) = wa) := ⟨_, (rfl : _ = _)⟩
  have Ba : Hid (Below w.heap.size w wa) := by rw [← ewa.out]; exact (Below.refl _ _).alloc (Nat.le_refl _) _
  have X2 : Bst wa w.heap.size op dst src jump count n k := by rw [← ewa.out]; exact Bst.new w op dst src jump count n k
  obtain ⟨y0, y1, y2, y3, y4, y5, y6⟩ := X2
  unfold sv sva
  by_cases h4 : op = 4
  · subst h4
    obtain ⟨b, hb⟩ : ∃ b, Hid (Sp.wi n 1 16384 = b) := ⟨_, (rfl : _ = _)⟩
    have hf : Hid (Sp.num ⟨4, dst, src, jump, count, n, k⟩ = (b && Sp.wi k 0 (n - 1))) := by show _ = _; rw [← hb.out]; rfl
    rw [hf.out]
    have hw : b = true → wrap64 (n - 1) = n - 1 ∧ wrap64 (wrap64 (2 * n) - 1) = 2 * n - 1 := fun e => Sp.w1 (Sp.wi_iff.1 (hb.out.trans e))
    have hwr : wrap64 (2 * n) = wrap64 (2 * n) := rfl
    go_enter Tryd.func37, Tryd.ntmps37
    go_upto_region 1 with fail
    rw [ewa.out]
    go_wp2_with fail
    refine (dwithin_c _ _ _ b hb.out wa).mono ?_
    rintro e w1 ⟨rfl, rfl⟩
    cases b with
    | false =>
      go_wp2_with fail
      go_ret
      exact ⟨rfl, Ba.out⟩
    | true =>
      obtain ⟨e1, e2⟩ := hw rfl
      clear hw hwr hf hb
      go_wp2_with fail
      rw [e1]
      refine (dwithin_c _ _ _ _ rfl wa).mono ?_
      rintro e w1 ⟨rfl, rfl⟩
      go_wp2_with fail
      go_ret
      exact ⟨dnum_ret (by simp), Ba.out⟩
  by_cases h5 : op = 5
  · subst h5
    obtain ⟨b, hb⟩ : ∃ b, Hid (Sp.wi n 2 5 = b) := ⟨_, (rfl : _ = _)⟩
    have hf : Hid (Sp.num ⟨5, dst, src, jump, count, n, k⟩ = (b && decide (count ≤ jump))) := by show _ = _; rw [← hb.out]; rfl
    rw [hf.out]
    clear hf
    go_enter Tryd.func37, Tryd.ntmps37
    go_upto_region 1 with fail
    rw [ewa.out]
    go_wp2_with fail
    refine (dwithin_c _ _ _ b hb.out wa).mono ?_
    rintro e w1 ⟨rfl, rfl⟩
    cases b with
    | false =>
      go_wp2_with fail
      go_ret
      exact ⟨rfl, Ba.out⟩
    | true =>
      clear hb
      generalize hz : decide (count ≤ jump) = z
      go_wp2_with fail
      go_ret
      exact ⟨dnum_ret (by simp [hz]), Ba.out⟩
  by_cases h6 : op = 6
  · subst h6
    obtain ⟨b, hb⟩ : ∃ b, Hid (Sp.wi n 1 64 = b) := ⟨_, (rfl : _ = _)⟩
    have hf : Hid (Sp.num ⟨6, dst, src, jump, count, n, k⟩ = (b && decide (count ≤ n))) := by show _ = _; rw [← hb.out]; rfl
    rw [hf.out]
    clear hf
    go_enter Tryd.func37, Tryd.ntmps37
    go_upto_region 1 with fail
    rw [ewa.out]
    go_wp2_with fail
    refine (dwithin_c _ _ _ b hb.out wa).mono ?_
    rintro e w1 ⟨rfl, rfl⟩
    cases b with
    | false =>
      go_wp2_with fail
      go_ret
      exact ⟨rfl, Ba.out⟩
    | true =>
      clear hb
      generalize hz : decide (count ≤ n) = z
      go_wp2_with fail
      go_ret
      exact ⟨dnum_ret (by simp [hz]), Ba.out⟩
  by_cases h7 : op = 7
  · subst h7
    obtain ⟨b, hb⟩ : ∃ b, Hid (Sp.wi n 1 16384 = b) := ⟨_, (rfl : _ = _)⟩
    have hf : Hid (Sp.num ⟨7, dst, src, jump, count, n, k⟩ = (b && decide (count ≤ n))) := by show _ = _; rw [← hb.out]; rfl
    rw [hf.out]
    clear hf
    go_enter Tryd.func37, Tryd.ntmps37
    go_upto_region 1 with fail
    rw [ewa.out]
    go_wp2_with fail
    refine (dwithin_c _ _ _ b hb.out wa).mono ?_
    rintro e w1 ⟨rfl, rfl⟩
    cases b with
    | false =>
      go_wp2_with fail
      go_ret
      exact ⟨rfl, Ba.out⟩
    | true =>
      clear hb
      generalize hz : decide (count ≤ n) = z
      go_wp2_with fail
      go_ret
      exact ⟨dnum_ret (by simp [hz]), Ba.out⟩
  by_cases h8 : op = 8
  · subst h8
    obtain ⟨b, hb⟩ : ∃ b, Hid (Sp.wi n 1 16384 = b) := ⟨_, (rfl : _ = _)⟩
    have hf : Hid (Sp.num ⟨8, dst, src, jump, count, n, k⟩ = (b && Sp.wi count (2 * n - 1) 16384)) := by show _ = _; rw [← hb.out]; rfl
    rw [hf.out]
    have hw : b = true → wrap64 (n - 1) = n - 1 ∧ wrap64 (wrap64 (2 * n) - 1) = 2 * n - 1 := fun e => Sp.w1 (Sp.wi_iff.1 (hb.out.trans e))
    have hwr : wrap64 (2 * n) = wrap64 (2 * n) := rfl
    go_enter Tryd.func37, Tryd.ntmps37
    go_upto_region 1 with fail
    rw [ewa.out]
    go_wp2_with fail
    refine (dwithin_c _ _ _ b hb.out wa).mono ?_
    rintro e w1 ⟨rfl, rfl⟩
    cases b with
    | false =>
      go_wp2_with fail
      go_ret
      exact ⟨rfl, Ba.out⟩
    | true =>
      obtain ⟨e1, e2⟩ := hw rfl
      clear hw hwr hf hb
      obtain ⟨m, hm⟩ : ∃ m, Hid (2 * n - 1 = m) := ⟨_, (rfl : _ = _)⟩
      obtain ⟨u, hu⟩ : ∃ u, Hid (wrap64 (2 * n) = u) := ⟨_, (rfl : _ = _)⟩
      go_wp2_with fail
      rw [e2]
      refine (dwithin_c _ _ _ _ rfl wa).mono ?_
      rintro e w1 ⟨rfl, rfl⟩
      go_wp2_with fail
      go_ret
      exact ⟨dnum_ret (by simp), Ba.out⟩
  by_cases h11 : op = 11
  · subst h11
    obtain ⟨b, hb⟩ : ∃ b, Hid (Sp.wi n 1 16384 = b) := ⟨_, (rfl : _ = _)⟩
    have hf : Hid (Sp.num ⟨11, dst, src, jump, count, n, k⟩ = b) := by show _ = _; rw [← hb.out]; rfl
    rw [hf.out]
    go_enter Tryd.func37, Tryd.ntmps37
    go_upto_region 1 with fail
    rw [ewa.out]
    go_wp2_with fail
    refine (dwithin_c _ _ _ b hb.out wa).mono ?_
    rintro e w1 ⟨rfl, rfl⟩
    go_wp2_with fail
    go_ret
    exact ⟨rfl, Ba.out⟩
  have hf : Hid (Sp.num ⟨op, dst, src, jump, count, n, k⟩ = true) := by show _ = _; unfold Sp.num; simp only [h4, h5, h6, h7, h8, h11, if_false]
  rw [hf.out]
  have q4 : (op == 4) = false := beq_eq_false_iff_ne.2 h4
  have q5 : (op == 5) = false := beq_eq_false_iff_ne.2 h5
  have q6 : (op == 6) = false := beq_eq_false_iff_ne.2 h6
  have q7 : (op == 7) = false := beq_eq_false_iff_ne.2 h7
  have q8 : (op == 8) = false := beq_eq_false_iff_ne.2 h8
  have q11 : (op == 11) = false := beq_eq_false_iff_ne.2 h11
  clear h4 h5 h6 h7 h8 h11
  go_enter Tryd.func37, Tryd.ntmps37
  go_upto_region 1 with fail
  rw [ewa.out]
  go_wp2_with fail
  go_ret
  exact ⟨rfl, Ba.out⟩
end Go.Proofs.YtlbnldbelfgokaaDoor
