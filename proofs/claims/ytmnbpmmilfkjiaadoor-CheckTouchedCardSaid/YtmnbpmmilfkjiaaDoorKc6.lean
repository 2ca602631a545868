/-
  Package check: headFits, Check, Acts.
-/
import Derived.Test.YtmnbpmmilfkjiaaDoorKc5
namespace Go.Proofs.YtmnbpmmilfkjiaaDoor
open Flo Go.RowKit
theorem kwithin_c (x lo hi : Int) (b : Bool) (hb : Sp.wi x lo hi = b) (w : World) :
    Calls Tryd.prog 38 #[.int .i64 x, .int .i64 lo, .int .i64 hi] w fun e w' => e = .returned (.bool b) ∧ w = w' := by
  subst hb
  by_cases h1 : lo ≤ x
  · by_cases h2 : x ≤ hi
    · have hf : Hid (Sp.wi x lo hi = true) := Sp.wi_iff.2 ⟨h1, h2⟩
      rw [hf.out]
      go_enter Tryd.func38, Tryd.ntmps38
      go_wp2
      go_ret
      exact ⟨rfl, rfl⟩
    · have hf : Hid (Sp.wi x lo hi = false) := by unfold Sp.wi; rw [decide_eq_false h2, Bool.and_false]; rfl
      rw [hf.out]
      have q2 : decide (x ≤ hi) = false := decide_eq_false h2
      go_enter Tryd.func38, Tryd.ntmps38
      go_wp2
      go_ret
      exact ⟨rfl, rfl⟩
  · have hf : Hid (Sp.wi x lo hi = false) := by unfold Sp.wi; rw [decide_eq_false h1, Bool.false_and]; rfl
    rw [hf.out]
    have q1 : decide (lo ≤ x) = false := decide_eq_false h1
    go_enter Tryd.func38, Tryd.ntmps38
    go_wp2
    go_ret
    exact ⟨rfl, rfl⟩
set_option maxHeartbeats 1000000 in
theorem khead_c (p : Sp.Pg) (v : Value) (ao : Option Addr) (m cap : Nat) (w : World) (hv : v = .slice ao m cap) :
    Calls Tryd.prog 26 #[pv p v] w fun e w' => e = .returned (.bool (Kc.hdf p)) ∧ Below w.heap.size w w' := by
  subst hv
  obtain ⟨g, hg⟩ : ∃ g, Hid (w.heap.size = g) := ⟨_, (rfl : _ = _)⟩
  obtain ⟨wa, ewa⟩ : ∃ wa, Hid (w.alloc (.cells #[.int .i64 p.len, .int .i64 p.cells, .int .i64 p.inn, .int .i64 p.out, .slice ao m cap] 24) = wa) := ⟨_, (rfl : _ = _)⟩
  have Ba : Hid (Below w.heap.size w wa) := by rw [← ewa.out]; exact (Below.refl _ _).alloc (Nat.le_refl _) _
  have X1 : Hid (Bpg wa g p (.slice ao m cap)) := by show Bpg _ _ _ _; rw [← ewa.out, ← hg.out]; exact Bpg.new w p _
  unfold Kc.hdf
  obtain ⟨q1, h1⟩ : ∃ q, Hid (Sp.wi p.len 1 16384 = q) := ⟨_, (rfl : _ = _)⟩
  obtain ⟨q2, h2⟩ : ∃ q, Hid (Sp.wi p.cells 1 262144 = q) := ⟨_, (rfl : _ = _)⟩
  obtain ⟨q3, h3⟩ : ∃ q, Hid (Sp.wi p.inn 0 (wrap64 (p.cells - p.len)) = q) := ⟨_, (rfl : _ = _)⟩
  obtain ⟨q4, h4⟩ : ∃ q, Hid (Sp.wi p.out 0 (wrap64 (p.cells - p.len)) = q) := ⟨_, (rfl : _ = _)⟩
  rw [h1.out, h2.out, h3.out, h4.out]
  unfold pv
  go_enter Tryd.func26, Tryd.ntmps26
  go_upto_region 1 with fail
  rw [ewa.out, hg.out]
  obtain ⟨x0, x1, x2, x3, x4⟩ := X1.out
  go_wp2_with fail
  refine (kwithin_c _ _ _ q1 h1.out wa).mono ?_
  rintro e w2 ⟨rfl, rfl⟩
  cases q1 with
  | false =>
    go_wp2_with fail
    go_ret
    exact ⟨by simp, Ba.out⟩
  | true =>
  go_wp2_with fail
  refine (kwithin_c _ _ _ q2 h2.out wa).mono ?_
  rintro e w2 ⟨rfl, rfl⟩
  cases q2 with
  | false =>
    go_wp2_with fail
    go_ret
    exact ⟨by simp, Ba.out⟩
  | true =>
  go_wp2_with fail
  refine (kwithin_c _ _ _ q3 h3.out wa).mono ?_
  rintro e w2 ⟨rfl, rfl⟩
  cases q3 with
  | false =>
    go_wp2_with fail
    go_ret
    exact ⟨by simp, Ba.out⟩
  | true =>
  go_wp2_with fail
  refine (kwithin_c _ _ _ q4 h4.out wa).mono ?_
  rintro e w2 ⟨rfl, rfl⟩
  go_wp2_with fail
  go_ret
  exact ⟨by simp, Ba.out⟩
set_option maxHeartbeats 1000000 in
theorem kcheck_c (p : Sp.Pg) (ao : Option Addr) (m cap : Nat) (al : List Addr) (w : World) (hs : Ss w ao p.steps) (hm : m = p.steps.length) (hb : m ≤ 140737488355328) (hO : Ops w) (he : Pe w al) :
    Calls Tryd.prog 14 #[pv p (.slice ao m cap)] w fun e w' => e = .returned (fev al (Kc.chk p)) ∧ Below w.heap.size w w' := by
  obtain ⟨g, hg⟩ : ∃ g, Hid (w.heap.size = g) := ⟨_, (rfl : _ = _)⟩
  obtain ⟨wa, ewa⟩ : ∃ wa, Hid (w.alloc (.cells #[.int .i64 p.len, .int .i64 p.cells, .int .i64 p.inn, .int .i64 p.out, .slice ao m cap] 24) = wa) := ⟨_, (rfl : _ = _)⟩
  have Ba : Hid (Below w.heap.size w wa) := by rw [← ewa.out]; exact (Below.refl _ _).alloc (Nat.le_refl _) _
  have X1 : Hid (Bpg wa g p (.slice ao m cap)) := by show Bpg _ _ _ _; rw [← ewa.out, ← hg.out]; exact Bpg.new w p _
  have heH : Hid (Pe wa al) := he.below Ba.out
  have c1 : Hid (Calls Tryd.prog 26 #[pv p (.slice ao m cap)] wa fun e w' => e = .returned (.bool (Kc.hdf p)) ∧ Below wa.heap.size wa w') := khead_c p _ ao m cap wa rfl
  have c2 : Hid (∀ W, Below wa.heap.size wa W → Calls Tryd.prog 16 #[pv p (.slice ao m cap)] W fun e w' => e = .returned (.int .i64 (Kc.flt p.cells 0 0 p.steps)) ∧ Below W.heap.size W w') := fun W hW => kfault_c p ao m cap al W (hs.below (Ba.out.trans (hW.mono Ba.out.size))) hm hb (hO.below ((Ba.out.trans (hW.mono Ba.out.size)).mono (Nat.le_refl _))) (heH.out.below hW)
  have hc : Hid (Kc.chk p = (Kc.hdf p && decide (Kc.flt p.cells 0 0 p.steps < 0))) := (rfl : _ = _)
  obtain ⟨r, hr⟩ : ∃ r, Hid (Kc.chk p = r) := ⟨_, (rfl : _ = _)⟩
  rw [hr.out] at hc ⊢
  generalize Kc.hdf p = h at c1 hc
  generalize Kc.flt p.cells 0 0 p.steps = F at c2 hc
  unfold pv at *
  clear hs hm hO he hr
  have hq := nnil_c al 8
  go_enter Tryd.func14, Tryd.ntmps14
  go_upto_region 1 with fail
  rw [ewa.out, hg.out]
  obtain ⟨x0, x1, x2, x3, x4⟩ := X1.out
  go_wp2_with fail
  refine c1.out.mono ?_
  rintro e w1 ⟨rfl, B1⟩
  have B1H : Hid (Below wa.heap.size wa w1) := B1
  have Z1 := X1.out.below B1
  clear x0 x1 x2 x3 x4 B1 c1
  obtain ⟨x0, x1, x2, x3, x4⟩ := Z1
  cases h with
  | false =>
    obtain rfl : r = false := hc.out
    have hp := heH.out.below B1H.out
    unfold Pe at hp
    have hB : Hid (Below w.heap.size w w1) := Ba.out.trans (B1H.out.mono Ba.out.size)
    go_wp2
    go_ret
    exact ⟨rfl, hB.out⟩
  | true =>
    go_wp2_with fail
    refine (c2.out w1 B1H.out).mono ?_
    rintro e w2 ⟨rfl, B2⟩
    have B2H : Hid (Below wa.heap.size wa w2) := B1H.out.trans (B2.mono B1H.out.size)
    have hB : Hid (Below w.heap.size w w2) := Ba.out.trans (B2H.out.mono Ba.out.size)
    have hp := heH.out.below B2H.out
    unfold Pe at hp
    clear x0 x1 x2 x3 x4 B2 c2
    by_cases hF : F < 0
    · obtain rfl : r = true := by rw [hc.out, decide_eq_true hF]; rfl
      have q1 : decide (0 ≤ F) = false := decide_eq_false (by omega)
      clear hF
      go_wp2
      go_ret
      exact ⟨rfl, hB.out⟩
    · obtain rfl : r = false := by rw [hc.out, decide_eq_false hF]; rfl
      have q1 : 0 ≤ F := by omega
      go_wp2
      go_ret
      exact ⟨rfl, hB.out⟩
end Go.Proofs.YtmnbpmmilfkjiaaDoor
