/-
  Package check: headFits, Check, Acts.
-/
import Derived.Test.YtedfjedmapimnaaDoorKcr
namespace Go.Proofs.YtedfjedmapimnaaDoor
open Flo Go.RowKit
theorem kwithin_c (x lo hi : Int) (b : Bool) (hb : Sp.wi x lo hi = b) (w : World) :
    Calls Tryd.prog 31 #[.int .i64 x, .int .i64 lo, .int .i64 hi] w fun e w' => e = .returned (.bool b) ∧ w = w' := by
  subst hb
  by_cases h1 : lo ≤ x
  · by_cases h2 : x ≤ hi
    · have hf : Hid (Sp.wi x lo hi = true) := Sp.wi_iff.2 ⟨h1, h2⟩
      rw [hf.out]
      go_enter Tryd.func31, Tryd.ntmps31
      go_wp2
      go_ret
      exact ⟨rfl, rfl⟩
    · have hf : Hid (Sp.wi x lo hi = false) := by unfold Sp.wi; rw [decide_eq_false h2, Bool.and_false]; rfl
      rw [hf.out]
      have q2 : decide (x ≤ hi) = false := decide_eq_false h2
      go_enter Tryd.func31, Tryd.ntmps31
      go_wp2
      go_ret
      exact ⟨rfl, rfl⟩
  · have hf : Hid (Sp.wi x lo hi = false) := by unfold Sp.wi; rw [decide_eq_false h1, Bool.false_and]; rfl
    rw [hf.out]
    have q1 : decide (lo ≤ x) = false := decide_eq_false h1
    go_enter Tryd.func31, Tryd.ntmps31
    go_wp2
    go_ret
    exact ⟨rfl, rfl⟩
set_option maxHeartbeats 1000000 in
theorem khead_c (p : Sp.Pg) (v : Value) (ao : Option Addr) (m cap : Nat) (w : World) (hv : v = .slice ao m cap) :
    Calls Tryd.prog 21 #[pv p v] w fun e w' => e = .returned (.bool (Kc.hdf p)) ∧ Below w.heap.size w w' := by
  subst hv
  obtain ⟨g, hg⟩ : ∃ g, Hid (w.heap.size = g) := ⟨_, (rfl : _ = _)⟩
  obtain ⟨wa, ewa⟩ : ∃ wa, Hid (w.alloc (.cells #[.int .i64 p.len, .int .i64 p.cells, .int .i64 p.inn, .int .i64 p.out, .slice ao m cap] 24) = wa) := ⟨_, (rfl : _ = _)⟩
  have Ba : Hid (Below w.heap.size w wa) := by rw [← ewa.out]; exact (Below.refl _ _).alloc (Nat.le_refl _) _
  have X1 : Hid (Bpg wa g p (.slice ao m cap)) := by show Bpg _ _ _ _; rw [← ewa.out, ← hg.out]; exact Bpg.new w p _
  unfold Kc.hdf
  obtain ⟨q1, h1⟩ : ∃ q, Hid (Sp.wi p.len 1 16384 = q) := ⟨_, (rfl : _ = _)⟩
  obtain ⟨q2, h2⟩ : ∃ q, Hid (Sp.wi p.cells 1 262144 = q) := ⟨_, (rfl : _ = _)⟩
  obtain ⟨q3, h3⟩ : ∃ q, Hid (Sp.wi p.inn 0 (wrap64 (p.cells - p.len)) = q) := ⟨_, (rfl : _ = _)⟩
  obtain ⟨q4, h4⟩ : ∃ q, Hid (Sp.wi p.out 0 (wrap64 (p.cells - p.len)) = q) := ⟨_, (rfl : _ = _)⟩
  rw [h1.out, h2.out, h3.out, h4.out]
  unfold pv
  go_enter Tryd.func21, Tryd.ntmps21
  go_upto_region 1 with fail
  rw [ewa.out, hg.out]
  obtain ⟨x0, x1, x2, x3, x4⟩ := X1.out
  go_wp2_with fail
  refine (kwithin_c _ _ _ q1 h1.out wa).mono ?_
  rintro e w2 ⟨rfl, rfl⟩
  cases q1 with
  | false =>
    go_wp2_with fail
    go_ret
    exact ⟨by simp, Ba.out⟩
  | true =>
  go_wp2_with fail
  refine (kwithin_c _ _ _ q2 h2.out wa).mono ?_
  rintro e w2 ⟨rfl, rfl⟩
  cases q2 with
  | false =>
    go_wp2_with fail
    go_ret
    exact ⟨by simp, Ba.out⟩
  | true =>
  go_wp2_with fail
  refine (kwithin_c _ _ _ q3 h3.out wa).mono ?_
  rintro e w2 ⟨rfl, rfl⟩
  cases q3 with
  | false =>
    go_wp2_with fail
    go_ret
    exact ⟨by simp, Ba.out⟩
  | true =>
  go_wp2_with fail
  refine (kwithin_c _ _ _ q4 h4.out wa).mono ?_
  rintro e w2 ⟨rfl, rfl⟩
  go_wp2_with fail
  go_ret
  exact ⟨by simp, Ba.out⟩
set_option maxHeartbeats 1000000 in
theorem kcheck_c (p : Sp.Pg) (ao : Option Addr) (m cap : Nat) (al : List Addr) (w : World) (hs : Ss w ao p.steps) (hm : m = p.steps.length) (hb : m ≤ 140737488355328) (hO : Ops w) (he : Pe w al) :
    Calls Tryd.prog 11 #[pv p (.slice ao m cap)] w fun e w' => e = .returned (fev al (Kc.chk p)) ∧ Below w.heap.size w w' := by
  obtain ⟨g, hg⟩ : ∃ g, Hid (w.heap.size = g) := ⟨_, (rfl : _ = _)⟩
  obtain ⟨wa, ewa⟩ : ∃ wa, Hid (w.alloc (.cells #[.int .i64 p.len, .int .i64 p.cells, .int .i64 p.inn, .int .i64 p.out, .slice ao m cap] 24) = wa) := ⟨_, (rfl : _ = _)⟩
  have Ba : Hid (Below w.heap.size w wa) := by rw [← ewa.out]; exact (Below.refl _ _).alloc (Nat.le_refl _) _
  have X1 : Hid (Bpg wa g p (.slice ao m cap)) := by show Bpg _ _ _ _; rw [← ewa.out, ← hg.out]; exact Bpg.new w p _
  have heH : Hid (Pe wa al) := he.below Ba.out
  have c1 : Hid (Calls Tryd.prog 21 #[pv p (.slice ao m cap)] wa fun e w' => e = .returned (.bool (Kc.hdf p)) ∧ Below wa.heap.size wa w') := khead_c p _ ao m cap wa rfl
  have c2 : Hid (∀ W, Below wa.heap.size wa W → Calls Tryd.prog 13 #[pv p (.slice ao m cap)] W fun e w' => e = .returned (.int .i64 (Kc.flt p.cells 0 0 p.steps)) ∧ Below W.heap.size W w') := fun W hW => kfault_c p ao m cap al W (hs.below (Ba.out.trans (hW.mono Ba.out.size))) hm hb (hO.below ((Ba.out.trans (hW.mono Ba.out.size)).mono (Nat.le_refl _))) (heH.out.below hW)
  have hc : Hid (Kc.chk p = (Kc.hdf p && decide (Kc.flt p.cells 0 0 p.steps < 0))) := (rfl : _ = _)
  obtain ⟨r, hr⟩ : ∃ r, Hid (Kc.chk p = r) := ⟨_, (rfl : _ = _)⟩
  rw [hr.out] at hc ⊢
  generalize Kc.hdf p = h at c1 hc
  generalize Kc.flt p.cells 0 0 p.steps = F at c2 hc
  unfold pv at *
  clear hs hm hO he hr
  have hq := nnil_c al 8
  go_enter Tryd.func11, Tryd.ntmps11
  go_upto_region 1 with fail
  rw [ewa.out, hg.out]
  obtain ⟨x0, x1, x2, x3, x4⟩ := X1.out
  go_wp2_with fail
  refine c1.out.mono ?_
  rintro e w1 ⟨rfl, B1⟩
  have B1H : Hid (Below wa.heap.size wa w1) := B1
  have Z1 := X1.out.below B1
  clear x0 x1 x2 x3 x4 B1 c1
  obtain ⟨x0, x1, x2, x3, x4⟩ := Z1
  cases h with
  | false =>
    obtain rfl : r = false := hc.out
    have hp := heH.out.below B1H.out
    unfold Pe at hp
    have hB : Hid (Below w.heap.size w w1) := Ba.out.trans (B1H.out.mono Ba.out.size)
    go_wp2
    go_ret
    exact ⟨rfl, hB.out⟩
  | true =>
    go_wp2_with fail
    refine (c2.out w1 B1H.out).mono ?_
    rintro e w2 ⟨rfl, B2⟩
    have B2H : Hid (Below wa.heap.size wa w2) := B1H.out.trans (B2.mono B1H.out.size)
    have hB : Hid (Below w.heap.size w w2) := Ba.out.trans (B2H.out.mono Ba.out.size)
    have hp := heH.out.below B2H.out
    unfold Pe at hp
    clear x0 x1 x2 x3 x4 B2 c2
    by_cases hF : F < 0
    · obtain rfl : r = true := by rw [hc.out, decide_eq_true hF]; rfl
      have q1 : decide (0 ≤ F) = false := decide_eq_false (by omega)
      clear hF
      go_wp2
      go_ret
      exact ⟨rfl, hB.out⟩
    · obtain rfl : r = false := by rw [hc.out, decide_eq_false hF]; rfl
      have q1 : 0 ≤ F := by omega
      go_wp2
      go_ret
      exact ⟨rfl, hB.out⟩
end Go.Proofs.YtedfjedmapimnaaDoor
/-
  Package check: Acts.
-/
namespace Go.Proofs.YtedfjedmapimnaaDoor
open Flo Go.RowKit
theorem flt_step (cells : Int) (i : Nat) (a : Int) (s : Sp.St) (l : List Sp.St) (h : Kc.flt cells i a (s :: l) < 0) : i ≠ 65536 ∧ Kc.gdS s cells = true ∧ a + s.count ≤ 67108864 ∧ Kc.flt cells (i + 1) (a + s.count) l < 0 := by
  unfold Kc.flt at h
  cases e : (i == 65536) || !Kc.gdS s cells with
  | true => rw [e, cond_true] at h; omega
  | false =>
    rw [e, cond_false] at h
    rw [Bool.or_eq_false_iff, beq_eq_false_iff_ne] at e
    cases e2 : decide (67108864 < a + s.count) with
    | true => rw [e2, cond_true] at h; omega
    | false =>
      rw [e2, cond_false] at h
      have := of_decide_eq_false e2
      exact ⟨e.1, by have := e.2; simpa using this, by omega, h⟩
theorem sumc_nn (cells : Int) : ∀ (l : List Sp.St) (i : Nat) (a : Int), Kc.flt cells i a l < 0 → 0 ≤ Kc.sumc l ∧ (l ≠ [] → a + Kc.sumc l ≤ 67108864)
  | [], i, a, _ => ⟨Int.le_refl 0, fun h => absurd rfl h⟩
  | s :: l, i, a, h => by
    obtain ⟨h1, h2, h3, h4⟩ := flt_step cells i a s l h
    have hc := gd_fm h2
    have hr := sumc_nn cells l (i + 1) (a + s.count) h4
    unfold Kc.sumc
    refine ⟨by omega, fun _ => ?_⟩
    by_cases e : l = []
    · subst e; unfold Kc.sumc; omega
    · have := hr.2 e; omega
set_option maxHeartbeats 2000000 in
theorem kacts_c (p : Sp.Pg) (ao : Option Addr) (m cap : Nat) (al : List Addr) (w : World) (hs : Ss w ao p.steps) (hm : m = p.steps.length) (hb : m ≤ 140737488355328) (hO : Ops w) (he : Pe w al) :
    Calls Tryd.prog 8 #[pv p (.slice ao m cap)] w fun e w' => e = .returned (.tuple #[.int .i64 (bif Kc.chk p then Kc.sumc p.steps else 0), fev al (Kc.chk p)]) ∧ Below w.heap.size w w' := by
  obtain ⟨g, hg⟩ : ∃ g, Hid (w.heap.size = g) := ⟨_, (rfl : _ = _)⟩
  obtain ⟨wa, ewa⟩ : ∃ wa, Hid (w.alloc (.cells #[.int .i64 p.len, .int .i64 p.cells, .int .i64 p.inn, .int .i64 p.out, .slice ao m cap] 24) = wa) := ⟨_, (rfl : _ = _)⟩
  have Ba : Hid (Below w.heap.size w wa) := by rw [← ewa.out]; exact (Below.refl _ _).alloc (Nat.le_refl _) _
  have X1 : Hid (Bpg wa g p (.slice ao m cap)) := by show Bpg _ _ _ _; rw [← ewa.out, ← hg.out]; exact Bpg.new w p _
  have heH : Hid (Pe wa al) := he.below Ba.out
  have sH : Hid (Ss wa ao p.steps) := hs.below Ba.out
  have hmH : Hid (m = p.steps.length) := hm
  have c1 : Hid (Calls Tryd.prog 11 #[pv p (.slice ao m cap)] wa fun e w' => e = .returned (fev al (Kc.chk p)) ∧ Below wa.heap.size wa w') := kcheck_c p ao m cap al wa sH.out hm hb (hO.below (Ba.out.mono (Nat.le_refl _))) heH.out
  have hF : Hid (Kc.chk p = true → Kc.flt p.cells 0 0 p.steps < 0) := fun h => by
    unfold Kc.chk at h
    rw [Bool.and_eq_true, decide_eq_true_eq] at h
    exact h.2
  obtain ⟨r, hr⟩ : ∃ r, Hid (Kc.chk p = r) := ⟨_, (rfl : _ = _)⟩
  obtain ⟨T, hT⟩ : ∃ r, Hid (Kc.sumc p.steps = r) := ⟨_, (rfl : _ = _)⟩
  rw [hr.out] at c1 hF ⊢
  rw [hT.out]
  unfold pv at *
  clear hs hm hO he
  cases r with
  | false =>
    have e1 : fev al false = ek al 8 := rfl
    rw [e1] at c1 ⊢
    have hq := nnil_c al 8
    have hgd := guard_c al 8
    clear e1 hF
    rw [cond_false]
    go_enter Tryd.func8, Tryd.ntmps8
    go_upto_region 1 with fail
    rw [ewa.out, hg.out]
    obtain ⟨x0, x1, x2, x3, x4⟩ := X1.out
    go_wp2_with fail
    refine c1.out.mono ?_
    rintro e w1 ⟨rfl, B1⟩
    have hp := heH.out.below B1
    unfold Pe at hp
    have hB : Hid (Below w.heap.size w w1) := Ba.out.trans (B1.mono Ba.out.size)
    clear x0 x1 x2 x3 x4 B1 c1
    go_wp2
    go_region
    all_goals (
      go_wp2
      go_ret2
      exact ⟨rfl, hB.out.drew⟩)
  | true =>
    have e1 : fev al true = .nilIface := rfl
    rw [e1] at c1 ⊢
    clear e1
    rw [cond_true]
    have hF0 : Hid (Kc.flt p.cells 0 0 p.steps < 0) := hF.out rfl
    clear hF
    go_enter Tryd.func8, Tryd.ntmps8
    go_upto_region 1 with fail
    rw [ewa.out, hg.out]
    obtain ⟨x0, x1, x2, x3, x4⟩ := X1.out
    go_wp2_with fail
    refine c1.out.mono ?_
    rintro e w1 ⟨rfl, B1⟩
    have B1H : Hid (Below wa.heap.size wa w1) := B1
    have Z1 := X1.out.below B1
    clear x0 x1 x2 x3 x4 B1 c1
    obtain ⟨x0, x1, x2, x3, x4⟩ := Z1
    go_wp2
    clear x0 x1 x2 x3 x4
    go_loopw [4, 14] (fun a i wr => ∃ (k : Nat) (A : Int), k ≤ m ∧ i = .int .i64 k ∧ a = .int .i64 A ∧ Hid (Below wa.heap.size wa wr) ∧ Hid (0 ≤ A ∧ T = A + Kc.sumc (p.steps.drop k) ∧ Kc.flt p.cells k A (p.steps.drop k) < 0)) (fun _ i _ => m - (intOf i).toNat)
    case atStart => exact ⟨0, 0, Nat.zero_le _, rfl, rfl, B1H, by decide, by rw [List.drop_zero, hT.out]; omega, by rw [List.drop_zero]; exact hF0.out⟩
    case round =>
      obtain ⟨k, A, hk, rfl, rfl, Bk, hAk⟩ := hrel
      by_cases hlt : k < m
      · have hlt' : (k : Int) < (m : Int) := by omega
        obtain ⟨s, hs⟩ : ∃ s, p.steps[k]? = some s := ⟨_, List.getElem?_eq_getElem (by rw [← hmH.out]; exact hlt)⟩
        obtain ⟨q, o, rfl, hat⟩ := sH.out k s hs
        obtain ⟨y0, y1, y2, y3, y4, y5, y6⟩ := hat.below Bk.out
        have hdr : Hid (p.steps.drop k = s :: p.steps.drop (k + 1)) := by show _ = _; rw [List.drop_eq_getElem_cons (by rw [← hmH.out]; exact hlt)]; rw [List.getElem?_eq_getElem (by rw [← hmH.out]; exact hlt)] at hs; cases hs; rfl
        obtain ⟨a1, a2, a3⟩ := hAk.out
        rw [hdr.out] at a2 a3
        obtain ⟨f1, f2, f3, f4⟩ := flt_step _ _ _ _ _ a3
        have hcb := gd_fm f2
        have Bb : Hid (Below wa.heap.size wa (wr.alloc (.cells #[.int .i64 s.op, .int .i64 s.dst, .int .i64 s.src, .int .i64 s.jump, .int .i64 s.count, .int .i64 s.n, .int .i64 s.k] 39))) := Bk.out.alloc Bk.out.size _
        obtain ⟨A2, hA2⟩ : ∃ z, Hid (A + s.count = z) := ⟨_, (rfl : _ = _)⟩
        have e1 : wrap64 (A + s.count) = A2 := by rw [← hA2.out]; unfold wrap64; omega
        have hN : Hid (0 ≤ A2 ∧ T = A2 + Kc.sumc (p.steps.drop (k + 1)) ∧ Kc.flt p.cells (k + 1) A2 (p.steps.drop (k + 1)) < 0) := ⟨by have := hA2.out; omega, by have := hA2.out; unfold Kc.sumc at a2; omega, by rw [← hA2.out]; exact f4⟩
        clear hat hs a1 a2 a3 f1 f2 f3 f4 hcb
        go_upto_region 8 with fail
        rw [e1]
        clear e1
        go_wp2
        go_roundw
        case rel => exact ⟨k + 1, A2, by omega, by go_num, rfl, Bb, hN⟩
        case measure => simp [intOf]; omega
      · have hlt' : decide ((k : Int) < (m : Int)) = false := decide_eq_false (by omega)
        have hlt2 : ¬ k < m := hlt
        obtain rfl : T = A := by
          have := hAk.out.2.1
          rw [List.drop_eq_nil_of_le (by have := hmH.out; omega)] at this
          unfold Kc.sumc at this; omega
        go_wp2
        go_ret2
        exact ⟨rfl, Ba.out.trans (Bk.out.mono Ba.out.size)⟩
end Go.Proofs.YtedfjedmapimnaaDoor
