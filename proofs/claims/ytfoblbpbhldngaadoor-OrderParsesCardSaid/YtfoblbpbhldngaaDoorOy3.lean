/-
  The program's copied, Times, Blue.
-/
import Derived.Test.YtfoblbpbhldngaaDoorOy2
import Derived.Deep.RegionHeldLaw
namespace Go.Proofs.YtfoblbpbhldngaaDoor
open Flo Go.RowKit Tr
set_option maxHeartbeats 1000000 in
set_option maxRecDepth 100000 in
theorem copied_c (t : Tr) (v : Value) (w : World) (ho : Od w t v) (hpt : pt t ≤ 65536) : Calls Tryd.prog 28 #[v] w fun e w' => ∃ u, e = .returned u ∧ Os (nw w) w' t u ∧ Below w.heap.size w w' := by
  obtain ⟨k, n, ks⟩ := t
  obtain ⟨ao, cap, rfl, _, _⟩ := ho.kds
  obtain ⟨L, hL⟩ : ∃ L, Hid (ks.length = L) := ⟨_, (rfl : _ = _)⟩
  obtain ⟨t, ht⟩ : ∃ t, Hid (Tr.mk k n ks = t) := ⟨_, (rfl : _ = _)⟩
  rw [ht.out] at hpt
  rw [hL.out, ht.out] at ho
  rw [hL.out, ht.out]
  obtain ⟨wa, ewa⟩ : ∃ wa, Hid (w.alloc (.cells #[.int .i64 k, .int .i64 n, .slice ao L cap] 25) = wa) := ⟨_, (rfl : _ = _)⟩
  obtain ⟨wb, ewb⟩ : ∃ wb, Hid (wa.alloc (.cells #[.int .i64 0, .int .i64 0, .slice none 0 0] 25) = wb) := ⟨_, (rfl : _ = _)⟩
  have sa : wa.heap.size = w.heap.size + 1 := by rw [← ewa.out]; simp
  have Bb : Below w.heap.size w wb := by rw [← ewb.out, ← ewa.out]; exact ((Below.refl _ _).alloc (Nat.le_refl _) _).alloc (by simp) _
  have BbH : Hid (Below w.heap.size w wb) := Bb
  have Xb : Hid (Bo wb w.heap.size k n (.slice ao L cap)) := by show Bo _ _ _ _ _; rw [← ewb.out, ← ewa.out]; exact (Bo.new w k n (.slice ao L cap)).bel ((Below.refl _ _).alloc (Nat.le_refl _) _)
  have Yb : Hid (Bo wb (w.heap.size + 1) 0 0 (.slice none 0 0)) := by show Bo _ _ _ _ _; rw [← ewb.out, ← sa]; exact Bo.new _ _ _ _
  have hob : Hid (Od wb t (.agg #[.int .i64 k, .int .i64 n, .slice ao L cap])) := Od.below Bb _ _ ho
  clear ho Bb sa
  go_enter Tryd.func28, Tryd.ntmps28
  go_upto_region 1 with fail
  rw [ewa.out, ewb.out]
  obtain ⟨g, hg⟩ : ∃ g, Hid (w.heap.size = g) := ⟨_, (rfl : _ = _)⟩
  rw [hg.out] at Xb Yb ⊢
  have x0 := Xb.out.c0
  have x1 := Xb.out.c1
  have x2 := Xb.out.c2
  obtain ⟨m, hm⟩ : ∃ m : Nat, Hid (65536 - pt t = m) := ⟨_, (rfl : _ = _)⟩
  have hc : Hid (Calls Tryd.prog 38 #[.agg #[.int .i64 k, .int .i64 n, .slice ao L cap], .int .i64 65536] wb fun e w' => e = .returned (.int .i64 (m : Int)) ∧ Below wb.heap.size wb w') := by
    have := partsLeft_c t _ 65536 wb hob.out hpt (Nat.le_refl _)
    rw [hm.out] at this; exact this
  have hm0 : ¬ (m : Int) < 0 := by omega
  have hm0' : decide ((m : Int) < 0) = false := decide_eq_false hm0
  go_wp2_with fail
  refine hc.out.mono ?_
  rintro e w1 ⟨rfl, B1⟩
  have X1 : Hid (Bo w1 g k n (.slice ao L cap)) := Xb.out.bel B1
  have Y1 : Hid (Bo w1 (g + 1) 0 0 (.slice none 0 0)) := Yb.out.bel B1
  have ho1 : Hid (Od w1 t (.agg #[.int .i64 k, .int .i64 n, .slice ao L cap])) := Od.below B1 _ _ hob.out
  have hB1 : Hid (Below w.heap.size w w1) := btr BbH.out B1
  clear x0 x1 x2 B1 hc
  have x0 := X1.out.c0
  have x1 := X1.out.c1
  have x2 := X1.out.c2
  go_wp2_with fail
  refine (byParts_c t _ w1 ho1.out hpt).mono ?_
  rintro e w2 ⟨u, rfl, ou, B2⟩
  obtain ⟨ua, uc, rfl⟩ := ou.shape
  generalize t.ks.length = ul at *
  obtain ⟨tk, htk⟩ : ∃ tk, Hid (t.k = tk) := ⟨_, (rfl : _ = _)⟩
  obtain ⟨tn, htn⟩ : ∃ tn, Hid (t.n = tn) := ⟨_, (rfl : _ = _)⟩
  rw [htk.out, htn.out] at ou ⊢
  have Y2 : Hid (Bo w2 (g + 1) 0 0 (.slice none 0 0)) := Y1.out.bel B2
  have hfin : Hid (Os (nw w) (st3 w2 (g + 1) tk tn (.slice ua ul uc)) t (.agg #[.int .i64 tk, .int .i64 tn, .slice ua ul uc]) ∧ Below w.heap.size w (st3 w2 (g + 1) tk tn (.slice ua ul uc))) := by
    have hy := Y1.out.lt
    have hb2 := btr hB1.out B2
    constructor
    · refine Os.keep (fun b hb => ?_) (fun b hb _ => ?_) _ _ ou
      · have h1 : w1.heap.size ≤ b := hb
        show w.heap.size ≤ b
        rw [hg.out]; omega
      · have h1 : w1.heap.size ≤ b := hb
        rw [st3_blk _ _ _ _ _ (by omega)]
    · exact hb2.grown (st3_own _ _ _ _ _) hb2.size (fun k hk => by cases hk; rw [hg.out]; omega)
  have y0 := Y2.out.c0
  have y1 := Y2.out.c1
  have y2 := Y2.out.c2
  have yf := Y2.out.fz
  clear x0 x1 x2 ou B2
  go_wp2_with fail
  refine bodyPost_ret (v := .agg #[.int .i64 tk, .int .i64 tn, .slice ua ul uc]) (by simp [results, Tryd.results28, go_sem, y0, y1, y2]) rfl ?_
  exact ⟨_, rfl, hfin.out.1, hfin.out.2⟩
set_option maxHeartbeats 2000000 in
set_option maxRecDepth 100000 in
theorem blue_m (x : Tr) (v : Value) (m : Int) (w : World) (ho : Od w x v) (hpt : pt x ≤ 65536) (hf : fit 4 m) : Calls Tryd.prog 13 #[.int .i64 m, v] w fun e w' => ∃ u, e = .returned u ∧ Os (nw w) w' ⟨4, m, [x]⟩ u ∧ Below w.heap.size w w' := by
  obtain ⟨k, n, ks⟩ := x
  obtain ⟨ao, cap, rfl, _, _⟩ := ho.kds
  obtain ⟨L, hL⟩ : ∃ L, Hid (ks.length = L) := ⟨_, (rfl : _ = _)⟩
  obtain ⟨t, ht⟩ : ∃ t, Hid (Tr.mk k n ks = t) := ⟨_, (rfl : _ = _)⟩
  rw [ht.out] at hpt
  rw [hL.out, ht.out] at ho
  rw [hL.out, ht.out]
  obtain ⟨wa, ewa⟩ : ∃ wa, Hid (w.alloc (.cells #[.int .i64 k, .int .i64 n, .slice ao L cap] 25) = wa) := ⟨_, (rfl : _ = _)⟩
  obtain ⟨wb, ewb⟩ : ∃ wb, Hid (wa.alloc (.cells #[.int .i64 0, .int .i64 0, .slice none 0 0] 25) = wb) := ⟨_, (rfl : _ = _)⟩
  have sa : wa.heap.size = w.heap.size + 1 := by rw [← ewa.out]; simp
  have Bb : Below w.heap.size w wb := by rw [← ewb.out, ← ewa.out]; exact ((Below.refl _ _).alloc (Nat.le_refl _) _).alloc (by simp) _
  have BbH : Hid (Below w.heap.size w wb) := Bb
  have Xb : Hid (Bo wb w.heap.size k n (.slice ao L cap)) := by show Bo _ _ _ _ _; rw [← ewb.out, ← ewa.out]; exact (Bo.new w k n (.slice ao L cap)).bel ((Below.refl _ _).alloc (Nat.le_refl _) _)
  have Yb : Hid (Bo wb (w.heap.size + 1) 0 0 (.slice none 0 0)) := by show Bo _ _ _ _ _; rw [← ewb.out, ← sa]; exact Bo.new _ _ _ _
  have hob : Hid (Od wb t (.agg #[.int .i64 k, .int .i64 n, .slice ao L cap])) := Od.below Bb _ _ ho
  have hfH : Hid (fit 4 m) := hf
  clear ho Bb sa hf
  go_enter Tryd.func13, Tryd.ntmps13
  go_upto_region 1 with fail
  rw [ewa.out, ewb.out]
  obtain ⟨g, hg⟩ : ∃ g, Hid (w.heap.size = g) := ⟨_, (rfl : _ = _)⟩
  rw [hg.out] at Xb Yb ⊢
  have x0 := Xb.out.c0
  have x1 := Xb.out.c1
  have x2 := Xb.out.c2
  go_wp2_with fail
  refine (copied_c t _ wb hob.out hpt).mono ?_
  rintro e w2 ⟨u, rfl, ou, B2⟩
  obtain ⟨ua, uc, rfl⟩ := ou.shape
  generalize t.ks.length = ul at *
  have hy := Yb.out.lt
  have Y2 : Hid (Bo w2 (g + 1) 0 0 (.slice none 0 0)) := Yb.out.bel B2
  have hy2 := Y2.out.lt
  have hb2 : Hid (Below w.heap.size w w2) := btr BbH.out B2
  obtain ⟨w8, e8, hOs, hBe, hY⟩ : ∃ w8, Hid ((st3 w2 (g + 1) 4 m (.slice (some ⟨w2.heap.size, 0, none⟩) 1 1)).alloc (.cells #[.int .i64 t.k, .int .i64 t.n, .slice ua ul uc] 25) = w8) ∧ Hid (Os (nw w) w8 ⟨4, m, [t]⟩ (.agg #[.int .i64 4, .int .i64 m, .slice (some ⟨w2.heap.size, 0, none⟩) 1 1])) ∧ Hid (Below w.heap.size w w8) ∧ Hid (Bo w8 (g + 1) 4 m (.slice (some ⟨w2.heap.size, 0, none⟩) 1 1)) := by
    refine ⟨_, (rfl : _ = _), ?_, ?_, ?_⟩
    · have hnew := heap_alloc_new (st3 w2 (g + 1) 4 m (.slice (some ⟨w2.heap.size, 0, none⟩) 1 1)) (.cells #[.int .i64 t.k, .int .i64 t.n, .slice ua ul uc] 25)
      rw [st3_size] at hnew
      refine Os.one hfH.out (show w.heap.size ≤ _ by rw [hg.out]; omega) (Os.keep2 (fun b hb _ => ?_) (fun b hb hl => ?_) _ _ ou) hnew
      · have h1 : wb.heap.size ≤ b := hb
        show w.heap.size ≤ b
        rw [hg.out]; omega
      · have h1 : wb.heap.size ≤ b := hb
        rw [Below.heap_alloc _ _ _ (by rw [st3_size]; exact hl), st3_blk _ _ _ _ _ (by omega)]
    · have h1 : Below w.heap.size w (st3 w2 (g + 1) 4 m (.slice (some ⟨w2.heap.size, 0, none⟩) 1 1)) := hb2.out.grown (st3_own _ _ _ _ _) hb2.out.size (fun k hk => by cases hk; rw [hg.out]; omega)
      exact h1.alloc h1.size _
    · exact (st3_bo Y2.out 4 m _).bel ((Below.refl _ _).alloc (Nat.le_refl _) _)
  have e8' : Hid ((((w2.setCell ⟨g + 1, 0, none⟩ (.int .i64 4)).setCell ⟨g + 1, 1, none⟩ (.int .i64 m)).setCell ⟨g + 1, 2, none⟩ (.slice (some ⟨w2.heap.size, 0, none⟩) 1 1)).alloc (.cells #[.int .i64 t.k, .int .i64 t.n, .slice ua ul uc] 25) = w8) := e8.out
  obtain ⟨tk, htk⟩ : ∃ tk, Hid (t.k = tk) := ⟨_, (rfl : _ = _)⟩
  obtain ⟨tn, htn⟩ : ∃ tn, Hid (t.n = tn) := ⟨_, (rfl : _ = _)⟩
  rw [htk.out, htn.out] at e8' ⊢
  have y0 := Y2.out.c0
  have y1 := Y2.out.c1
  have y2 := Y2.out.c2
  have yf := Y2.out.fz
  clear x0 x1 x2 ou B2 e8
  go_wp2_with fail
  rw [e8'.out]
  have z0 := hY.out.c0
  have z1 := hY.out.c1
  have z2 := hY.out.c2
  refine bodyPost_ret (v := .agg #[.int .i64 4, .int .i64 m, .slice (some ⟨w2.heap.size, 0, none⟩) 1 1]) (by simp [results, Tryd.results13, go_sem, z0, z1, z2]) rfl ?_
  exact ⟨_, rfl, hOs.out, hBe.out⟩
end Go.Proofs.YtfoblbpbhldngaaDoor
