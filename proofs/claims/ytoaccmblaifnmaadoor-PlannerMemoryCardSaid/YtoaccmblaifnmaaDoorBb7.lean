/-
  The program's Times.
-/
import Derived.WalkKit
import Ieee.Arith
import Derived.WalkLawsBesides
import Derived.Test.YtoaccmblaifnmaaDoorProg
import Derived.Deep.DeepCutAuto
import Derived.Deep.QuietTactic
import Derived.Laws.Rows
import Derived.Lib.ItoaNum
import Derived.Laws.IdiomStrings
import Derived.Deep.RegionHeld3
import Derived.Lib.SmallJoins
import Derived.Lib.HexFns
import Derived.Test.YtoaccmblaifnmaaDoorRows
import Derived.LaidEql
import Derived.LaidLaws
import Derived.LaidHandle
import Derived.Stop.Joined
import Derived.Deep.RegionWith
import Derived.Recover
import Derived.RegionDies
import Derived.Outline
import Derived.Laws.CopyOwn
import Derived.Lib.AppendIntMem
import Derived.Laws.AppendOwn
import Derived.OwnWalk
import Derived.BigCall
import Derived.BigQuiet
import Derived.WalkSmall
import Derived.Deep.RegionHeldLaw
import Derived.Test.YtoaccmblaifnmaaDoorBb6
namespace Go.Proofs.YtoaccmblaifnmaaDoor
open Flo Go.RowKit Tr
set_option maxHeartbeats 2000000 in
set_option maxRecDepth 100000 in
theorem times_c (x y : Tr) (v u : Value) (w : World) (ox : Od w x v) (oy : Od w y u) (hpx : pt x ≤ 65536) (hpy : pt y ≤ 65536) : Calls Tryd.prog 11 #[v, u] w fun e w' => ∃ u, e = .returned u ∧ Os (nw w) w' ⟨3, 0, [x, y]⟩ u ∧ Below w.heap.size w w' := by
  obtain ⟨a1, l1, p1, rfl⟩ : ∃ a l p, v = .agg #[.int .i64 x.k, .int .i64 x.n, .slice a l p] := by obtain ⟨k, n, ks⟩ := x; obtain ⟨ao, cap, rfl, _, _⟩ := ox.kds; exact ⟨_, _, _, rfl⟩
  obtain ⟨a2, l2, p2, rfl⟩ : ∃ a l p, u = .agg #[.int .i64 y.k, .int .i64 y.n, .slice a l p] := by obtain ⟨k, n, ks⟩ := y; obtain ⟨ao, cap, rfl, _, _⟩ := oy.kds; exact ⟨_, _, _, rfl⟩
  obtain ⟨xk, hxk⟩ : ∃ xk, Hid (x.k = xk) := ⟨_, (rfl : _ = _)⟩
  obtain ⟨xn, hxn⟩ : ∃ xn, Hid (x.n = xn) := ⟨_, (rfl : _ = _)⟩
  obtain ⟨yk, hyk⟩ : ∃ yk, Hid (y.k = yk) := ⟨_, (rfl : _ = _)⟩
  obtain ⟨yn, hyn⟩ : ∃ yn, Hid (y.n = yn) := ⟨_, (rfl : _ = _)⟩
  rw [hxk.out, hxn.out] at ox ⊢
  rw [hyk.out, hyn.out] at oy ⊢
  obtain ⟨wa, ewa⟩ : ∃ wa, Hid (w.alloc (.cells #[.int .i64 xk, .int .i64 xn, .slice a1 l1 p1] 24) = wa) := ⟨_, (rfl : _ = _)⟩
  obtain ⟨wb, ewb⟩ : ∃ wb, Hid (wa.alloc (.cells #[.int .i64 yk, .int .i64 yn, .slice a2 l2 p2] 24) = wb) := ⟨_, (rfl : _ = _)⟩
  obtain ⟨wc, ewc⟩ : ∃ wc, Hid (wb.alloc (.cells #[.int .i64 0, .int .i64 0, .slice none 0 0] 24) = wc) := ⟨_, (rfl : _ = _)⟩
  have sa : wa.heap.size = w.heap.size + 1 := by rw [← ewa.out]; simp
  have sb : wb.heap.size = w.heap.size + 2 := by rw [← ewb.out]; simp [sa]
  have Ba : Below w.heap.size w wa := by rw [← ewa.out]; exact (Below.refl _ _).alloc (Nat.le_refl _) _
  have Bab : Below wa.heap.size wa wb := by rw [← ewb.out]; exact (Below.refl _ _).alloc (Nat.le_refl _) _
  have Bbc : Below wb.heap.size wb wc := by rw [← ewc.out]; exact (Below.refl _ _).alloc (Nat.le_refl _) _
  have Bc : Hid (Below w.heap.size w wc) := btr (btr Ba Bab) Bbc
  have Xc : Hid (Bo wc w.heap.size xk xn (.slice a1 l1 p1)) := by
    have h : Bo wa w.heap.size xk xn (.slice a1 l1 p1) := by rw [← ewa.out]; exact Bo.new _ _ _ _
    exact (h.bel Bab).bel Bbc
  have Yc : Hid (Bo wc (w.heap.size + 1) yk yn (.slice a2 l2 p2)) := by
    have h : Bo wb wa.heap.size yk yn (.slice a2 l2 p2) := by rw [← ewb.out]; exact Bo.new _ _ _ _
    rw [sa] at h; exact h.bel Bbc
  have Zc : Hid (Bo wc (w.heap.size + 2) 0 0 (.slice none 0 0)) := by
    have h : Bo wc wb.heap.size 0 0 (.slice none 0 0) := by rw [← ewc.out]; exact Bo.new _ _ _ _
    rw [sb] at h; exact h
  have oxc : Hid (Od wc x (.agg #[.int .i64 xk, .int .i64 xn, .slice a1 l1 p1])) := Od.below Bc.out _ _ ox
  have oyc : Hid (Od wc y (.agg #[.int .i64 yk, .int .i64 yn, .slice a2 l2 p2])) := Od.below Bc.out _ _ oy
  clear ox oy Ba Bab Bbc sa sb
  go_enter Tryd.func11, Tryd.ntmps11
  go_upto_region 1 with fail
  rw [ewa.out, ewb.out, ewc.out]
  obtain ⟨g, hg⟩ : ∃ g, Hid (w.heap.size = g) := ⟨_, (rfl : _ = _)⟩
  rw [hg.out] at Xc Yc Zc ⊢
  have Ze : Hid (g + 1 + 1 = g + 2) := (rfl : _ = _)
  rw [Ze.out]
  have hS : Hid (∀ Z, Below wc.heap.size wc Z → (Z.cell? ⟨g, 0, none⟩ = some (.int .i64 xk) ∧ Z.cell? ⟨g, 1, none⟩ = some (.int .i64 xn) ∧ Z.cell? ⟨g, 2, none⟩ = some (.slice a1 l1 p1) ∧ Z.cell? ⟨g + 1, 0, none⟩ = some (.int .i64 yk) ∧ Z.cell? ⟨g + 1, 1, none⟩ = some (.int .i64 yn) ∧ Z.cell? ⟨g + 1, 2, none⟩ = some (.slice a2 l2 p2) ∧ Z.cell? ⟨g + 2, 0, none⟩ = some (.int .i64 0) ∧ Z.cell? ⟨g + 2, 1, none⟩ = some (.int .i64 0) ∧ Z.cell? ⟨g + 2, 2, none⟩ = some (.slice none 0 0) ∧ Z.frozen? ⟨g + 2, 0, none⟩ = false ∧ Z.frozen? ⟨g + 2, 1, none⟩ = false ∧ Z.frozen? ⟨g + 2, 2, none⟩ = false)) := fun Z hZ =>
    ⟨(Xc.out.bel hZ).c0, (Xc.out.bel hZ).c1, (Xc.out.bel hZ).c2, (Yc.out.bel hZ).c0, (Yc.out.bel hZ).c1, (Yc.out.bel hZ).c2, (Zc.out.bel hZ).c0, (Zc.out.bel hZ).c1, (Zc.out.bel hZ).c2, (Zc.out.bel hZ).fz 0, (Zc.out.bel hZ).fz 1, (Zc.out.bel hZ).fz 2⟩
  obtain ⟨s0, s1, s2, s3, s4, s5, s6, s7, s8, s9, s10, s11⟩ := hS.out wc (Below.refl _ _)
  have bD : Hid (Below wc.heap.size wc wc.drew) := (Below.refl _ _).drew
  have hcx : Hid (Calls Tryd.prog 41 #[.agg #[.int .i64 xk, .int .i64 xn, .slice a1 l1 p1]] wc.drew fun e w' => ∃ u, e = .returned u ∧ Os (nw wc) w' x u ∧ Below wc.heap.size wc.drew w') := copied_c x _ wc.drew (Od.below bD.out _ _ oxc.out) hpx
  go_region_with (first
      | (go_at_call_of 41 (Value.int IntKind.i64 xk)
         refine hcx.out.mono ?_
         rintro e w1 ⟨u, rfl, ou, B1⟩
         obtain ⟨ua, uc, rfl⟩ := ou.shape
         rw [hxk.out, hxn.out] at ou ⊢
         generalize x.ks.length = ul at *
         have hb1 : Hid (Below wc.heap.size wc w1) := bD.out.trans B1
         have ou1 : Hid (Os (nw wc) w1 x (.agg #[.int .i64 xk, .int .i64 xn, .slice ua ul uc])) := ou
         obtain ⟨s0', s1', s2', s3', s4', s5', s6', s7', s8', s9', s10', s11'⟩ := hS.out w1 hb1.out
         clear ou B1)
      | (go_at_call_of 41 (Value.int IntKind.i64 yk)
         refine (copied_c y _ w1 (Od.below hb1.out _ _ oyc.out) hpy).mono ?_
         rintro e w2 ⟨u2, rfl, ou', B2⟩
         obtain ⟨va, vc, rfl⟩ := ou'.shape
         rw [hyk.out, hyn.out] at ou' ⊢
         generalize y.ks.length = vl at *
         have hb2 : Hid (Below wc.heap.size wc w2) := btr hb1.out B2
         have hb12 : Hid (Below w1.heap.size w1 w2) := B2
         have ou2 : Hid (Os (nw w1) w2 y (.agg #[.int .i64 yk, .int .i64 yn, .slice va vl vc])) := ou'
         obtain ⟨s0'', s1'', s2'', s3'', s4'', s5'', s6'', s7'', s8'', s9'', s10'', s11''⟩ := hS.out w2 hb2.out
         have hlt2 : g + 2 < w2.heap.size := (Zc.out.bel hb2.out).lt
         have zf2 := (Zc.out.bel hb2.out).fz
         clear ou' B2))
  all_goals go_wp2_with fail
  all_goals
    have hwc := Zc.out.lt
    have h12 := hb12.out.size
    have hc1 := hb1.out.size
    obtain ⟨w8, e8, hOs, hBe, hZ⟩ : ∃ w8, Hid ((st3 w2 (g + 2) 3 0 (.slice (some ⟨w2.heap.size, 0, none⟩) 2 2)).alloc (.cells #[.int .i64 x.k, .int .i64 x.n, .slice ua ul uc, .int .i64 y.k, .int .i64 y.n, .slice va vl vc] 24) = w8) ∧ Hid (Os (nw w) w8 ⟨3, 0, [x, y]⟩ (.agg #[.int .i64 3, .int .i64 0, .slice (some ⟨w2.heap.size, 0, none⟩) 2 2])) ∧ Hid (Below w.heap.size w w8) ∧ Hid (Bo w8 (g + 2) 3 0 (.slice (some ⟨w2.heap.size, 0, none⟩) 2 2)) := by
      have hk : ∀ b, b < w2.heap.size → b ≠ g + 2 → ((st3 w2 (g + 2) 3 0 (.slice (some ⟨w2.heap.size, 0, none⟩) 2 2)).alloc (.cells #[.int .i64 x.k, .int .i64 x.n, .slice ua ul uc, .int .i64 y.k, .int .i64 y.n, .slice va vl vc] 24)).heap[b]? = w2.heap[b]? := fun b hb hn => by
        rw [Below.heap_alloc _ _ _ (by rw [st3_size]; exact hb), st3_blk _ _ _ _ _ hn]
      refine ⟨_, (rfl : _ = _), ?_, ?_, ?_⟩
      · have hnew := heap_alloc_new (st3 w2 (g + 2) 3 0 (.slice (some ⟨w2.heap.size, 0, none⟩) 2 2)) (.cells #[.int .i64 x.k, .int .i64 x.n, .slice ua ul uc, .int .i64 y.k, .int .i64 y.n, .slice va vl vc] 24)
        rw [st3_size] at hnew
        refine Os.two ⟨by decide, by decide⟩ (show w.heap.size ≤ _ by rw [hg.out]; omega) (Os.keep2 (fun b hb _ => ?_) (fun b hb hl => ?_) _ _ (show Os (nw wc) w2 x (.agg #[.int .i64 x.k, .int .i64 x.n, .slice ua ul uc]) by rw [hxk.out, hxn.out]; exact ou1.out.bel hb12.out)) (Os.keep2 (fun b hb _ => ?_) (fun b hb hl => ?_) _ _ (show Os (nw w1) w2 y (.agg #[.int .i64 y.k, .int .i64 y.n, .slice va vl vc]) by rw [hyk.out, hyn.out]; exact ou2.out)) hnew
        · have h1 : wc.heap.size ≤ b := hb
          show w.heap.size ≤ b
          rw [hg.out]; omega
        · have h1 : wc.heap.size ≤ b := hb
          exact hk b hl (by omega)
        · have h1 : w1.heap.size ≤ b := hb
          show w.heap.size ≤ b
          rw [hg.out]; omega
        · have h1 : w1.heap.size ≤ b := hb
          exact hk b hl (by omega)
      · have hbw : Below w.heap.size w w2 := btr Bc.out hb2.out
        have h1 : Below w.heap.size w (st3 w2 (g + 2) 3 0 (.slice (some ⟨w2.heap.size, 0, none⟩) 2 2)) := hbw.grown (st3_own _ _ _ _ _) hbw.size (fun k hk => by cases hk; rw [hg.out]; omega)
        exact h1.alloc h1.size _
      · exact (st3_bo (Zc.out.bel hb2.out) 3 0 _).bel ((Below.refl _ _).alloc (Nat.le_refl _) _)
    rw [hxk.out, hxn.out, hyk.out, hyn.out] at e8
    have e8' : Hid ((((w2.setCell ⟨g + 2, 0, none⟩ (.int .i64 3)).setCell ⟨g + 2, 1, none⟩ (.int .i64 0)).setCell ⟨g + 2, 2, none⟩ (.slice (some ⟨w2.heap.size, 0, none⟩) 2 2)).alloc (.cells #[.int .i64 xk, .int .i64 xn, .slice ua ul uc, .int .i64 yk, .int .i64 yn, .slice va vl vc] 24) = w8) := e8.out
    rw [e8'.out]
    have z0 := hZ.out.c0
    have z1 := hZ.out.c1
    have z2 := hZ.out.c2
    refine bodyPost_ret (v := .agg #[.int .i64 3, .int .i64 0, .slice (some ⟨w2.heap.size, 0, none⟩) 2 2]) (by simp [results, Tryd.results11, go_sem, z0, z1, z2]) rfl ?_
    exact ⟨_, rfl, hOs.out, hBe.out⟩
end Go.Proofs.YtoaccmblaifnmaaDoor
