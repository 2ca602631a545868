/-
  FlyExact: the whole walk.
-/
import Derived.Test.YtonfdfmhnamimaaFe0
import Derived.Test.YtonfdfmhnamimaaFl4
namespace Go.Proofs.Ytonfdfmhnamimaa
open Flo Go.RowKit Dw
/-- a whole number of at most 2^50 without its sign -/
def wh (n : Int) : Int := n.tmod 1125899906842625
theorem wh_sml (n : Int) : (wh n).natAbs ≤ 1125899906842624 := by
  have h1 := Int.lt_tmod_of_pos n (b := 1125899906842625) (by decide)
  have h2 := Int.tmod_lt_of_pos n (b := 1125899906842625) (by decide)
  unfold wh
  omega
theorem wh_c (n : Int) (w : World) : Calls Try.prog 5 #[.int .i64 n, .int .i64 1125899906842624] w fun e w' => e = .returned (.int .i64 (wh n)) ∧ w = w' :=
  whole_c n 1125899906842624 1125899906842625 rfl (by decide) (by decide) w
/-- the state of the first loop -/
structure Sx (w wx : World) (gA gr gi gx : Nat) (z : Nat → Int) (i k : Nat) : Prop where
  rA : wx.heap[gA]? = some (.cells (rE z) 22 (0, 0))
  rr : wx.heap[gr]? = some (.cells (rI fun j => if j < i then wh (z (2 * j)) else 0) 24 (0, 0))
  ri : wx.heap[gi]? = some (.cells (rI fun j => if j < i then wh (z (2 * j + 1)) else 0) 24 (0, 0))
  rx : wx.heap[gx]? = some (.cells (rC fun j => if j < k then (floatOfInt .f64 (wh (z (2 * j))), floatOfInt .f64 (wh (z (2 * j + 1)))) else (0, 0)) 26 (0, 0))
  bl : Below w.heap.size w wx
theorem rI_congr {f g : Nat → Int} (h : ∀ j, j < 4 → f j = g j) : rI f = rI g := by unfold rI; rw [h 0 (by decide), h 1 (by decide), h 2 (by decide), h 3 (by decide)]
theorem rC_congr {f g : Nat → Nat × Nat} (h : ∀ j, j < 4 → f j = g j) : rC f = rC g := by unfold rC; rw [h 0 (by decide), h 1 (by decide), h 2 (by decide), h 3 (by decide)]
theorem Sx.drewN {w wx : World} {gA gr gi gx : Nat} {z : Nat → Int} {i k : Nat} (S : Sx w wx gA gr gi gx z i k) (D : Nat) : Sx w (wx.drewN D) gA gr gi gx z i k := ⟨S.rA, S.rr, S.ri, S.rx, below_drewN S.bl D⟩
theorem Sx.put {w wx : World} {gA gr gi gx : Nat} {z : Nat → Int} {i : Nat} (S : Sx w wx gA gr gi gx z i i) (hi : i < 4) (hne : gA ≠ gr ∧ gA ≠ gi ∧ gA ≠ gx ∧ gr ≠ gi ∧ gr ≠ gx ∧ gi ≠ gx) (hw : w.heap.size ≤ gr ∧ w.heap.size ≤ gi ∧ w.heap.size ≤ gx) :
    Sx w ((wx.setCell ⟨gr, i, none⟩ (.int .i64 (wh (z (2 * i))))).setCell ⟨gi, i, none⟩ (.int .i64 (wh (z (2 * i + 1))))) gA gr gi gx z (i + 1) i := by
  obtain ⟨n1, n2, n3, n4, n5, n6⟩ := hne
  refine ⟨?_, ?_, ?_, ?_, ?_⟩
  · rw [heap_setCell_other _ _ _ _ n2, heap_setCell_other _ _ _ _ n1]; exact S.rA
  · rw [heap_setCell_other _ _ _ _ n4, heap_setCell_same _ _ _ _ _ _ S.rr, rI_set _ hi]
    congr 2
    exact rI_congr fun j _ => by
      by_cases e : j = i
      · subst e; rw [if_pos rfl, if_pos (Nat.lt_succ_self _)]
      · rw [if_neg e]; by_cases h : j < i
        · rw [if_pos h, if_pos (by omega)]
        · rw [if_neg h, if_neg (by omega)]
  · rw [heap_setCell_same _ _ _ _ _ _ ((heap_setCell_other _ _ _ _ (Ne.symm n4)).trans S.ri), rI_set _ hi]
    congr 2
    exact rI_congr fun j _ => by
      by_cases e : j = i
      · subst e; rw [if_pos rfl, if_pos (Nat.lt_succ_self _)]
      · rw [if_neg e]; by_cases h : j < i
        · rw [if_pos h, if_pos (by omega)]
        · rw [if_neg h, if_neg (by omega)]
  · rw [heap_setCell_other _ _ _ _ (Ne.symm n6), heap_setCell_other _ _ _ _ (Ne.symm n5)]; exact S.rx
  · exact (S.bl.setCell (p := ⟨gr, i, none⟩) hw.1 _).setCell (p := ⟨gi, i, none⟩) hw.2.1 _
theorem Sx.putx {w wx : World} {gA gr gi gx : Nat} {z : Nat → Int} {i : Nat} (S : Sx w wx gA gr gi gx z (i + 1) i) (hi : i < 4) (hne : gA ≠ gr ∧ gA ≠ gi ∧ gA ≠ gx ∧ gr ≠ gi ∧ gr ≠ gx ∧ gi ≠ gx) (hw : w.heap.size ≤ gr ∧ w.heap.size ≤ gi ∧ w.heap.size ≤ gx) :
    Sx w (wx.setCell ⟨gx, i, none⟩ (.complex .f64 (floatOfInt .f64 (wh (z (2 * i)))) (floatOfInt .f64 (wh (z (2 * i + 1)))))) gA gr gi gx z (i + 1) (i + 1) := by
  obtain ⟨n1, n2, n3, n4, n5, n6⟩ := hne
  refine ⟨?_, ?_, ?_, ?_, ?_⟩
  · rw [heap_setCell_other _ _ _ _ n3]; exact S.rA
  · rw [heap_setCell_other _ _ _ _ n5]; exact S.rr
  · rw [heap_setCell_other _ _ _ _ n6]; exact S.ri
  · rw [heap_setCell_same _ _ _ _ _ _ S.rx, rC_set _ hi]
    congr 2
    exact rC_congr fun j _ => by
      by_cases e : j = i
      · subst e; rw [if_pos rfl, if_pos (Nat.lt_succ_self _)]
      · rw [if_neg e]; by_cases h : j < i
        · rw [if_pos h, if_pos (by omega)]
        · rw [if_neg h, if_neg (by omega)]
  · exact S.bl.setCell (p := ⟨gx, i, none⟩) hw.2.2 _
set_option maxRecDepth 100000 in
set_option maxHeartbeats 4000000 in
theorem flyExact_w (z : Nat → Int) (w : World) :
    Calls Try.prog 3 #[.agg (rE z)] w fun e w' => e = .returned (.bool true) ∧ Below w.heap.size w w' := by
  have h3 := store_cx
  unfold rE
  go_enter Try.func3, Try.ntmps3
  go_wp2_with fail
  obtain ⟨wa, hwa⟩ : ∃ wa, Hid (w.alloc (.cells (rE z) 22) = wa) := ⟨_, (rfl : _ = _)⟩
  have ra : Hid (wa.heap[w.heap.size]? = some (.cells (rE z) 22 (0, 0))) := by show _ = _; rw [← hwa.out]; exact heap_alloc_new _ _
  have Ba : Hid (Below w.heap.size w wa) := by show Below _ _ _; rw [← hwa.out]; exact (Below.refl _ _).alloc (Nat.le_refl _) _
  unfold rE at hwa
  rw [hwa.out]
  clear hwa
  refine (fixed11_c wa).mono ?_
  rintro e w1 ⟨rfl, B1⟩
  have rb : Hid (w1.heap[w.heap.size]? = some (.cells (rE z) 22 (0, 0))) := (B1.block _ (heap_lt ra.out)).trans ra.out
  have Bb : Hid (Below w.heap.size w w1) := blw_tr Ba.out B1
  clear B1 Ba ra
  obtain ⟨gA, hgA⟩ : ∃ g, Hid (w.heap.size = g) := ⟨_, (rfl : _ = _)⟩
  rw [hgA.out] at rb ⊢
  have hgl : Hid (gA < w1.heap.size) := heap_lt rb.out
  go_wp2_with fail
  obtain ⟨wb, hwb⟩ : ∃ wb, Hid (((w1.alloc (.cells #[.int .i64 0, .int .i64 0, .int .i64 0, .int .i64 0] 24)).alloc (.cells #[.int .i64 0, .int .i64 0, .int .i64 0, .int .i64 0] 24)).alloc (.cells #[.complex .f64 0 0, .complex .f64 0 0, .complex .f64 0 0, .complex .f64 0 0] 26) = wb) := ⟨_, (rfl : _ = _)⟩
  obtain ⟨gr, gi, gx, hgr⟩ : ∃ gr gi gx, Hid (w1.heap.size = gr ∧ w1.heap.size + 1 = gi ∧ w1.heap.size + 1 + 1 = gx) := ⟨_, _, _, rfl, rfl, rfl⟩
  have S0 : Hid (Sx w wb gA gr gi gx z 0 0) := by
    obtain ⟨e1, e2, e3⟩ := hgr.out
    refine ⟨?_, ?_, ?_, ?_, ?_⟩
    · rw [← hwb.out, Below.heap_alloc _ _ _ (by simp; have := hgl.out; omega), Below.heap_alloc _ _ _ (by simp; have := hgl.out; omega), Below.heap_alloc _ _ _ hgl.out]; exact rb.out
    · rw [← e1, ← hwb.out, Below.heap_alloc _ _ _ (by simp; omega)]; exact heap_alloc2_old _ _ _
    · rw [← e2, ← hwb.out, Below.heap_alloc _ _ _ (by simp)]; exact heap_alloc2_new _ _ _
    · rw [← e3, ← hwb.out]
      have := heap_alloc_new ((w1.alloc (.cells #[.int .i64 0, .int .i64 0, .int .i64 0, .int .i64 0] 24)).alloc (.cells #[.int .i64 0, .int .i64 0, .int .i64 0, .int .i64 0] 24)) (.cells #[.complex .f64 0 0, .complex .f64 0 0, .complex .f64 0 0, .complex .f64 0 0] 26)
      simp only [World.alloc, Array.size_push] at this ⊢
      exact this
    · rw [← hwb.out]; exact ((Bb.out.alloc Bb.out.size _).alloc (by simp; have := Bb.out.size; omega) _).alloc (by simp; have := Bb.out.size; omega) _
  have hne : Hid (gA ≠ gr ∧ gA ≠ gi ∧ gA ≠ gx ∧ gr ≠ gi ∧ gr ≠ gx ∧ gi ≠ gx) := by
    obtain ⟨e1, e2, e3⟩ := hgr.out
    have := hgl.out
    exact ⟨by omega, by omega, by omega, by omega, by omega, by omega⟩
  have hwl : Hid (w.heap.size ≤ gr ∧ w.heap.size ≤ gi ∧ w.heap.size ≤ gx) := by
    obtain ⟨e1, e2, e3⟩ := hgr.out
    have := Bb.out.size
    exact ⟨by omega, by omega, by omega⟩
  rw [hwb.out]
  have E := hgr.out
  obtain ⟨E1, E2, E3⟩ := E
  rw [E3, E2, E1]
  clear E1 E2 E3 hgr hwb rb Bb hgl hgA
  go_loopw [18] (fun si wx => ∃ (i : Nat), i ≤ 4 ∧ si = .int .i64 (i : Int) ∧ Hid (Sx w wx gA gr gi gx z i i)) (fun si _ => 4 - (intOf si).toNat)
  case atStart => exact ⟨0, Nat.zero_le _, rfl, S0⟩
  case round =>
    clear S0
    obtain ⟨i, hi, rfl, S⟩ := hrel
    by_cases hlt : i < 4
    · have hlt' : (i : Int) < 4 := by omega
      obtain ⟨D, hD, hD1⟩ : ∃ D : Nat, Hid (D = 2 * i) ∧ 2 * (i : Int) = (D : Int) := ⟨2 * i, (rfl : _ = _), by omega⟩
      obtain ⟨D', hD', hD1'⟩ : ∃ D' : Nat, Hid (D' = D + 1) ∧ (D : Int) + 1 = (D' : Int) := ⟨D + 1, (rfl : _ = _), by omega⟩
      have hD8 : (D : Int) < 8 := by have := hD.out; omega
      have hD8' : (D' : Int) < 8 := by have := hD.out; have := hD'.out; omega
      have hDn : D < 8 := by omega
      have hDn' : D' < 8 := by omega
      have hW0 : IntKind.i64.wrap (D : Int) = (D : Int) := by rw [IntKind.wrap_i64]; omega
      have hW1 : IntKind.i64.wrap (D' : Int) = (D' : Int) := by rw [IntKind.wrap_i64]; omega
      have c1 : wr.cell? ⟨gA, D, none⟩ = some (.int .i64 (z D)) := (cell_of_row _ _ _ _ _ _ S.out.rA).trans (rE_at z (by omega))
      have c2 : wr.cell? ⟨gA, D', none⟩ = some (.int .i64 (z D')) := (cell_of_row _ _ _ _ _ _ S.out.rA).trans (rE_at z (by omega))
      have k1 : wr.cell? ⟨gr, i, none⟩ = some (.int .i64 _) := (cell_of_row _ _ _ _ _ _ S.out.rr).trans (rI_at _ hlt)
      have k2 : wr.cell? ⟨gi, i, none⟩ = some (.int .i64 _) := (cell_of_row _ _ _ _ _ _ S.out.ri).trans (rI_at _ hlt)
      rw [if_neg (Nat.lt_irrefl _)] at k1 k2
      have f1 : wr.frozen? ⟨gr, i, none⟩ = false := frozen_of_row _ _ _ _ _ S.out.rr
      have f2 : wr.frozen? ⟨gi, i, none⟩ = false := frozen_of_row _ _ _ _ _ S.out.ri
      have n1 : ¬ gA = gr := hne.out.1
      have n2 : ¬ gA = gi := hne.out.2.1
      have n4 : ¬ gr = gi := hne.out.2.2.2.1
      have n1' : ¬ gr = gA := fun e => n1 e.symm
      have n2' : ¬ gi = gA := fun e => n2 e.symm
      have n4' : ¬ gi = gr := fun e => n4 e.symm
      have SP : Hid (∀ X, Sx w (((wr.drewN X).setCell ⟨gr, i, none⟩ (.int .i64 (wh (z D)))).setCell ⟨gi, i, none⟩ (.int .i64 (wh (z D')))) gA gr gi gx z (i + 1) i) := fun X => by
        have := (S.out.drewN X).put hlt hne.out hwl.out
        rw [← hD.out, ← hD'.out] at this; exact this
      go_upto_region 8 with fail
      go_cut [] (fun wx => Hid (Sx w wx gA gr gi gx z (i + 1) i))
      case first =>
        generalize z D = zD at *
        generalize z D' = zD' at *
        go_region_with (first | (go_at_call_of 5 (Value.int IntKind.i64 zD); refine (wh_c _ _).mono ?_; rintro _ _ ⟨rfl, rfl⟩) | (go_at_call_of 5 (Value.int IntKind.i64 zD'); refine (wh_c _ _).mono ?_; rintro _ _ ⟨rfl, rfl⟩))
        all_goals (go_wp2_with fail; go_meet; exact SP.out 1)
      case rest =>
        rename World => wd
        clear c1 c2 k1 k2 f1 f2 SP S
        rename Hid (Sx w wd gA gr gi gx z (i + 1) i) => S2
        have c1 : wd.cell? ⟨gr, i, none⟩ = some (.int .i64 _) := (cell_of_row _ _ _ _ _ _ S2.out.rr).trans (rI_at _ hlt)
        have c2 : wd.cell? ⟨gi, i, none⟩ = some (.int .i64 _) := (cell_of_row _ _ _ _ _ _ S2.out.ri).trans (rI_at _ hlt)
        have c3 : wd.cell? ⟨gx, i, none⟩ = some (.complex .f64 _ _) := (cell_of_row _ _ _ _ _ _ S2.out.rx).trans (rC_at _ hlt)
        rw [if_pos (Nat.lt_succ_self _)] at c1 c2
        rw [if_neg (Nat.lt_irrefl _)] at c3
        have f3 : wd.frozen? ⟨gx, i, none⟩ = false := frozen_of_row _ _ _ _ _ S2.out.rx
        have SP : Hid (∀ X, Sx w ((wd.drewN X).setCell ⟨gx, i, none⟩ (.complex .f64 (floatOfInt .f64 (wh (z (2 * i)))) (floatOfInt .f64 (wh (z (2 * i + 1)))))) gA gr gi gx z (i + 1) (i + 1)) := fun X => (S2.out.drewN X).putx hlt hne.out hwl.out
        generalize wh (z (2 * i)) = zr at *
        generalize wh (z (2 * i + 1)) = zi at *
        clear S2
        go_upto_region 9 with fail
        go_region
        all_goals
          go_wp2_with fail
          go_roundw
          case rel => exact ⟨i + 1, by omega, by go_num, SP.out 1⟩
          case measure => simp [intOf]; omega
    · have hlt' : decide ((i : Int) < 4) = false := decide_eq_false (by omega)
      have ei : i = 4 := by omega
      subst ei
      rename World => wx
      obtain ⟨F, hF⟩ : ∃ F : Nat → Int × Int, Hid (F = fun j => (wh (z (2 * j)), wh (z (2 * j + 1)))) := ⟨_, (rfl : _ = _)⟩
      have hFs : Hid (∀ j, Sml (F j) 1125899906842624) := fun j => by rw [hF.out]; exact ⟨wh_sml _, wh_sml _⟩
      obtain ⟨X, hX⟩ : ∃ X : Nat → Nat × Nat, Hid (X = fun j => (floatOfInt .f64 (F j).1, floatOfInt .f64 (F j).2)) := ⟨_, (rfl : _ = _)⟩
      have hXW : Hid (∀ j, WP (X j) (F j)) := fun j => by rw [hX.out]; exact ⟨flW (Nat.le_trans (hFs.out j).1 (by decide)), flW (Nat.le_trans (hFs.out j).2 (by decide))⟩
      have r1 : Hid (wx.heap[gr]? = some (.cells (rI fun j => (F j).1) 24 (0, 0))) := by
        show _ = _
        rw [S.out.rr]
        congr 2
        exact rI_congr fun j hj => by rw [if_pos hj, hF.out]
      have r2 : Hid (wx.heap[gi]? = some (.cells (rI fun j => (F j).2) 24 (0, 0))) := by
        show _ = _
        rw [S.out.ri]
        congr 2
        exact rI_congr fun j hj => by rw [if_pos hj, hF.out]
      have r3 : Hid (wx.heap[gx]? = some (.cells (rC X) 26 (0, 0))) := by
        show _ = _
        rw [S.out.rx]
        congr 2
        exact rC_congr fun j hj => by rw [if_pos hj, hX.out, hF.out]
      have hB : Hid (Below w.heap.size w wx) := S.out.bl
      clear S hF hX
      have c0 : wx.cell? ⟨gx, 0, none⟩ = some (.complex .f64 (X 0).1 (X 0).2) := (cell_of_row _ _ _ _ _ _ r3.out).trans (rC_at _ (by decide))
      have c1 : wx.cell? ⟨gx, 1, none⟩ = some (.complex .f64 (X 1).1 (X 1).2) := (cell_of_row _ _ _ _ _ _ r3.out).trans (rC_at _ (by decide))
      go_wp2_with fail
      refine (flyTwo_c _ _ _ _ wx).mono ?_
      rintro e w2 ⟨⟨y1, y2⟩, ⟨y3, y4⟩, rfl, l0, l1, B2⟩
      obtain ⟨T, hT⟩ : ∃ T : Nat → Nat × Nat, Hid (T = fun j => if j = 0 then (y1, y2) else (y3, y4)) := ⟨_, (rfl : _ = _)⟩
      have hT0 : Hid (WP (y1, y2) ((F 0).1 + (F 1).1, (F 0).2 + (F 1).2)) := WP_eq l0.2.2 (adc_W (hXW.out 0) (hXW.out 1) (nbA (by decide) (hFs.out 0).1 (hFs.out 1).1) (nbA (by decide) (hFs.out 0).2 (hFs.out 1).2))
      have hT1 : Hid (WP (y3, y4) ((F 0).1 - (F 1).1, (F 0).2 - (F 1).2)) := WP_eq l1.2.2 (sbc_W (hXW.out 0) (hXW.out 1) (nbS (by decide) (hFs.out 0).1 (hFs.out 1).1) (nbS (by decide) (hFs.out 0).2 (hFs.out 1).2))
      have B2H : Hid (Below wx.heap.size wx w2) := B2
      clear l0 l1 B2 c0 c1 hT T
      unfold cxv
      go_upto_region 12 with fail
      obtain ⟨wt, hwt⟩ : ∃ wt, Hid (w2.alloc (.cells #[.complex .f64 y1 y2, .complex .f64 y3 y4] 29) = wt) := ⟨_, (rfl : _ = _)⟩
      have B3 : Hid (Below wx.heap.size wx wt) := by show Below _ _ _; rw [← hwt.out]; exact B2H.out.alloc B2H.out.size _
      have rt : Hid (wt.heap[w2.heap.size]? = some (.cells #[.complex .f64 y1 y2, .complex .f64 y3 y4] 29 (0, 0))) := by show _ = _; rw [← hwt.out]; exact heap_alloc_new _ _
      obtain ⟨gt, hgt⟩ : ∃ g, Hid (w2.heap.size = g) := ⟨_, (rfl : _ = _)⟩
      rw [hwt.out]
      rw [hgt.out] at rt ⊢
      have q1 : Hid (wt.heap[gr]? = some (.cells (rI fun j => (F j).1) 24 (0, 0))) := (B3.out.block _ (heap_lt r1.out)).trans r1.out
      have q2 : Hid (wt.heap[gi]? = some (.cells (rI fun j => (F j).2) 24 (0, 0))) := (B3.out.block _ (heap_lt r2.out)).trans r2.out
      have q3 : Hid (wt.heap[gx]? = some (.cells (rC X) 26 (0, 0))) := (B3.out.block _ (heap_lt r3.out)).trans r3.out
      have hBt : Hid (Below w.heap.size w wt) := blw_tr hB.out B3.out
      clear hwt hgt B3 B2H r1 r2 r3 hB
      have c0 : wt.cell? ⟨gx, 0, none⟩ = some (.complex .f64 (X 0).1 (X 0).2) := (cell_of_row _ _ _ _ _ _ q3.out).trans (rC_at _ (by decide))
      have c1 : wt.cell? ⟨gx, 1, none⟩ = some (.complex .f64 (X 1).1 (X 1).2) := (cell_of_row _ _ _ _ _ _ q3.out).trans (rC_at _ (by decide))
      have c2 : wt.cell? ⟨gx, 2, none⟩ = some (.complex .f64 (X 2).1 (X 2).2) := (cell_of_row _ _ _ _ _ _ q3.out).trans (rC_at _ (by decide))
      have c3 : wt.cell? ⟨gx, 3, none⟩ = some (.complex .f64 (X 3).1 (X 3).2) := (cell_of_row _ _ _ _ _ _ q3.out).trans (rC_at _ (by decide))
      go_wp2_with fail
      refine (flyFour_c _ _ _ _ _ _ _ _ wt).mono ?_
      rintro e w4 ⟨⟨a1, a2⟩, ⟨b1, b2⟩, ⟨d1, d2⟩, ⟨e1, e2⟩, rfl, l0, l1, l2, l3, B4⟩
      obtain ⟨Y, hY⟩ : ∃ Y : Nat → Nat × Nat, Hid (Y = fun j => if j = 0 then (a1, a2) else if j = 1 then (b1, b2) else if j = 2 then (d1, d2) else (e1, e2)) := ⟨_, (rfl : _ = _)⟩
      have hYW : Hid (∀ k, k < 4 → WP (Y k) (ts 4 k F)) := by
        show ∀ k, k < 4 → _
        intro k hk
        refine WP_eq ?_ (f4_W (hXW.out 0) (hXW.out 1) (hXW.out 2) (hXW.out 3) hFs.out hk)
        have e : k = 0 ∨ k = 1 ∨ k = 2 ∨ k = 3 := by omega
        rw [hY.out]
        rcases e with rfl | rfl | rfl | rfl
        · exact l0.2.2
        · exact l1.2.2
        · exact l2.2.2
        · exact l3.2.2
      have hYr : Hid (#[.complex .f64 a1 a2, .complex .f64 b1 b2, .complex .f64 d1 d2, .complex .f64 e1 e2] = rC Y) := by show _ = _; rw [hY.out]; rfl
      have B4H : Hid (Below wt.heap.size wt w4) := B4
      clear l0 l1 l2 l3 B4 c0 c1 c2 c3 hY q3 hXW
      unfold cxv
      go_upto_region 13 with fail
      obtain ⟨wf, hwf⟩ : ∃ wf, Hid (w4.alloc (.cells #[.complex .f64 a1 a2, .complex .f64 b1 b2, .complex .f64 d1 d2, .complex .f64 e1 e2] 26) = wf) := ⟨_, (rfl : _ = _)⟩
      have B5 : Hid (Below wt.heap.size wt wf) := by show Below _ _ _; rw [← hwf.out]; exact B4H.out.alloc B4H.out.size _
      have rf : Hid (wf.heap[w4.heap.size]? = some (.cells (rC Y) 26 (0, 0))) := by show _ = _; rw [← hwf.out, ← hYr.out]; exact heap_alloc_new _ _
      obtain ⟨gf, hgf⟩ : ∃ g, Hid (w4.heap.size = g) := ⟨_, (rfl : _ = _)⟩
      rw [hwf.out]
      rw [hgf.out] at rf ⊢
      have p1 : Hid (wf.heap[gr]? = some (.cells (rI fun j => (F j).1) 24 (0, 0))) := (B5.out.block _ (heap_lt q1.out)).trans q1.out
      have p2 : Hid (wf.heap[gi]? = some (.cells (rI fun j => (F j).2) 24 (0, 0))) := (B5.out.block _ (heap_lt q2.out)).trans q2.out
      have pt : Hid (wf.heap[gt]? = some (.cells #[.complex .f64 y1 y2, .complex .f64 y3 y4] 29 (0, 0))) := (B5.out.block _ (heap_lt rt.out)).trans rt.out
      have hBf : Hid (Below w.heap.size w wf) := blw_tr hBt.out B5.out
      clear hwf hgf B5 B4H q1 q2 rt hBt hYr
      clear hi hlt hlt'
      go_wp2_with fail
      go_loopw [9] (fun sk wy => ∃ (k d : Nat), k ≤ 4 ∧ sk = .int .i64 (k : Int) ∧ Hid (wy = wf.drewN d)) (fun sk _ => 4 - (intOf sk).toNat)
      case atStart => exact ⟨0, 0, Nat.zero_le _, rfl, (rfl : wf = wf.drewN 0)⟩
      case round =>
        obtain ⟨k, d, hk4, rfl, hw⟩ := hrel
        by_cases hlt : k < 4
        · have hlt' : (k : Int) < 4 := by omega
          have hzH : Hid (∀ j, Sml (tsm 4 k F j) (j * 1125899906842624)) := fun j => tsm_sml hFs.out j
          go_wp2_with fail
          rename World => wk
          go_loopw [10, 11, 12] (fun sa sb sj wy => ∃ (j d2 : Nat), j ≤ 4 ∧ sa = .int .i64 (tsm 4 k F j).1 ∧ sb = .int .i64 (tsm 4 k F j).2 ∧ sj = .int .i64 (j : Int) ∧ Hid (wy = wk.drewN d2)) (fun _ _ sj _ => 4 - (intOf sj).toNat)
          case atStart => exact ⟨0, 0, Nat.zero_le _, rfl, rfl, rfl, (rfl : wk = wk.drewN 0)⟩
          case round =>
            obtain ⟨j, d2, hj4, rfl, rfl, rfl, hw2⟩ := hrel
            by_cases hltj : j < 4
            · have hltj' : (j : Int) < 4 := by omega
              have c1 : wr.cell? ⟨gr, j, none⟩ = some (.int .i64 (F j).1) := by rw [hw2.out, hw.out]; exact (cell_of_row _ _ _ _ _ _ p1.out).trans (rI_at _ hltj)
              have c2 : wr.cell? ⟨gi, j, none⟩ = some (.int .i64 (F j).2) := by rw [hw2.out, hw.out]; exact (cell_of_row _ _ _ _ _ _ p2.out).trans (rI_at _ hltj)
              obtain ⟨M, hM, hM1⟩ : ∃ M : Nat, Hid (M = j * k) ∧ (j : Int) * (k : Int) = (M : Int) := ⟨j * k, (rfl : _ = _), by rw [Int.natCast_mul]⟩
              have hM9 : M ≤ 9 := by rw [hM.out]; exact Nat.mul_le_mul (by omega : j ≤ 3) (by omega : k ≤ 3)
              obtain ⟨E, hE, hE1⟩ : ∃ E : Nat, Hid (E = j * k % 4) ∧ (M : Int).tmod 4 = (E : Int) := ⟨M % 4, by show _ = _; rw [hM.out], by rw [Int.tmod_eq_emod_of_nonneg (by omega)]; omega⟩
              have hE4 : E < 4 := by rw [hE.out]; exact Nat.mod_lt _ (by decide)
              have hWM : IntKind.i64.wrap (M : Int) = (M : Int) := by rw [IntKind.wrap_i64]; omega
              obtain ⟨A, Bv, hAB⟩ : ∃ A Bv : Int, Hid (tsm 4 k F j = (A, Bv)) := ⟨_, _, (rfl : _ = _)⟩
              have hS1 : Hid (A.natAbs ≤ 4503599627370496 ∧ Bv.natAbs ≤ 4503599627370496) := by
                have h := hzH.out j
                rw [hAB.out] at h
                have hj : j * 1125899906842624 ≤ 4 * 1125899906842624 := Nat.mul_le_mul_right _ hj4
                exact ⟨Nat.le_trans h.1 hj, Nat.le_trans h.2 hj⟩
              rw [hAB.out]
              generalize hp : F j = P at c1 c2
              have hpH : Hid (F j = P) := hp
              clear hp
              have hPs : Hid (Sml P 1125899906842624) := by show Sml P _; rw [← hpH.out]; exact hFs.out j
              go_upto_region 20 with fail
              go_quiet (fail)
              have hwq : Hid (wr.drewN nq = wk.drewN (d2 + nq)) := by show _ = _; rw [hw2.out, World.drewN_drewN]
              clear c1 c2 hw2
              generalize wr.drewN nq = wq at *
              go_wp2_with fail
              go_loopw [13, 14, 15] (fun sc sd sq wy => ∃ (q : Nat), q ≤ E ∧ sc = .int .i64 (trm q P).1 ∧ sd = .int .i64 (trm q P).2 ∧ sq = .int .i64 (q : Int) ∧ Hid (wy = wq)) (fun _ _ sq _ => E - (intOf sq).toNat)
              case atStart => exact ⟨0, Nat.zero_le _, by unfold trm; rw [if_pos rfl], by unfold trm; rw [if_pos rfl], rfl, (rfl : wq = wq)⟩
              case round =>
                obtain ⟨q, hq, rfl, rfl, rfl, hwy⟩ := hrel
                have hTs : Hid (Sml (trm q P) 1125899906842624) := trm_sml hPs.out
                by_cases hltq : q < E
                · have hltq' : (q : Int) < (E : Int) := by omega
                  have hst : Hid (trm (q + 1) P = ((trm q P).2, -(trm q P).1)) := trm_step (by omega) P
                  generalize trm q P = Z at *
                  have hwn : IntKind.i64.wrap (-Z.1) = -Z.1 := by have := hTs.out.1; rw [IntKind.wrap_i64]; omega
                  go_wp2_with fail
                  go_roundw
                  case rel => exact ⟨q + 1, by omega, by rw [hst.out], by rw [hst.out], by go_num, hwy⟩
                  case measure => simp [intOf]; omega
                · have hltq' : decide ((q : Int) < (E : Int)) = false := decide_eq_false (by omega)
                  have eq : q = E := by omega
                  subst eq
                  have hst : Hid (tsm 4 k F (j + 1) = (A + (trm q P).1, Bv + (trm q P).2)) := by show _ = _; rw [tsm_step, hAB.out, ← hE.out, hpH.out]
                  generalize trm q P = Z at *
                  have hw1 : IntKind.i64.wrap (A + Z.1) = A + Z.1 := by have := hTs.out.1; have := hS1.out.1; rw [IntKind.wrap_i64]; omega
                  have hw3 : IntKind.i64.wrap (Bv + Z.2) = Bv + Z.2 := by have := hTs.out.2; have := hS1.out.2; rw [IntKind.wrap_i64]; omega
                  have hwz : Hid (wr = wk.drewN (d2 + nq)) := by show _ = _; rw [hwy.out]; exact hwq.out
                  clear hwq hwy
                  go_wp2_with fail
                  go_roundw
                  case rel => exact ⟨j + 1, d2 + nq, by omega, by rw [hst.out], by rw [hst.out], by go_num, hwz⟩
                  case measure => simp [intOf]; omega
            · have hltj' : decide ((j : Int) < 4) = false := decide_eq_false (by omega)
              have ej : j = 4 := by omega
              subst ej
              have hYk := hYW.out k hlt
              unfold ts at hYk
              have c1 : wr.cell? ⟨gf, k, none⟩ = some (.complex .f64 (Y k).1 (Y k).2) := by rw [hw2.out, hw.out]; exact (cell_of_row _ _ _ _ _ _ rf.out).trans (rC_at _ hlt)
              have hs4 := hzH.out 4
              have o1 : FloatKind.f64.format.order (Y k).1 (floatOfInt .f64 (tsm 4 k F 4).1) = some .eq := W_ord hYk.1 (flW (Nat.le_trans hs4.1 (by decide)))
              have o2 : FloatKind.f64.format.order (Y k).2 (floatOfInt .f64 (tsm 4 k F 4).2) = some .eq := W_ord hYk.2 (flW (Nat.le_trans hs4.2 (by decide)))
              have hwz : Hid (wr = wf.drewN (d + d2)) := by show _ = _; rw [hw2.out, hw.out, World.drewN_drewN]
              clear hYk hs4 hw2 hw
              generalize (tsm 4 k F 4).1 = t1 at *
              generalize (tsm 4 k F 4).2 = t2 at *
              generalize (Y k).1 = v1 at *
              generalize (Y k).2 = v2 at *
              go_wp2_with fail
              exact ⟨⟨k + 1, d + d2, by omega, by go_num, hwz⟩, by simp [intOf]; omega⟩
        · have hlt' : decide ((k : Int) < 4) = false := decide_eq_false (by omega)
          have cr0 : wr.cell? ⟨gr, 0, none⟩ = some (.int .i64 (F 0).1) := by rw [hw.out]; exact (cell_of_row _ _ _ _ _ _ p1.out).trans (rI_at _ (by decide))
          have cr1 : wr.cell? ⟨gr, 1, none⟩ = some (.int .i64 (F 1).1) := by rw [hw.out]; exact (cell_of_row _ _ _ _ _ _ p1.out).trans (rI_at _ (by decide))
          have ci0 : wr.cell? ⟨gi, 0, none⟩ = some (.int .i64 (F 0).2) := by rw [hw.out]; exact (cell_of_row _ _ _ _ _ _ p2.out).trans (rI_at _ (by decide))
          have ci1 : wr.cell? ⟨gi, 1, none⟩ = some (.int .i64 (F 1).2) := by rw [hw.out]; exact (cell_of_row _ _ _ _ _ _ p2.out).trans (rI_at _ (by decide))
          have ct0 : wr.cell? ⟨gt, 0, none⟩ = some (.complex .f64 y1 y2) := by rw [hw.out]; exact cell_of_row _ _ _ _ _ _ pt.out
          have ct1 : wr.cell? ⟨gt, 1, none⟩ = some (.complex .f64 y3 y4) := by rw [hw.out]; exact cell_of_row _ _ _ _ _ _ pt.out
          have hBr : Hid (Below w.heap.size w wr) := by show Below _ _ _; rw [hw.out]; exact below_drewN hBf.out d
          obtain ⟨A0, A0'⟩ := hFs.out 0
          obtain ⟨A1, A1'⟩ := hFs.out 1
          have m1 : ((F 0).1 + (F 1).1).natAbs ≤ 9007199254740992 := nbA (by decide) A0 A1
          have m2 : ((F 0).2 + (F 1).2).natAbs ≤ 9007199254740992 := nbA (by decide) A0' A1'
          have m3 : ((F 0).1 - (F 1).1).natAbs ≤ 9007199254740992 := nbS (by decide) A0 A1
          have m4 : ((F 0).2 - (F 1).2).natAbs ≤ 9007199254740992 := nbS (by decide) A0' A1'
          have o1 : FloatKind.f64.format.order y1 (floatOfInt .f64 ((F 0).1 + (F 1).1)) = some .eq := W_ord hT0.out.1 (flW m1)
          have o2 : FloatKind.f64.format.order y2 (floatOfInt .f64 ((F 0).2 + (F 1).2)) = some .eq := W_ord hT0.out.2 (flW m2)
          have o3 : FloatKind.f64.format.order y3 (floatOfInt .f64 ((F 0).1 - (F 1).1)) = some .eq := W_ord hT1.out.1 (flW m3)
          have o4 : FloatKind.f64.format.order y4 (floatOfInt .f64 ((F 0).2 - (F 1).2)) = some .eq := W_ord hT1.out.2 (flW m4)
          have w1 : IntKind.i64.wrap ((F 0).1 + (F 1).1) = (F 0).1 + (F 1).1 := by rw [IntKind.wrap_i64]; omega
          have w2 : IntKind.i64.wrap ((F 0).2 + (F 1).2) = (F 0).2 + (F 1).2 := by rw [IntKind.wrap_i64]; omega
          have w3 : IntKind.i64.wrap ((F 0).1 - (F 1).1) = (F 0).1 - (F 1).1 := by rw [IntKind.wrap_i64]; omega
          have w4 : IntKind.i64.wrap ((F 0).2 - (F 1).2) = (F 0).2 - (F 1).2 := by rw [IntKind.wrap_i64]; omega
          clear A0 A0' A1 A1' m1 m2 m3 m4 hT0 hT1 hw
          generalize (F 0).1 = r0 at *
          generalize (F 0).2 = i0 at *
          generalize (F 1).1 = r1 at *
          generalize (F 1).2 = i1 at *
          go_wp2_with fail
          go_ret
          exact ⟨rfl, hBr.out⟩
end Go.Proofs.Ytonfdfmhnamimaa
