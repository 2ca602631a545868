/-
  Package fly: the butterflies of 3 and 5, where no NaN is on the way.
-/
import Derived.Test.YtonfdfmhnamimaaDoorFl1
import Derived.Deep.RegionHeld3
namespace Go.Proofs.YtonfdfmhnamimaaDoor
open Flo Go.RowKit
/-- z is x and y taken together, and no NaN -/
def Cs (o : BinOp) (x y z : Nat × Nat) : Prop := z.1 = co o x.1 y.1 ∧ z.2 = co o x.2 y.2 ∧ nanB z.1 = false ∧ nanB z.2 = false
/-- z is x times the float f, and no NaN -/
def Ct (f : Nat) (x z : Nat × Nat) : Prop := z.1 = co .mul x.1 f ∧ z.2 = co .mul x.2 f ∧ nanB z.1 = false ∧ nanB z.2 = false
theorem bits_of_co {o : BinOp} {x y : Nat} (h : nanB (co o x y) = false) : floatBits o .f64 x y = some (co o x y) := by
  unfold co at *
  cases e : floatBits o .f64 x y with
  | some r => rfl
  | none => rw [e] at h; exact absurd h (by decide)
theorem fr_of_co {o : BinOp} {x y : Nat} (h : nanB (co o x y) = false) (w : World) : fr o x y w = co o x y := by
  have e := bits_of_co h
  unfold fr
  rw [e]
theorem fk_of_co {o : BinOp} {x y : Nat} (h : nanB (co o x y) = false) : fk o x y = 0 := by
  have e := bits_of_co h
  unfold fk
  rw [e]
theorem Cs.lt {o : BinOp} {x y z : Nat × Nat} (h : Cs o x y z) : z.1 < 18446744073709551616 ∧ z.2 < 18446744073709551616 := ⟨by rw [h.1]; exact co_lt .., by rw [h.2.1]; exact co_lt ..⟩
theorem Ct.lt {f : Nat} {x z : Nat × Nat} (h : Ct f x z) : z.1 < 18446744073709551616 ∧ z.2 < 18446744073709551616 := ⟨by rw [h.1]; exact co_lt .., by rw [h.2.1]; exact co_lt ..⟩
theorem Cs.add {a b c d x y : Nat} (h : Cs .add (a, b) (c, d) (x, y)) (t : TypeId) (w : World) : (binOp .add t (.complex .f64 a b) (.complex .f64 c d)).run Tryd.prog w = .ok (.complex .f64 x y) w := by
  obtain ⟨h1, h2, h3, h4⟩ := h
  simp only at h1 h2 h3 h4
  subst h1; subst h2
  rw [run_cadd, fk_of_co h3, fk_of_co h4, fr_of_co h3, fr_of_co h4]; rfl
theorem Cs.sub {a b c d x y : Nat} (h : Cs .sub (a, b) (c, d) (x, y)) (t : TypeId) (w : World) : (binOp .sub t (.complex .f64 a b) (.complex .f64 c d)).run Tryd.prog w = .ok (.complex .f64 x y) w := by
  obtain ⟨h1, h2, h3, h4⟩ := h
  simp only at h1 h2 h3 h4
  subst h1; subst h2
  rw [run_csub, fk_of_co h3, fk_of_co h4, fr_of_co h3, fr_of_co h4]; rfl
set_option maxHeartbeats 800000 in
theorem cTimes_f {a b f x y : Nat} (h : Ct f (a, b) (x, y)) (w : World) :
    Calls Tryd.prog 20 #[.complex .f64 a b, .float .f64 f] w fun e w' => e = .returned (.complex .f64 x y) ∧ w = w' := by
  obtain ⟨h1, h2, h3, h4⟩ := h
  simp only at h1 h2 h3 h4
  subst h1; subst h2
  have k1 : ∀ t w, (binOp .mul t (.float .f64 a) (.float .f64 f)).run Tryd.prog w = .ok (.float .f64 (co .mul a f)) w := fun t w => by rw [run_fmul, fk_of_co h3, fr_of_co h3]; rfl
  have k2 : ∀ t w, (binOp .mul t (.float .f64 b) (.float .f64 f)).run Tryd.prog w = .ok (.float .f64 (co .mul b f)) w := fun t w => by rw [run_fmul, fk_of_co h4, fr_of_co h4]; rfl
  clear h3 h4
  go_enter Tryd.func20, Tryd.ntmps20
  go_wp2
  go_ret
  exact ⟨rfl, rfl⟩
set_option maxHeartbeats 1600000 in
theorem flyThree_f (a1 a2 b1 b2 c1 c2 t1 t2 d1 d2 u1 u2 s1 s2 m1 m2 x1 x2 y1 y2 z1 z2 : Nat) (Ht : Cs .add (b1, b2) (c1, c2) (t1, t2)) (Hd : Cs .sub (b1, b2) (c1, c2) (d1, d2)) (Hu : Ct 4605975682916830378 (d1, d2) (u1, u2)) (Hs : Ct 4602678819172646912 (t1, t2) (s1, s2)) (Hm : Cs .sub (a1, a2) (s1, s2) (m1, m2)) (G0 : Cs .add (a1, a2) (t1, t2) (x1, x2)) (G1 : Cs .add (m1, m2) (u2, Ari.ng u1) (y1, y2)) (G2 : Cs .add (m1, m2) (Ari.ng u2, u1) (z1, z2)) (w : World) :
    Calls Tryd.prog 12 #[.agg #[.complex .f64 a1 a2, .complex .f64 b1 b2, .complex .f64 c1 c2]] w fun e w' => e = .returned (.agg #[.complex .f64 x1 x2, .complex .f64 y1 y2, .complex .f64 z1 z2]) ∧ Below w.heap.size w w' := by
  have h3 := store_cx
  have oHt := Ht.add
  have oHd := Hd.sub
  have cHu : Hid (Ct 4605975682916830378 (d1, d2) (u1, u2)) := Hu
  have lHu := Hu.lt
  have cHs : Hid (Ct 4602678819172646912 (t1, t2) (s1, s2)) := Hs
  have oHm := Hm.sub
  have oG0 := G0.add
  have oG1 := G1.add
  have oG2 := G2.add
  clear Ht Hd Hu Hs Hm G0 G1 G2
  go_enter Tryd.func12, Tryd.ntmps12
  go_upto_region 1 with fail
  obtain ⟨W, hW⟩ : ∃ W, Hid ((w.alloc (.cells #[.complex .f64 a1 a2, .complex .f64 b1 b2, .complex .f64 c1 c2] 41)).alloc (.cells #[.complex .f64 0 0, .complex .f64 0 0, .complex .f64 0 0] 41) = W) := ⟨_, (rfl : _ = _)⟩
  have r1 : Hid (W.heap[w.heap.size]? = some (.cells #[.complex .f64 a1 a2, .complex .f64 b1 b2, .complex .f64 c1 c2] 41 (0, 0))) := by show _ = _; rw [← hW.out]; exact heap_alloc2_old _ _ _
  have r2 : Hid (W.heap[w.heap.size + 1]? = some (.cells #[.complex .f64 0 0, .complex .f64 0 0, .complex .f64 0 0] 41 (0, 0))) := by show _ = _; rw [← hW.out]; exact heap_alloc2_new _ _ _
  have rB : Hid (Below w.heap.size w W) := by show Below _ _ _; rw [← hW.out]; exact ((Below.refl _ _).alloc (Nat.le_refl _) _).alloc (by simp) _
  rw [hW.out]
  clear hW
  have kk0 : W.cell? ⟨w.heap.size, 0, none⟩ = some (.complex .f64 a1 a2) := cell_of_row _ _ _ _ _ _ r1.out
  have kk1 : W.cell? ⟨w.heap.size, 1, none⟩ = some (.complex .f64 b1 b2) := cell_of_row _ _ _ _ _ _ r1.out
  have kk2 : W.cell? ⟨w.heap.size, 2, none⟩ = some (.complex .f64 c1 c2) := cell_of_row _ _ _ _ _ _ r1.out
  have zz0 : W.cell? ⟨w.heap.size + 1, 0, none⟩ = some (.complex .f64 0 0) := cell_of_row _ _ _ _ _ _ r2.out
  have ff0 : W.frozen? ⟨w.heap.size + 1, 0, none⟩ = false := frozen_of_row _ _ _ _ _ r2.out
  have zz1 : W.cell? ⟨w.heap.size + 1, 1, none⟩ = some (.complex .f64 0 0) := cell_of_row _ _ _ _ _ _ r2.out
  have ff1 : W.frozen? ⟨w.heap.size + 1, 1, none⟩ = false := frozen_of_row _ _ _ _ _ r2.out
  have zz2 : W.cell? ⟨w.heap.size + 1, 2, none⟩ = some (.complex .f64 0 0) := cell_of_row _ _ _ _ _ _ r2.out
  have ff2 : W.frozen? ⟨w.heap.size + 1, 2, none⟩ = false := frozen_of_row _ _ _ _ _ r2.out
  go_upto_region 3 with (first | (go_at_call_of 20 (Value.complex FloatKind.f64 d1 d2); refine (cTimes_f cHu.out _).mono ?_; rintro _ _ ⟨rfl, rfl⟩) | (go_at_call_of 20 (Value.complex FloatKind.f64 t1 t2); refine (cTimes_f cHs.out _).mono ?_; rintro _ _ ⟨rfl, rfl⟩))
  go_quiet (first | (go_at_call_of 20 (Value.complex FloatKind.f64 d1 d2); exact (cTimes_f cHu.out _).mono (by rintro _ _ ⟨rfl, rfl⟩; exact ⟨rfl, _, rfl⟩)) | (go_at_call_of 20 (Value.complex FloatKind.f64 t1 t2); exact (cTimes_f cHs.out _).mono (by rintro _ _ ⟨rfl, rfl⟩; exact ⟨rfl, _, rfl⟩)))
  replace rB : Hid (Below w.heap.size w (W.drewN nq)) := below_drewN rB.out nq
  replace kk0 : (W.drewN nq).cell? ⟨w.heap.size, 0, none⟩ = some (.complex .f64 a1 a2) := kk0
  replace zz0 : (W.drewN nq).cell? ⟨w.heap.size + 1, 0, none⟩ = some (.complex .f64 0 0) := zz0
  replace ff0 : (W.drewN nq).frozen? ⟨w.heap.size + 1, 0, none⟩ = false := ff0
  replace kk1 : (W.drewN nq).cell? ⟨w.heap.size, 1, none⟩ = some (.complex .f64 b1 b2) := kk1
  replace zz1 : (W.drewN nq).cell? ⟨w.heap.size + 1, 1, none⟩ = some (.complex .f64 0 0) := zz1
  replace ff1 : (W.drewN nq).frozen? ⟨w.heap.size + 1, 1, none⟩ = false := ff1
  replace kk2 : (W.drewN nq).cell? ⟨w.heap.size, 2, none⟩ = some (.complex .f64 c1 c2) := kk2
  replace zz2 : (W.drewN nq).cell? ⟨w.heap.size + 1, 2, none⟩ = some (.complex .f64 0 0) := zz2
  replace ff2 : (W.drewN nq).frozen? ⟨w.heap.size + 1, 2, none⟩ = false := ff2
  clear r1 r2
  generalize W.drewN nq = W2 at *
  clear W nq
  rename World => W
  go_upto_region 4 with fail
  clear oHt oHd cHu cHs oHm kk1 kk2
  go_region_held3 (fun X => X.cell? ⟨w.heap.size, 0, none⟩ = some (.complex .f64 a1 a2)) (go_keep) ((first | (go_at_call_of 18 (Value.complex FloatKind.f64 u1 u2); refine (cMinusI_c _ _ _ lHu.1).mono ?_; rintro _ _ ⟨rfl, rfl⟩) | (go_at_call_of 19 (Value.complex FloatKind.f64 u1 u2); refine (cTimesI_c _ _ _ lHu.2).mono ?_; rintro _ _ ⟨rfl, rfl⟩)))
  all_goals
    go_wp2_with fail
    refine bodyPost_ret (v := .agg #[.complex .f64 x1 x2, .complex .f64 y1 y2, .complex .f64 z1 z2]) (by simp [results, Tryd.results12, go_sem, zz0, zz1, zz2]) rfl ⟨rfl, ?_⟩
    exact (((below_drewN rB.out 1).setCell (Nat.le_succ _) _).setCell (Nat.le_succ _) _).setCell (Nat.le_succ _) _
set_option maxHeartbeats 4000000 in
theorem flyFive_f (pa pb qa qb ra rb ia ib ja jb a1 a2 b1 b2 c1 c2 d1 d2 e1 e2 t1 t2 u1 u2 v1 v2 k1 k2 p1 p2 q1 q2 r1 r2 m1 m2 n1 n2 i1 i2 j1 j2 g1 g2 h1 h2 f1 f2 x1 x2 y1 y2 z1 z2 o1 o2 l1 l2 : Nat) (Ht : Cs .add (b1, b2) (e1, e2) (t1, t2)) (Hu : Cs .sub (b1, b2) (e1, e2) (u1, u2)) (Hv : Cs .add (c1, c2) (d1, d2) (v1, v2)) (Hk : Cs .sub (c1, c2) (d1, d2) (k1, k2)) (A1 : Ct 4599238375200778576 (t1, t2) (p1, p2)) (A2 : Ct 13828834233668859048 (v1, v2) (q1, q2)) (A3 : Cs .add (p1, p2) (q1, q2) (r1, r2)) (Hm : Cs .add (a1, a2) (r1, r2) (m1, m2)) (B1 : Ct 13828834233668859048 (t1, t2) (pa, pb)) (B2 : Ct 4599238375200778576 (v1, v2) (qa, qb)) (B3 : Cs .add (pa, pb) (qa, qb) (ra, rb)) (Hn : Cs .add (a1, a2) (ra, rb) (n1, n2)) (D1 : Ct 4606741575090066687 (u1, u2) (i1, i2)) (D2 : Ct 4603469518431672926 (k1, k2) (j1, j2)) (Hg : Cs .add (i1, i2) (j1, j2) (g1, g2)) (E1 : Ct 4603469518431672926 (u1, u2) (ia, ib)) (E2 : Ct 4606741575090066687 (k1, k2) (ja, jb)) (Hh : Cs .sub (ia, ib) (ja, jb) (h1, h2)) (F0 : Cs .add (t1, t2) (v1, v2) (f1, f2)) (G0 : Cs .add (a1, a2) (f1, f2) (x1, x2)) (G1 : Cs .add (m1, m2) (g2, Ari.ng g1) (y1, y2)) (G2 : Cs .add (n1, n2) (h2, Ari.ng h1) (z1, z2)) (G3 : Cs .add (n1, n2) (Ari.ng h2, h1) (o1, o2)) (G4 : Cs .add (m1, m2) (Ari.ng g2, g1) (l1, l2)) (w : World) :
    Calls Tryd.prog 17 #[.agg #[.complex .f64 a1 a2, .complex .f64 b1 b2, .complex .f64 c1 c2, .complex .f64 d1 d2, .complex .f64 e1 e2]] w fun e w' => e = .returned (.agg #[.complex .f64 x1 x2, .complex .f64 y1 y2, .complex .f64 z1 z2, .complex .f64 o1 o2, .complex .f64 l1 l2]) ∧ Below w.heap.size w w' := by
  have h3 := store_cx
  have oHt := Ht.add
  have oHu := Hu.sub
  have lHu := Hu.lt
  have oHv := Hv.add
  have oHk := Hk.sub
  have cA1 : Hid (Ct 4599238375200778576 (t1, t2) (p1, p2)) := A1
  have cA2 : Hid (Ct 13828834233668859048 (v1, v2) (q1, q2)) := A2
  have oA3 := A3.add
  have oHm := Hm.add
  have cB1 : Hid (Ct 13828834233668859048 (t1, t2) (pa, pb)) := B1
  have cB2 : Hid (Ct 4599238375200778576 (v1, v2) (qa, qb)) := B2
  have oB3 := B3.add
  have oHn := Hn.add
  have cD1 : Hid (Ct 4606741575090066687 (u1, u2) (i1, i2)) := D1
  have cD2 : Hid (Ct 4603469518431672926 (k1, k2) (j1, j2)) := D2
  have oHg := Hg.add
  have lHg := Hg.lt
  have cE1 : Hid (Ct 4603469518431672926 (u1, u2) (ia, ib)) := E1
  have cE2 : Hid (Ct 4606741575090066687 (k1, k2) (ja, jb)) := E2
  have oHh := Hh.sub
  have lHh := Hh.lt
  have oF0 := F0.add
  have oG0 := G0.add
  have oG1 := G1.add
  have oG2 := G2.add
  have oG3 := G3.add
  have oG4 := G4.add
  clear Ht Hu Hv Hk A1 A2 A3 Hm B1 B2 B3 Hn D1 D2 Hg E1 E2 Hh F0 G0 G1 G2 G3 G4
  go_enter Tryd.func17, Tryd.ntmps17
  go_upto_region 1 with fail
  obtain ⟨W, hW⟩ : ∃ W, Hid ((w.alloc (.cells #[.complex .f64 a1 a2, .complex .f64 b1 b2, .complex .f64 c1 c2, .complex .f64 d1 d2, .complex .f64 e1 e2] 49)).alloc (.cells #[.complex .f64 0 0, .complex .f64 0 0, .complex .f64 0 0, .complex .f64 0 0, .complex .f64 0 0] 49) = W) := ⟨_, (rfl : _ = _)⟩
  have r1 : Hid (W.heap[w.heap.size]? = some (.cells #[.complex .f64 a1 a2, .complex .f64 b1 b2, .complex .f64 c1 c2, .complex .f64 d1 d2, .complex .f64 e1 e2] 49 (0, 0))) := by show _ = _; rw [← hW.out]; exact heap_alloc2_old _ _ _
  have r2 : Hid (W.heap[w.heap.size + 1]? = some (.cells #[.complex .f64 0 0, .complex .f64 0 0, .complex .f64 0 0, .complex .f64 0 0, .complex .f64 0 0] 49 (0, 0))) := by show _ = _; rw [← hW.out]; exact heap_alloc2_new _ _ _
  have rB : Hid (Below w.heap.size w W) := by show Below _ _ _; rw [← hW.out]; exact ((Below.refl _ _).alloc (Nat.le_refl _) _).alloc (by simp) _
  rw [hW.out]
  clear hW
  have kk0 : W.cell? ⟨w.heap.size, 0, none⟩ = some (.complex .f64 a1 a2) := cell_of_row _ _ _ _ _ _ r1.out
  have kk1 : W.cell? ⟨w.heap.size, 1, none⟩ = some (.complex .f64 b1 b2) := cell_of_row _ _ _ _ _ _ r1.out
  have kk2 : W.cell? ⟨w.heap.size, 2, none⟩ = some (.complex .f64 c1 c2) := cell_of_row _ _ _ _ _ _ r1.out
  have kk3 : W.cell? ⟨w.heap.size, 3, none⟩ = some (.complex .f64 d1 d2) := cell_of_row _ _ _ _ _ _ r1.out
  have kk4 : W.cell? ⟨w.heap.size, 4, none⟩ = some (.complex .f64 e1 e2) := cell_of_row _ _ _ _ _ _ r1.out
  have zz0 : W.cell? ⟨w.heap.size + 1, 0, none⟩ = some (.complex .f64 0 0) := cell_of_row _ _ _ _ _ _ r2.out
  have ff0 : W.frozen? ⟨w.heap.size + 1, 0, none⟩ = false := frozen_of_row _ _ _ _ _ r2.out
  have zz1 : W.cell? ⟨w.heap.size + 1, 1, none⟩ = some (.complex .f64 0 0) := cell_of_row _ _ _ _ _ _ r2.out
  have ff1 : W.frozen? ⟨w.heap.size + 1, 1, none⟩ = false := frozen_of_row _ _ _ _ _ r2.out
  have zz2 : W.cell? ⟨w.heap.size + 1, 2, none⟩ = some (.complex .f64 0 0) := cell_of_row _ _ _ _ _ _ r2.out
  have ff2 : W.frozen? ⟨w.heap.size + 1, 2, none⟩ = false := frozen_of_row _ _ _ _ _ r2.out
  have zz3 : W.cell? ⟨w.heap.size + 1, 3, none⟩ = some (.complex .f64 0 0) := cell_of_row _ _ _ _ _ _ r2.out
  have ff3 : W.frozen? ⟨w.heap.size + 1, 3, none⟩ = false := frozen_of_row _ _ _ _ _ r2.out
  have zz4 : W.cell? ⟨w.heap.size + 1, 4, none⟩ = some (.complex .f64 0 0) := cell_of_row _ _ _ _ _ _ r2.out
  have ff4 : W.frozen? ⟨w.heap.size + 1, 4, none⟩ = false := frozen_of_row _ _ _ _ _ r2.out
  go_quiet (fail)
  replace rB : Hid (Below w.heap.size w (W.drewN nq)) := below_drewN rB.out nq
  replace kk0 : (W.drewN nq).cell? ⟨w.heap.size, 0, none⟩ = some (.complex .f64 a1 a2) := kk0
  replace zz0 : (W.drewN nq).cell? ⟨w.heap.size + 1, 0, none⟩ = some (.complex .f64 0 0) := zz0
  replace ff0 : (W.drewN nq).frozen? ⟨w.heap.size + 1, 0, none⟩ = false := ff0
  replace kk1 : (W.drewN nq).cell? ⟨w.heap.size, 1, none⟩ = some (.complex .f64 b1 b2) := kk1
  replace zz1 : (W.drewN nq).cell? ⟨w.heap.size + 1, 1, none⟩ = some (.complex .f64 0 0) := zz1
  replace ff1 : (W.drewN nq).frozen? ⟨w.heap.size + 1, 1, none⟩ = false := ff1
  replace kk2 : (W.drewN nq).cell? ⟨w.heap.size, 2, none⟩ = some (.complex .f64 c1 c2) := kk2
  replace zz2 : (W.drewN nq).cell? ⟨w.heap.size + 1, 2, none⟩ = some (.complex .f64 0 0) := zz2
  replace ff2 : (W.drewN nq).frozen? ⟨w.heap.size + 1, 2, none⟩ = false := ff2
  replace kk3 : (W.drewN nq).cell? ⟨w.heap.size, 3, none⟩ = some (.complex .f64 d1 d2) := kk3
  replace zz3 : (W.drewN nq).cell? ⟨w.heap.size + 1, 3, none⟩ = some (.complex .f64 0 0) := zz3
  replace ff3 : (W.drewN nq).frozen? ⟨w.heap.size + 1, 3, none⟩ = false := ff3
  replace kk4 : (W.drewN nq).cell? ⟨w.heap.size, 4, none⟩ = some (.complex .f64 e1 e2) := kk4
  replace zz4 : (W.drewN nq).cell? ⟨w.heap.size + 1, 4, none⟩ = some (.complex .f64 0 0) := zz4
  replace ff4 : (W.drewN nq).frozen? ⟨w.heap.size + 1, 4, none⟩ = false := ff4
  clear r1 r2
  generalize W.drewN nq = W2 at *
  clear W nq
  rename World => W
  go_upto_region 2 with fail
  go_quiet (fail)
  replace rB : Hid (Below w.heap.size w (W.drewN nq)) := below_drewN rB.out nq
  replace kk0 : (W.drewN nq).cell? ⟨w.heap.size, 0, none⟩ = some (.complex .f64 a1 a2) := kk0
  replace zz0 : (W.drewN nq).cell? ⟨w.heap.size + 1, 0, none⟩ = some (.complex .f64 0 0) := zz0
  replace ff0 : (W.drewN nq).frozen? ⟨w.heap.size + 1, 0, none⟩ = false := ff0
  replace kk1 : (W.drewN nq).cell? ⟨w.heap.size, 1, none⟩ = some (.complex .f64 b1 b2) := kk1
  replace zz1 : (W.drewN nq).cell? ⟨w.heap.size + 1, 1, none⟩ = some (.complex .f64 0 0) := zz1
  replace ff1 : (W.drewN nq).frozen? ⟨w.heap.size + 1, 1, none⟩ = false := ff1
  replace kk2 : (W.drewN nq).cell? ⟨w.heap.size, 2, none⟩ = some (.complex .f64 c1 c2) := kk2
  replace zz2 : (W.drewN nq).cell? ⟨w.heap.size + 1, 2, none⟩ = some (.complex .f64 0 0) := zz2
  replace ff2 : (W.drewN nq).frozen? ⟨w.heap.size + 1, 2, none⟩ = false := ff2
  replace kk3 : (W.drewN nq).cell? ⟨w.heap.size, 3, none⟩ = some (.complex .f64 d1 d2) := kk3
  replace zz3 : (W.drewN nq).cell? ⟨w.heap.size + 1, 3, none⟩ = some (.complex .f64 0 0) := zz3
  replace ff3 : (W.drewN nq).frozen? ⟨w.heap.size + 1, 3, none⟩ = false := ff3
  replace kk4 : (W.drewN nq).cell? ⟨w.heap.size, 4, none⟩ = some (.complex .f64 e1 e2) := kk4
  replace zz4 : (W.drewN nq).cell? ⟨w.heap.size + 1, 4, none⟩ = some (.complex .f64 0 0) := zz4
  replace ff4 : (W.drewN nq).frozen? ⟨w.heap.size + 1, 4, none⟩ = false := ff4
  generalize W.drewN nq = W2 at *
  clear W nq
  rename World => W
  go_upto_region 3 with fail
  go_quiet (first | (go_at_call_of 20 (Value.complex FloatKind.f64 t1 t2); exact (cTimes_f cA1.out _).mono (by rintro _ _ ⟨rfl, rfl⟩; exact ⟨rfl, _, rfl⟩)) | (go_at_call_of 20 (Value.complex FloatKind.f64 v1 v2); exact (cTimes_f cA2.out _).mono (by rintro _ _ ⟨rfl, rfl⟩; exact ⟨rfl, _, rfl⟩)))
  replace rB : Hid (Below w.heap.size w (W.drewN nq)) := below_drewN rB.out nq
  replace kk0 : (W.drewN nq).cell? ⟨w.heap.size, 0, none⟩ = some (.complex .f64 a1 a2) := kk0
  replace zz0 : (W.drewN nq).cell? ⟨w.heap.size + 1, 0, none⟩ = some (.complex .f64 0 0) := zz0
  replace ff0 : (W.drewN nq).frozen? ⟨w.heap.size + 1, 0, none⟩ = false := ff0
  replace kk1 : (W.drewN nq).cell? ⟨w.heap.size, 1, none⟩ = some (.complex .f64 b1 b2) := kk1
  replace zz1 : (W.drewN nq).cell? ⟨w.heap.size + 1, 1, none⟩ = some (.complex .f64 0 0) := zz1
  replace ff1 : (W.drewN nq).frozen? ⟨w.heap.size + 1, 1, none⟩ = false := ff1
  replace kk2 : (W.drewN nq).cell? ⟨w.heap.size, 2, none⟩ = some (.complex .f64 c1 c2) := kk2
  replace zz2 : (W.drewN nq).cell? ⟨w.heap.size + 1, 2, none⟩ = some (.complex .f64 0 0) := zz2
  replace ff2 : (W.drewN nq).frozen? ⟨w.heap.size + 1, 2, none⟩ = false := ff2
  replace kk3 : (W.drewN nq).cell? ⟨w.heap.size, 3, none⟩ = some (.complex .f64 d1 d2) := kk3
  replace zz3 : (W.drewN nq).cell? ⟨w.heap.size + 1, 3, none⟩ = some (.complex .f64 0 0) := zz3
  replace ff3 : (W.drewN nq).frozen? ⟨w.heap.size + 1, 3, none⟩ = false := ff3
  replace kk4 : (W.drewN nq).cell? ⟨w.heap.size, 4, none⟩ = some (.complex .f64 e1 e2) := kk4
  replace zz4 : (W.drewN nq).cell? ⟨w.heap.size + 1, 4, none⟩ = some (.complex .f64 0 0) := zz4
  replace ff4 : (W.drewN nq).frozen? ⟨w.heap.size + 1, 4, none⟩ = false := ff4
  generalize W.drewN nq = W2 at *
  clear W nq
  rename World => W
  go_upto_region 4 with fail
  go_quiet (first | (go_at_call_of 20 (Value.complex FloatKind.f64 t1 t2); exact (cTimes_f cB1.out _).mono (by rintro _ _ ⟨rfl, rfl⟩; exact ⟨rfl, _, rfl⟩)) | (go_at_call_of 20 (Value.complex FloatKind.f64 v1 v2); exact (cTimes_f cB2.out _).mono (by rintro _ _ ⟨rfl, rfl⟩; exact ⟨rfl, _, rfl⟩)))
  replace rB : Hid (Below w.heap.size w (W.drewN nq)) := below_drewN rB.out nq
  replace kk0 : (W.drewN nq).cell? ⟨w.heap.size, 0, none⟩ = some (.complex .f64 a1 a2) := kk0
  replace zz0 : (W.drewN nq).cell? ⟨w.heap.size + 1, 0, none⟩ = some (.complex .f64 0 0) := zz0
  replace ff0 : (W.drewN nq).frozen? ⟨w.heap.size + 1, 0, none⟩ = false := ff0
  replace kk1 : (W.drewN nq).cell? ⟨w.heap.size, 1, none⟩ = some (.complex .f64 b1 b2) := kk1
  replace zz1 : (W.drewN nq).cell? ⟨w.heap.size + 1, 1, none⟩ = some (.complex .f64 0 0) := zz1
  replace ff1 : (W.drewN nq).frozen? ⟨w.heap.size + 1, 1, none⟩ = false := ff1
  replace kk2 : (W.drewN nq).cell? ⟨w.heap.size, 2, none⟩ = some (.complex .f64 c1 c2) := kk2
  replace zz2 : (W.drewN nq).cell? ⟨w.heap.size + 1, 2, none⟩ = some (.complex .f64 0 0) := zz2
  replace ff2 : (W.drewN nq).frozen? ⟨w.heap.size + 1, 2, none⟩ = false := ff2
  replace kk3 : (W.drewN nq).cell? ⟨w.heap.size, 3, none⟩ = some (.complex .f64 d1 d2) := kk3
  replace zz3 : (W.drewN nq).cell? ⟨w.heap.size + 1, 3, none⟩ = some (.complex .f64 0 0) := zz3
  replace ff3 : (W.drewN nq).frozen? ⟨w.heap.size + 1, 3, none⟩ = false := ff3
  replace kk4 : (W.drewN nq).cell? ⟨w.heap.size, 4, none⟩ = some (.complex .f64 e1 e2) := kk4
  replace zz4 : (W.drewN nq).cell? ⟨w.heap.size + 1, 4, none⟩ = some (.complex .f64 0 0) := zz4
  replace ff4 : (W.drewN nq).frozen? ⟨w.heap.size + 1, 4, none⟩ = false := ff4
  generalize W.drewN nq = W2 at *
  clear W nq
  rename World => W
  go_upto_region 5 with fail
  go_upto_region 6 with (first | (go_at_call_of 20 (Value.complex FloatKind.f64 u1 u2); refine (cTimes_f cD1.out _).mono ?_; rintro _ _ ⟨rfl, rfl⟩) | (go_at_call_of 20 (Value.complex FloatKind.f64 k1 k2); refine (cTimes_f cD2.out _).mono ?_; rintro _ _ ⟨rfl, rfl⟩))
  go_upto_region 7 with (first | (go_at_call_of 20 (Value.complex FloatKind.f64 u1 u2); refine (cTimes_f cE1.out _).mono ?_; rintro _ _ ⟨rfl, rfl⟩) | (go_at_call_of 20 (Value.complex FloatKind.f64 k1 k2); refine (cTimes_f cE2.out _).mono ?_; rintro _ _ ⟨rfl, rfl⟩))
  clear oHt oHu lHu oHv oHk cA1 cA2 oA3 oHm cB1 cB2 oB3 oHn cD1 cD2 oHg cE1 cE2 oHh kk1 kk2 kk3 kk4
  go_region_held3 (fun X => X.cell? ⟨w.heap.size, 0, none⟩ = some (.complex .f64 a1 a2)) (go_keep) ((first | (go_at_call_of 18 (Value.complex FloatKind.f64 g1 g2); refine (cMinusI_c _ _ _ lHg.1).mono ?_; rintro _ _ ⟨rfl, rfl⟩) | (go_at_call_of 18 (Value.complex FloatKind.f64 h1 h2); refine (cMinusI_c _ _ _ lHh.1).mono ?_; rintro _ _ ⟨rfl, rfl⟩) | (go_at_call_of 19 (Value.complex FloatKind.f64 g1 g2); refine (cTimesI_c _ _ _ lHg.2).mono ?_; rintro _ _ ⟨rfl, rfl⟩) | (go_at_call_of 19 (Value.complex FloatKind.f64 h1 h2); refine (cTimesI_c _ _ _ lHh.2).mono ?_; rintro _ _ ⟨rfl, rfl⟩)))
  all_goals
    go_wp2_with fail
    refine bodyPost_ret (v := .agg #[.complex .f64 x1 x2, .complex .f64 y1 y2, .complex .f64 z1 z2, .complex .f64 o1 o2, .complex .f64 l1 l2]) (by simp [results, Tryd.results17, go_sem, zz0, zz1, zz2, zz3, zz4]) rfl ⟨rfl, ?_⟩
    exact (((((below_drewN rB.out 1).setCell (Nat.le_succ _) _).setCell (Nat.le_succ _) _).setCell (Nat.le_succ _) _).setCell (Nat.le_succ _) _).setCell (Nat.le_succ _) _
end Go.Proofs.YtonfdfmhnamimaaDoor
