/-
  Package fly: the butterflies of 3 and 5, where no NaN is on the way.
-/
import Derived.Test.YtonfdfmhnamimaaFl1
import Derived.Deep.RegionHeld3
namespace Go.Proofs.Ytonfdfmhnamimaa
open Flo Go.RowKit
/-- z is x and y taken together, and no NaN -/
def Cs (o : BinOp) (x y z : Nat × Nat) : Prop := z.1 = co o x.1 y.1 ∧ z.2 = co o x.2 y.2 ∧ nanB z.1 = false ∧ nanB z.2 = false
/-- z is x times the float f, and no NaN -/
def Ct (f : Nat) (x z : Nat × Nat) : Prop := z.1 = co .mul x.1 f ∧ z.2 = co .mul x.2 f ∧ nanB z.1 = false ∧ nanB z.2 = false
theorem bits_of_co {o : BinOp} {x y : Nat} (h : nanB (co o x y) = false) : floatBits o .f64 x y = some (co o x y) := by
  unfold co at *
  cases e : floatBits o .f64 x y with
  | some r => rfl
  | none => rw [e] at h; exact absurd h (by decide)
theorem fr_of_co {o : BinOp} {x y : Nat} (h : nanB (co o x y) = false) (w : World) : fr o x y w = co o x y := by
  have e := bits_of_co h
  unfold fr
  rw [e]
theorem fk_of_co {o : BinOp} {x y : Nat} (h : nanB (co o x y) = false) : fk o x y = 0 := by
  have e := bits_of_co h
  unfold fk
  rw [e]
theorem Cs.lt {o : BinOp} {x y z : Nat × Nat} (h : Cs o x y z) : z.1 < 18446744073709551616 ∧ z.2 < 18446744073709551616 := ⟨by rw [h.1]; exact co_lt .., by rw [h.2.1]; exact co_lt ..⟩
theorem Ct.lt {f : Nat} {x z : Nat × Nat} (h : Ct f x z) : z.1 < 18446744073709551616 ∧ z.2 < 18446744073709551616 := ⟨by rw [h.1]; exact co_lt .., by rw [h.2.1]; exact co_lt ..⟩
theorem Cs.add {a b c d x y : Nat} (h : Cs .add (a, b) (c, d) (x, y)) (t : TypeId) (w : World) : (binOp .add t (.complex .f64 a b) (.complex .f64 c d)).run Try.prog w = .ok (.complex .f64 x y) w := by
  obtain ⟨h1, h2, h3, h4⟩ := h
  simp only at h1 h2 h3 h4
  subst h1; subst h2
  rw [run_cadd, fk_of_co h3, fk_of_co h4, fr_of_co h3, fr_of_co h4]; rfl
theorem Cs.sub {a b c d x y : Nat} (h : Cs .sub (a, b) (c, d) (x, y)) (t : TypeId) (w : World) : (binOp .sub t (.complex .f64 a b) (.complex .f64 c d)).run Try.prog w = .ok (.complex .f64 x y) w := by
  obtain ⟨h1, h2, h3, h4⟩ := h
  simp only at h1 h2 h3 h4
  subst h1; subst h2
  rw [run_csub, fk_of_co h3, fk_of_co h4, fr_of_co h3, fr_of_co h4]; rfl
set_option maxHeartbeats 800000 in
theorem cTimes_f {a b f x y : Nat} (h : Ct f (a, b) (x, y)) (w : World) :
    Calls Try.prog 14 #[.complex .f64 a b, .float .f64 f] w fun e w' => e = .returned (.complex .f64 x y) ∧ w = w' := by
  obtain ⟨h1, h2, h3, h4⟩ := h
  simp only at h1 h2 h3 h4
  subst h1; subst h2
  have k1 : ∀ t w, (binOp .mul t (.float .f64 a) (.float .f64 f)).run Try.prog w = .ok (.float .f64 (co .mul a f)) w := fun t w => by rw [run_fmul, fk_of_co h3, fr_of_co h3]; rfl
  have k2 : ∀ t w, (binOp .mul t (.float .f64 b) (.float .f64 f)).run Try.prog w = .ok (.float .f64 (co .mul b f)) w := fun t w => by rw [run_fmul, fk_of_co h4, fr_of_co h4]; rfl
  clear h3 h4
  go_enter Try.func14, Try.ntmps14
  go_wp2
  go_ret
  exact ⟨rfl, rfl⟩
set_option maxHeartbeats 1600000 in
theorem flyThree_f (a1 a2 b1 b2 c1 c2 t1 t2 d1 d2 u1 u2 s1 s2 m1 m2 x1 x2 y1 y2 z1 z2 : Nat) (Ht : Cs .add (b1, b2) (c1, c2) (t1, t2)) (Hd : Cs .sub (b1, b2) (c1, c2) (d1, d2)) (Hu : Ct 4605975682916830378 (d1, d2) (u1, u2)) (Hs : Ct 4602678819172646912 (t1, t2) (s1, s2)) (Hm : Cs .sub (a1, a2) (s1, s2) (m1, m2)) (G0 : Cs .add (a1, a2) (t1, t2) (x1, x2)) (G1 : Cs .add (m1, m2) (u2, Ari.ng u1) (y1, y2)) (G2 : Cs .add (m1, m2) (Ari.ng u2, u1) (z1, z2)) (w : World) :
    Calls Try.prog 8 #[.agg #[.complex .f64 a1 a2, .complex .f64 b1 b2, .complex .f64 c1 c2]] w fun e w' => e = .returned (.agg #[.complex .f64 x1 x2, .complex .f64 y1 y2, .complex .f64 z1 z2]) ∧ Below w.heap.size w w' := by
  have h3 := store_cx
  have oHt := Ht.add
  have oHd := Hd.sub
  have cHu : Hid (Ct 4605975682916830378 (d1, d2) (u1, u2)) := Hu
  have lHu := Hu.lt
  have cHs : Hid (Ct 4602678819172646912 (t1, t2) (s1, s2)) := Hs
  have oHm := Hm.sub
  have oG0 := G0.add
  have oG1 := G1.add
  have oG2 := G2.add
  clear Ht Hd Hu Hs Hm G0 G1 G2
  go_enter Try.func8, Try.ntmps8
  go_upto_region 1 with fail
  obtain ⟨W, hW⟩ : ∃ W, Hid ((w.alloc (.cells #[.complex .f64 a1 a2, .complex .f64 b1 b2, .complex .f64 c1 c2] 33)).alloc (.cells #[.complex .f64 0 0, .complex .f64 0 0, .complex .f64 0 0] 33) = W) := ⟨_, (rfl : _ = _)⟩
  have r1 : Hid (W.heap[w.heap.size]? = some (.cells #[.complex .f64 a1 a2, .complex .f64 b1 b2, .complex .f64 c1 c2] 33 (0, 0))) := by show _ = _; rw [← hW.out]; exact heap_alloc2_old _ _ _
  have r2 : Hid (W.heap[w.heap.size + 1]? = some (.cells #[.complex .f64 0 0, .complex .f64 0 0, .complex .f64 0 0] 33 (0, 0))) := by show _ = _; rw [← hW.out]; exact heap_alloc2_new _ _ _
  have rB : Hid (Below w.heap.size w W) := by show Below _ _ _; rw [← hW.out]; exact ((Below.refl _ _).alloc (Nat.le_refl _) _).alloc (by simp) _
  rw [hW.out]
  clear hW
  have kk0 : W.cell? ⟨w.heap.size, 0, none⟩ = some (.complex .f64 a1 a2) := cell_of_row _ _ _ _ _ _ r1.out
  have kk1 : W.cell? ⟨w.heap.size, 1, none⟩ = some (.complex .f64 b1 b2) := cell_of_row _ _ _ _ _ _ r1.out
  have kk2 : W.cell? ⟨w.heap.size, 2, none⟩ = some (.complex .f64 c1 c2) := cell_of_row _ _ _ _ _ _ r1.out
  have zz0 : W.cell? ⟨w.heap.size + 1, 0, none⟩ = some (.complex .f64 0 0) := cell_of_row _ _ _ _ _ _ r2.out
  have ff0 : W.frozen? ⟨w.heap.size + 1, 0, none⟩ = false := frozen_of_row _ _ _ _ _ r2.out
  have zz1 : W.cell? ⟨w.heap.size + 1, 1, none⟩ = some (.complex .f64 0 0) := cell_of_row _ _ _ _ _ _ r2.out
  have ff1 : W.frozen? ⟨w.heap.size + 1, 1, none⟩ = false := frozen_of_row _ _ _ _ _ r2.out
  have zz2 : W.cell? ⟨w.heap.size + 1, 2, none⟩ = some (.complex .f64 0 0) := cell_of_row _ _ _ _ _ _ r2.out
  have ff2 : W.frozen? ⟨w.heap.size + 1, 2, none⟩ = false := frozen_of_row _ _ _ _ _ r2.out
  go_upto_region 3 with (first | (go_at_call_of 14 (Value.complex FloatKind.f64 d1 d2); refine (cTimes_f cHu.out _).mono ?_; rintro _ _ ⟨rfl, rfl⟩) | (go_at_call_of 14 (Value.complex FloatKind.f64 t1 t2); refine (cTimes_f cHs.out _).mono ?_; rintro _ _ ⟨rfl, rfl⟩))
  go_quiet (first | (go_at_call_of 14 (Value.complex FloatKind.f64 d1 d2); exact (cTimes_f cHu.out _).mono (by rintro _ _ ⟨rfl, rfl⟩; exact ⟨rfl, _, rfl⟩)) | (go_at_call_of 14 (Value.complex FloatKind.f64 t1 t2); exact (cTimes_f cHs.out _).mono (by rintro _ _ ⟨rfl, rfl⟩; exact ⟨rfl, _, rfl⟩)))
  replace rB : Hid (Below w.heap.size w (W.drewN nq)) := below_drewN rB.out nq
  replace kk0 : (W.drewN nq).cell? ⟨w.heap.size, 0, none⟩ = some (.complex .f64 a1 a2) := kk0
  replace zz0 : (W.drewN nq).cell? ⟨w.heap.size + 1, 0, none⟩ = some (.complex .f64 0 0) := zz0
  replace ff0 : (W.drewN nq).frozen? ⟨w.heap.size + 1, 0, none⟩ = false := ff0
  replace kk1 : (W.drewN nq).cell? ⟨w.heap.size, 1, none⟩ = some (.complex .f64 b1 b2) := kk1
  replace zz1 : (W.drewN nq).cell? ⟨w.heap.size + 1, 1, none⟩ = some (.complex .f64 0 0) := zz1
  replace ff1 : (W.drewN nq).frozen? ⟨w.heap.size + 1, 1, none⟩ = false := ff1
  replace kk2 : (W.drewN nq).cell? ⟨w.heap.size, 2, none⟩ = some (.complex .f64 c1 c2) := kk2
  replace zz2 : (W.drewN nq).cell? ⟨w.heap.size + 1, 2, none⟩ = some (.complex .f64 0 0) := zz2
  replace ff2 : (W.drewN nq).frozen? ⟨w.heap.size + 1, 2, none⟩ = false := ff2
  clear r1 r2
  generalize W.drewN nq = W2 at *
  clear W nq
  rename World => W
  go_upto_region 4 with fail
  clear oHt oHd cHu cHs oHm kk1 kk2
  go_region_held3 (fun X => X.cell? ⟨w.heap.size, 0, none⟩ = some (.complex .f64 a1 a2)) (go_keep) ((first | (go_at_call_of 12 (Value.complex FloatKind.f64 u1 u2); refine (cMinusI_c _ _ _ lHu.1).mono ?_; rintro _ _ ⟨rfl, rfl⟩) | (go_at_call_of 13 (Value.complex FloatKind.f64 u1 u2); refine (cTimesI_c _ _ _ lHu.2).mono ?_; rintro _ _ ⟨rfl, rfl⟩)))
  all_goals
    go_wp2_with fail
    refine bodyPost_ret (v := .agg #[.complex .f64 x1 x2, .complex .f64 y1 y2, .complex .f64 z1 z2]) (by simp [results, Try.results8, go_sem, zz0, zz1, zz2]) rfl ⟨rfl, ?_⟩
    exact (((below_drewN rB.out 1).setCell (Nat.le_succ _) _).setCell (Nat.le_succ _) _).setCell (Nat.le_succ _) _
end Go.Proofs.Ytonfdfmhnamimaa
