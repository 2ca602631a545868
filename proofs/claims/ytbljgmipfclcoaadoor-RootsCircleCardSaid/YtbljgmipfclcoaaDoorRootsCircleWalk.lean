/-
  The walk of RootsCircle.
-/
import Derived.Test.YtbljgmipfclcoaaDoorPx7
import Derived.Test.YtbljgmipfclcoaaDoorRty
import Derived.Test.YtbljgmipfclcoaaDoorRows
namespace Go.Proofs.YtbljgmipfclcoaaDoor
open Flo Go.RowKit
theorem run_fma {x y z r : Nat} (h : Ieee.double.fma x y z = some r) (w : World) : (callFunc 29 #[.float .f64 x, .float .f64 y, .float .f64 z]).run Tryd.prog w = .ok (.value (.float .f64 r)) w := by
  have e : (callFunc 29 #[.float .f64 x, .float .f64 y, .float .f64 z]).run Tryd.prog w = ((Next.value <$> Extern.MathFMA.fma #[.float .f64 x, .float .f64 y, .float .f64 z]) : Sem Next).run Tryd.prog w := by kernel_rfl
  have e2 : ∃ f : Sem Value, Extern.MathFMA.fma #[.float .f64 x, .float .f64 y, .float .f64 z] = (match FloatKind.f64.format.fma x y z with | some r => pure (.float .f64 r) | none => f) := ⟨_, rfl⟩
  obtain ⟨f, e2⟩ := e2
  have h' : FloatKind.f64.format.fma x y z = some r := h
  rw [e, e2, h']
  rfl
theorem root_ci (n : Nat) (k : Int) (h : 0 < n) (hn : n ≤ 4194304) (x y : Nat) (ex : Rp.pc n (Rp.md n k) = x) (ey : Rp.pim n (Rp.md n k) = y) (w : World) :
    Calls Tryd.prog 18 #[.int .i64 (n : Int), .int .i64 k] w fun e w' => e = .returned (.tuple #[.complex .f64 x y, .nilIface]) ∧ Below w.heap.size w w' := by
  subst ex ey; exact rootOk_c n k w h hn
theorem fop_some {P : Program} {op : BinOp} {x y r : Nat} (h : floatBits op .f64 x y = some r) (t : TypeId) (w : World) : (binOp op t (.float .f64 x) (.float .f64 y)).run P w = .ok (.float .f64 r) w := run_float_arith w op t .f64 x y r h
theorem V_m1 : Rp.V 13830554455654793216 = -1 := by
  have h : (13830554455654793216 : Nat) = Ari.ng Rp.one := by decide
  rw [h, Rp.V_ng (by decide), Rp.V_one]
theorem fin_m1 : Ari.fin 13830554455654793216 := ⟨by decide, by decide⟩
theorem fin_p1 : Ari.fin 4607182418800017408 := ⟨by decide, by decide⟩
theorem fin_47 : Ari.fin 4395513236313604096 := ⟨by decide, by decide⟩
theorem fin_m47 : Ari.fin 13618885273168379904 := ⟨by decide, by decide⟩
theorem V_47 : Rp.V 4395513236313604096 = 128 * Rp.eps := by
  have h : Ari.fz 4395513236313604096 = ((2 ^ (Ari.ul - 47) : Nat) : Int) := by decide +kernel
  have hu := Rp.u_mul
  have e : (2 ^ Ari.ul : Nat) = 2 ^ (Ari.ul - 47) * 2 ^ 47 := by rw [← Nat.pow_add, show Ari.ul - 47 + 47 = Ari.ul by have := Ari.ul_eq; omega]
  rw [e, Rat.natCast_mul, show ((2 ^ 47 : Nat) : Rat) = 140737488355328 by decide] at hu
  have he := Rp.eps_eq
  unfold Rp.V
  rw [h, Rp.nat_int]
  grind
theorem V_m47 : Rp.V 13618885273168379904 = -(128 * Rp.eps) := by
  have h : (13618885273168379904 : Nat) = Ari.ng 4395513236313604096 := by decide
  rw [h, Rp.V_ng (by decide), V_47]
theorem le_or {a b : Nat} (ha : Ari.fin a) (hb : Ari.fin b) (h : Ari.fz a ≤ Ari.fz b) : (FloatKind.f64.format.order a b == some .lt || FloatKind.f64.format.order a b == some .eq) = true := by
  have e1 := Ari.lt_fin ha hb
  have e2 := Ari.eq_fin ha hb
  change (FloatKind.f64.format.order a b == some .lt) = _ at e1
  change (FloatKind.f64.format.order a b == some .eq) = _ at e2
  rw [e1, e2, Bool.or_eq_true, decide_eq_true_eq, decide_eq_true_eq]
  omega
theorem ge_or {a b : Nat} (ha : Ari.fin a) (hb : Ari.fin b) (h : Ari.fz b ≤ Ari.fz a) : (FloatKind.f64.format.order a b == some .gt || FloatKind.f64.format.order a b == some .eq) = true := by
  have e1 := Ari.gt_fin ha hb
  have e2 := Ari.eq_fin ha hb
  change (FloatKind.f64.format.order a b == some .gt) = _ at e1
  change (FloatKind.f64.format.order a b == some .eq) = _ at e2
  rw [e1, e2, Bool.or_eq_true, decide_eq_true_eq, decide_eq_true_eq]
  omega
theorem ge_m1 {a : Nat} (ha : Ari.fin a) (h : -1 ≤ Rp.V a) : (FloatKind.f64.format.order a 13830554455654793216 == some .gt || FloatKind.f64.format.order a 13830554455654793216 == some .eq) = true :=
  ge_or ha fin_m1 (Rp.fz_le (by rw [V_m1]; exact h))
theorem le_p1 {a : Nat} (ha : Ari.fin a) (h : Rp.V a ≤ 1) : (FloatKind.f64.format.order a 4607182418800017408 == some .lt || FloatKind.f64.format.order a 4607182418800017408 == some .eq) = true :=
  le_or ha fin_p1 (Rp.fz_le (by rw [show (4607182418800017408 : Nat) = Rp.one from rfl, Rp.V_one]; exact h))
theorem lt_47 {z : Nat} (hz : Ari.fin z) (h : Rp.nb (Rp.V z) 0 (92 * Rp.eps)) : (FloatKind.f64.format.order z 4395513236313604096 == some .lt) = true := by
  have e1 := Ari.lt_fin hz fin_47
  change (FloatKind.f64.format.order z 4395513236313604096 == some .lt) = _ at e1
  rw [e1, decide_eq_true_eq]
  apply Rp.fz_lt
  rw [V_47]
  have := Rp.eps_small
  obtain ⟨h1, h2⟩ := h
  grind
theorem gt_47 {z : Nat} (hz : Ari.fin z) (h : Rp.nb (Rp.V z) 0 (92 * Rp.eps)) : (FloatKind.f64.format.order z 13618885273168379904 == some .gt) = true := by
  have e1 := Ari.gt_fin hz fin_m47
  change (FloatKind.f64.format.order z 13618885273168379904 == some .gt) = _ at e1
  rw [e1, decide_eq_true_eq]
  apply Rp.fz_lt
  rw [V_m47]
  have := Rp.eps_small
  obtain ⟨h1, h2⟩ := h
  grind
set_option maxRecDepth 100000 in
set_option maxHeartbeats 8000000 in
theorem circle_w (n k : Int) (w : World) :
    Calls Tryd.prog 8 #[.int .i64 n, .int .i64 k] w fun e w' => e = .returned (.bool true) ∧ Below w.heap.size w w' := by
  have hfit := fit_c n k
  generalize k.tmod 1099511627776 = K at *
  go_enter Tryd.func8, Tryd.ntmps8
  go_wp2_with fail
  refine (lives7_c _).mono ?_
  rintro e w1 ⟨rfl, B1⟩
  have A1 : Hid (Below w.heap.size w w1) := B1
  clear B1
  go_wp2_with fail
  refine (hfit _).mono ?_
  rintro e w2 ⟨N, rfl, N0, N1, rfl⟩
  clear hfit
  have r1 := root_ci N K N0 N1 _ _ rfl rfl
  have fa := Rp.pc_fin (Rp.md N K) N0 N1
  have fb := Rp.pim_fin (Rp.md N K) N0 N1
  obtain ⟨⟨a1, a2⟩, ⟨b1, b2⟩, hc⟩ := Rp.root_circle (Rp.md_lt N0 K) N1
  generalize Rp.pc N (Rp.md N K) = a at *
  generalize Rp.pim N (Rp.md N K) = b at *
  obtain ⟨x, y, rx, ry, z1, z2, z3, z4, ex, ey, erx, ery, e1, e2, e3, e4, fx, fy, f4, n4⟩ := Rp.off_small fa fb a1 a2 b1 b2 hc
  have gx := fun t w => fop_some (P := Tryd.prog) (op := .mul) ex t w
  have gy := fun t w => fop_some (P := Tryd.prog) (op := .mul) ey t w
  have g1 : ∀ t w, (binOp .sub t (.float .f64 x) (.float .f64 4607182418800017408)).run Tryd.prog w = .ok (.float .f64 z1) w := fun t w => fop_some (P := Tryd.prog) (op := .sub) e1 t w
  have g2 := fun t w => fop_some (P := Tryd.prog) (op := .add) e2 t w
  have g3 := fun t w => fop_some (P := Tryd.prog) (op := .add) e3 t w
  have g4 := fun t w => fop_some (P := Tryd.prog) (op := .add) e4 t w
  have ngx := fun w => run_fneg (P := Tryd.prog) x w fx.1
  have ngy := fun w => run_fneg (P := Tryd.prog) y w fy.1
  have mx := run_fma erx
  have my := run_fma ery
  have p1 := ge_m1 fa a1
  have p2 := le_p1 fa a2
  have p3 := ge_m1 fb b1
  have p4 := le_p1 fb b2
  have p5 := lt_47 f4 n4
  have p6 := gt_47 f4 n4
  clear ex ey erx ery e1 e2 e3 e4 hc a1 a2 b1 b2 fa fb fx fy f4 n4
  go_wp2_with fail
  refine (r1 _).mono ?_
  rintro e w3 ⟨rfl, B3⟩
  have A3 : Hid (Below w.heap.size w w3) := below_tr A1.out B3
  clear B3 A1 r1
  go_wp2_with fail
  go_ret
  exact ⟨rfl, A3.out⟩
end Go.Proofs.YtbljgmipfclcoaaDoor
namespace Go.Proofs.YtbljgmipfclcoaaDoor.rootsCircle
open Go.RowKit
theorem walk (x0 x1 : Int) (w : World) (_l0 : -9223372036854775808 ≤ x0) (_u0 : x0 ≤ 9223372036854775807) (_l1 : -9223372036854775808 ≤ x1) (_u1 : x1 ≤ 9223372036854775807) (_hL : laidMetH Tryd.prog Rows.rootsCircleRow.laid w) :
    Calls Tryd.prog 8 #[.int .i64 x0, .int .i64 x1] w fun e w' => e = .returned (.bool true) ∧ Below w.heap.size w w' := circle_w x0 x1 w
end Go.Proofs.YtbljgmipfclcoaaDoor.rootsCircle
