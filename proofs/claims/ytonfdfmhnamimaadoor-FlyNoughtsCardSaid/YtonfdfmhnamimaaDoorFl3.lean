/-
  The statements' own of layer 11: whole, fixed; package fly's Has and Work.
-/
import Derived.Test.YtonfdfmhnamimaaDoorFl2
import Derived.Test.YtonfdfmhnamimaaDoorFlq
namespace Go.Proofs.YtonfdfmhnamimaaDoor
open Flo Go.RowKit
theorem heap_lt {w : World} {g : Nat} {o : Obj} (h : w.heap[g]? = some o) : g < w.heap.size := (Array.getElem?_eq_some_iff.1 h).1
theorem blw_tr {w a b : World} (h : Below w.heap.size w a) (k : Below a.heap.size a b) : Below w.heap.size w b := h.trans (k.mono h.size)
theorem Lw.eq {y z : Nat × Nat} (h : Lw y z) (h1 : nanB z.1 = false) (h2 : nanB z.2 = false) : y = z := by
  obtain ⟨_, _, e1, e2⟩ := h
  have n1 : nanB y.1 = false := by rw [← nan_bt, e1, nan_bt, h1]
  have n2 : nanB y.2 = false := by rw [← nan_bt, e2, nan_bt, h2]
  rw [bt_fin n1, bt_fin h1] at e1
  rw [bt_fin n2, bt_fin h2] at e2
  exact Prod.ext e1 e2
set_option maxHeartbeats 400000 in
theorem has5_c (w : World) : Calls Tryd.prog 15 #[.int .i64 5] w fun e w' => e = .returned (.bool true) ∧ w = w' := by
  go_enter Tryd.func15, Tryd.ntmps15
  go_wp2
  go_ret
  exact ⟨rfl, rfl⟩
set_option maxHeartbeats 400000 in
theorem work5_c (w : World) : Calls Tryd.prog 13 #[.int .i64 5] w fun e w' => e = .returned (.tuple #[.int .i64 32, .int .i64 16]) ∧ w = w' := by
  go_enter Tryd.func13, Tryd.ntmps13
  go_wp2
  go_ret2
  exact ⟨rfl, rfl⟩
set_option maxHeartbeats 400000 in
theorem whole_c (n : Int) (m k : Nat) (hk : (m : Int) + 1 = (k : Int)) (_h0 : 0 < k) (h1 : k ≤ 4611686018427387904) (w : World) : Calls Tryd.prog 8 #[.int .i64 n, .int .i64 (m : Int)] w fun e w' => e = .returned (.int .i64 (n.tmod (k : Int))) ∧ w = w' := by
  go_enter Tryd.func8, Tryd.ntmps8
  go_wp2
  go_ret
  exact ⟨rfl, rfl⟩
theorem two_fixed (w : World) : Calls Tryd.prog 9 #[.agg #[.complex .f64 4607182418800017408 4611686018427387904, .complex .f64 4613937818241073152 4616189618054758400]] w fun e w' => e = .returned (.agg #[.complex .f64 4616189618054758400 4618441417868443648, .complex .f64 13835058055282163712 13835058055282163712]) ∧ Below w.heap.size w w' := by
  refine (flyTwo_c _ _ _ _ w).mono ?_
  rintro e w' ⟨y0, y1, rfl, l0, l1, B⟩
  have e0 : adc (4607182418800017408, 4611686018427387904) (4613937818241073152, 4616189618054758400) = (4616189618054758400, 4618441417868443648) := by decide +kernel
  have e1 : sbc (4607182418800017408, 4611686018427387904) (4613937818241073152, 4616189618054758400) = (13835058055282163712, 13835058055282163712) := by decide +kernel
  rw [e0] at l0
  rw [e1] at l1
  rw [l0.eq (by decide) (by decide), l1.eq (by decide) (by decide)]
  exact ⟨rfl, B⟩
theorem four_fixed (w : World) : Calls Tryd.prog 10 #[.agg #[.complex .f64 4607182418800017408 0, .complex .f64 4611686018427387904 0, .complex .f64 4613937818241073152 0, .complex .f64 4616189618054758400 0]] w fun e w' => ∃ a b c d : Nat × Nat, e = .returned (.agg #[.complex .f64 a.1 a.2, .complex .f64 b.1 b.2, .complex .f64 c.1 c.2, .complex .f64 d.1 d.2]) ∧ Hid (Op.floatEq .f64 a.1 4621819117588971520 = true ∧ Op.floatEq .f64 a.2 0 = true ∧ Op.floatEq .f64 b.1 13835058055282163712 = true ∧ Op.floatEq .f64 b.2 4611686018427387904 = true ∧ Op.floatEq .f64 c.1 13835058055282163712 = true ∧ Op.floatEq .f64 c.2 0 = true ∧ Op.floatEq .f64 d.1 13835058055282163712 = true ∧ Op.floatEq .f64 d.2 13835058055282163712 = true) ∧ Below w.heap.size w w' := by
  refine (flyFour_c _ _ _ _ _ _ _ _ w).mono ?_
  rintro e w' ⟨y0, y1, y2, y3, rfl, l0, l1, l2, l3, B⟩
  have h0 := l0.eq (by decide +kernel) (by decide +kernel)
  have h1 := l1.eq (by decide +kernel) (by decide +kernel)
  have h2 := l2.eq (by decide +kernel) (by decide +kernel)
  have h3 := l3.eq (by decide +kernel) (by decide +kernel)
  refine ⟨y0, y1, y2, y3, rfl, ?_, B⟩
  subst h0; subst h1; subst h2; subst h3
  exact ⟨by decide +kernel, by decide +kernel, by decide +kernel, by decide +kernel, by decide +kernel, by decide +kernel, by decide +kernel, by decide +kernel⟩
theorem three_fixed (w : World) : Calls Tryd.prog 12 #[.agg #[.complex .f64 0 0, .complex .f64 4607182418800017408 0, .complex .f64 0 0]] w fun e w' => ∃ a b c : Nat × Nat, e = .returned (.agg #[.complex .f64 a.1 a.2, .complex .f64 b.1 b.2, .complex .f64 c.1 c.2]) ∧ Hid (Op.floatEq .f64 a.1 4607182418800017408 = true ∧ Op.floatEq .f64 a.2 0 = true ∧ Op.floatEq .f64 b.1 13826050856027422720 = true ∧ Op.floatEq .f64 c.2 4605975682916830378 = true) ∧ Below w.heap.size w w' := by
  refine (flyThree_f 0 0 4607182418800017408 0 0 0 4607182418800017408 0 4607182418800017408 0 4605975682916830378 0 4602678819172646912 0 13826050856027422720 0 4607182418800017408 0 13826050856027422720 13829347719771606186 13826050856027422720 4605975682916830378 (show Cs .add (4607182418800017408, 0) (0, 0) (4607182418800017408, 0) from ⟨by decide +kernel, by decide +kernel, by decide, by decide⟩) (show Cs .sub (4607182418800017408, 0) (0, 0) (4607182418800017408, 0) from ⟨by decide +kernel, by decide +kernel, by decide, by decide⟩) (show Ct 4605975682916830378 (4607182418800017408, 0) (4605975682916830378, 0) from ⟨by decide +kernel, by decide +kernel, by decide, by decide⟩) (show Ct 4602678819172646912 (4607182418800017408, 0) (4602678819172646912, 0) from ⟨by decide +kernel, by decide +kernel, by decide, by decide⟩) (show Cs .sub (0, 0) (4602678819172646912, 0) (13826050856027422720, 0) from ⟨by decide +kernel, by decide +kernel, by decide, by decide⟩) (show Cs .add (0, 0) (4607182418800017408, 0) (4607182418800017408, 0) from ⟨by decide +kernel, by decide +kernel, by decide, by decide⟩) (show Cs .add (13826050856027422720, 0) (0, (Ari.ng 4605975682916830378)) (13826050856027422720, 13829347719771606186) from ⟨by decide +kernel, by decide +kernel, by decide, by decide⟩) (show Cs .add (13826050856027422720, 0) ((Ari.ng 0), 4605975682916830378) (13826050856027422720, 4605975682916830378) from ⟨by decide +kernel, by decide +kernel, by decide, by decide⟩) w).mono ?_
  rintro e w' ⟨rfl, B⟩
  exact ⟨(4607182418800017408, 0), (13826050856027422720, 13829347719771606186), (13826050856027422720, 4605975682916830378), rfl, ⟨by decide +kernel, by decide +kernel, by decide +kernel, by decide +kernel⟩, B⟩
end Go.Proofs.YtonfdfmhnamimaaDoor
