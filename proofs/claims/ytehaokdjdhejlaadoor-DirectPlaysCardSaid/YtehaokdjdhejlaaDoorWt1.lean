/-
  Complex numbers watched: SeeC, Add, Mul; the document's product of places.
-/
import Derived.Test.YtehaokdjdhejlaaDoorWt0
import Derived.Test.YtehaokdjdhejlaaDoorPz7
namespace Go.Proofs.YtehaokdjdhejlaaDoor
open Flo Go.RowKit
theorem Wt.fr {w w' : World} {g h : Nat} {b : Bool} (hW : Wt w g b) (hf : Fr (fun k => k = h) w w') (hne : g ≠ h) : Wt w' g b :=
  ⟨hf.cell hW.c hne, (hf.frozen (World.block_lt_of_cell? w _ hW.c) hne).trans hW.f⟩
set_option maxHeartbeats 1000000 in
theorem seec_c (g x y : Nat) (b : Bool) (w : World) (hW : Wt w g b) (hx : x < 18446744073709551616) (hy : y < 18446744073709551616) :
    Calls Tryd.prog 44 #[.pointer (some ⟨g, 0, none⟩), .complex .f64 x y] w fun e w' => e = .returned (.complex .f64 x y) ∧ ∃ b', Wt w' g b' ∧ Fr (fun k => k = g) w w' ∧ (b' = false → b = false ∧ Tr.okc (x, y)) := by
  have hWH : Hid (Wt w g b) := hW
  clear hW
  go_enter Tryd.func44, Tryd.ntmps44
  go_wp2_with fail
  refine (see_c g x b w hWH.out hx).mono ?_
  rintro e w2 ⟨rfl, b2, h2, h3, h4⟩
  have k2 : Hid (Wt w2 g b2) := h2
  have k3 : Hid (Fr (fun k => k = g) w w2) := h3
  have k4 : Hid (b2 = false → b = false ∧ Tr.Ok x) := h4
  clear h2 h3 h4
  go_wp2_with fail
  refine (see_c g y b2 w2 k2.out hy).mono ?_
  rintro e w3 ⟨rfl, b3, h2, h3, h4⟩
  have hE : Hid (∃ b', Wt w3 g b' ∧ Fr (fun k => k = g) w w3 ∧ (b' = false → b = false ∧ Tr.okc (x, y))) := ⟨b3, h2, k3.out.then h3, fun h => ⟨(k4.out (h4 h).1).1, (k4.out (h4 h).1).2, (h4 h).2⟩⟩
  clear h2 h3 h4
  go_wp2_with fail
  go_ret
  exact ⟨rfl, hE.out⟩
set_option maxHeartbeats 1000000 in
theorem wadd_c (g x y u v : Nat) (b : Bool) (w : World) (hW : Wt w g b) :
    Calls Tryd.prog 57 #[.pointer (some ⟨g, 0, none⟩), .complex .f64 x y, .complex .f64 u v] w (WC g b w (adc (x, y) (u, v)) (Tr.okc (adc (x, y) (u, v)))) := by
  have hWH : Hid (Wt w g b) := hW
  clear hW
  go_enter Tryd.func57, Tryd.ntmps57
  go_wp2_with fail
  refine (wsum_c g x u b w hWH.out).mono ?_
  rintro e w2 ⟨x2, b2, rfl, l2, e2, h2, h3, h4⟩
  have k2 : Hid (Wt w2 g b2) := h2
  have k3 : Hid (Fr (fun k => k = g) w w2) := h3
  have k4 : Hid (b2 = false → b = false ∧ Tr.Ok (co .add x u)) := h4
  have ke : Hid (bt x2 = co .add x u) := e2
  clear h2 h3 h4 e2
  go_wp2_with fail
  refine (wsum_c g y v b2 w2 k2.out).mono ?_
  rintro e w3 ⟨x3, b3, rfl, l3, e3, h2, h3, h4⟩
  have hE : Hid (WC g b w (adc (x, y) (u, v)) (Tr.okc (adc (x, y) (u, v))) (.returned (.complex .f64 x2 x3)) w3) := ⟨x2, x3, b3, rfl, l2, l3, ⟨ke.out.trans (bt_co ..).symm, e3.trans (bt_co ..).symm⟩, h2, k3.out.then h3, fun h => ⟨(k4.out (h4 h).1).1, (k4.out (h4 h).1).2, (h4 h).2⟩⟩
  clear h2 h3 h4 e3
  go_wp2_with fail
  go_ret
  exact hE.out
set_option maxHeartbeats 2000000 in
theorem wmul_c (g x y u v : Nat) (b : Bool) (w : World) (hW : Wt w g b) (hx : x < 18446744073709551616) (hy : y < 18446744073709551616) (hu : u < 18446744073709551616) (hv : v < 18446744073709551616) :
    Calls Tryd.prog 56 #[.pointer (some ⟨g, 0, none⟩), .complex .f64 x y, .complex .f64 u v] w (WC g b w (mlc (x, y) (u, v)) (Tr.Cm (x, y) (u, v))) := by
  have hWH : Hid (Wt w g b) := hW
  clear hW
  go_enter Tryd.func56, Tryd.ntmps56
  go_wp2_with fail
  refine (wproduct_c g x u b w hWH.out hx hu).mono ?_
  rintro e w2 ⟨p, b2, rfl, l2, e2, h2, h3, h4⟩
  have k2 : Hid (Wt w2 g b2) := h2
  have f2 : Hid (Fr (fun k => k = g) w w2) := h3
  have c2 : Hid (b2 = false → b = false ∧ Tr.Vm x u) := h4
  have d2 : Hid (bt p = co .mul x u) := e2
  clear h2 h3 h4 e2
  go_wp2_with fail
  refine (wproduct_c g y v b2 w2 k2.out hy hv).mono ?_
  rintro e w3 ⟨q, b3, rfl, l3, e3, h2, h3, h4⟩
  have k3 : Hid (Wt w3 g b3) := h2
  have f3 : Hid (Fr (fun k => k = g) w w3) := f2.out.then h3
  have c3 : Hid (b3 = false → b2 = false ∧ Tr.Vm y v) := h4
  have d3 : Hid (bt q = co .mul y v) := e3
  clear h2 h3 h4 e3
  go_wp2_with fail
  refine (wproduct_c g x v b3 w3 k3.out hx hv).mono ?_
  rintro e w4 ⟨r, b4, rfl, l4, e4, h2, h3, h4⟩
  have k4 : Hid (Wt w4 g b4) := h2
  have f4 : Hid (Fr (fun k => k = g) w w4) := f3.out.then h3
  have c4 : Hid (b4 = false → b3 = false ∧ Tr.Vm x v) := h4
  have d4 : Hid (bt r = co .mul x v) := e4
  clear h2 h3 h4 e4
  go_wp2_with fail
  refine (wproduct_c g y u b4 w4 k4.out hy hu).mono ?_
  rintro e w5 ⟨s, b5, rfl, l5, e5, h2, h3, h4⟩
  have k5 : Hid (Wt w5 g b5) := h2
  have f5 : Hid (Fr (fun k => k = g) w w5) := f4.out.then h3
  have c5 : Hid (b5 = false → b4 = false ∧ Tr.Vm y u) := h4
  have d5 : Hid (bt s = co .mul y u) := e5
  clear h2 h3 h4 e5
  go_wp2_with fail
  refine (wless_c g p q b5 w5 k5.out).mono ?_
  rintro e w6 ⟨z1, b6, rfl, l6, e6, h2, h3, h4⟩
  have k6 : Hid (Wt w6 g b6) := h2
  have f6 : Hid (Fr (fun k => k = g) w w6) := f5.out.then h3
  have t6 : Hid (co .sub p q = mulRe x y u v) := by
    show _ = _
    unfold mulRe
    exact co_of (d2.out.trans (bt_co ..).symm) (d3.out.trans (bt_co ..).symm)
  have c6 : Hid (b6 = false → b5 = false ∧ Tr.Ok (mulRe x y u v)) := fun h => ⟨(h4 h).1, by rw [← t6.out]; exact (h4 h).2⟩
  have d6 : Hid (bt z1 = mulRe x y u v) := by show _ = _; rw [← t6.out]; exact e6
  clear h2 h3 h4 e6
  go_wp2_with fail
  refine (wsum_c g r s b6 w6 k6.out).mono ?_
  rintro e w7 ⟨z2, b7, rfl, l7, e7, h2, h3, h4⟩
  have t7 : Hid (co .add r s = mulIm x y u v) := by
    show _ = _
    unfold mulIm
    exact co_of (d4.out.trans (bt_co ..).symm) (d5.out.trans (bt_co ..).symm)
  have hE : Hid (WC g b w (mlc (x, y) (u, v)) (Tr.Cm (x, y) (u, v)) (.returned (.complex .f64 z1 z2)) w7) := by
    refine ⟨z1, z2, b7, rfl, l6, l7, ⟨d6.out.trans (bt_mulRe ..).symm, ?_⟩, h2, f6.out.then h3, fun h => ?_⟩
    · show bt z2 = bt (mulIm x y u v)
      rw [bt_mulIm, ← t7.out]; exact e7
    · have g7 := h4 h
      have g6 := c6.out g7.1
      have g5 := c5.out g6.1
      have g4 := c4.out g5.1
      have g3 := c3.out g4.1
      have g2 := c2.out g3.1
      refine ⟨g2.1, g2.2, g3.2, g4.2, g5.2, g6.2, ?_⟩
      show Tr.Ok (mulIm x y u v)
      rw [← t7.out]; exact g7.2
  clear h2 h3 h4 e7
  go_wp2_with fail
  go_ret
  exact hE.out
end Go.Proofs.YtehaokdjdhejlaaDoor
