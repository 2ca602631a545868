/-
  math.Copysign of 0 and -1; fly.Fly of noughts; lists equal.
-/
import Derived.Test.YtonfdfmhnamimaaDoorFn1
import Derived.Deep.RegionHeld3
namespace Go.Proofs.YtonfdfmhnamimaaDoor
open Flo Go.RowKit
set_option maxHeartbeats 400000 in
theorem copysign_c (w : World) : Calls Tryd.prog 5 #[.float .f64 0, .float .f64 13830554455654793216] w fun e w' => e = .returned (.float .f64 9223372036854775808) ∧ w = w' := by
  have h1 := run_frombits
  have h2 := run_tobits
  go_enter Tryd.func5, Tryd.ntmps5
  go_wp2
  go_ret
  exact ⟨by kernel_rfl, rfl⟩
set_option maxRecDepth 100000 in
set_option maxHeartbeats 4000000 in
theorem fly2_z {b off cap a1 a2 b1 b2 : Nat} (w : World) (hlt : Hid (b < w.heap.size)) (k0 : w.cell? ⟨b, off, none⟩ = some (.complex .f64 a1 a2)) (k1 : w.cell? ⟨b, off + 1, none⟩ = some (.complex .f64 b1 b2)) (ha : Hid (Nz (a1, a2))) (hb : Hid (Nz (b1, b2))) :
    Calls Tryd.prog 6 #[.slice (some ⟨b, off, none⟩) 2 cap] w fun e w' => ∃ g x1 x2 y1 y2, e = .returned (.tuple #[.slice (some ⟨g, 0, none⟩) 2 2, .nilIface]) ∧ Hid (w'.heap[g]? = some (.cells #[.complex .f64 x1 x2, .complex .f64 y1 y2] 35 (0, 0))) ∧ Hid (Nz (x1, x2) ∧ Nz (y1, y2)) ∧ Below w.heap.size w w' := by
  have h3 := store_cx
  go_enter Tryd.func6, Tryd.ntmps6
  go_upto_region 3 with fail
  go_region_held3 (fun X => X.cell? ⟨b, off, none⟩ = some (.complex .f64 a1 a2) ∧ X.cell? ⟨b, off + 1, none⟩ = some (.complex .f64 b1 b2)) (go_keep) ((first
    | (go_at_call 9
       refine (two_z ha.out hb.out _).mono ?_
       rintro _ w1 ⟨x1, x2, y1, y2, rfl, hz, B1⟩
       have r1 : Hid (w1.heap[w.heap.size]? = some (.cells #[.complex .f64 0 0, .complex .f64 0 0] 35 (0, 0))) := (B1.block w.heap.size (by simp)).trans (heap_alloc_new w _)
       have hB1 : Hid (Below w.heap.size w w1) := (below_drewN ((Below.refl w.heap.size w).alloc (Nat.le_refl _) _) 1).trans (B1.mono (by simp))
       have dd0 : w1.cell? ⟨b, off, none⟩ = some (.complex .f64 a1 a2) := (hB1.out.cell (p := ⟨b, off, none⟩) hlt.out).trans k0
       have dd1 : w1.cell? ⟨b, off + 1, none⟩ = some (.complex .f64 b1 b2) := (hB1.out.cell (p := ⟨b, off + 1, none⟩) hlt.out).trans k1
       have z0 : w1.cell? ⟨w.heap.size, 0, none⟩ = some (.complex .f64 0 0) := cell_of_row _ _ _ _ _ _ r1.out
       have f0 : w1.frozen? ⟨w.heap.size, 0, none⟩ = false := frozen_of_row _ _ _ _ _ r1.out
       have z1 : w1.cell? ⟨w.heap.size, 1, none⟩ = some (.complex .f64 0 0) := cell_of_row _ _ _ _ _ _ r1.out
       have f1 : w1.frozen? ⟨w.heap.size, 1, none⟩ = false := frozen_of_row _ _ _ _ _ r1.out
       have q0 : ¬ b = w.heap.size := Nat.ne_of_lt hlt.out
       have q1 : ¬ w.heap.size = b := fun e => q0 e.symm
       clear B1)
    | (go_at_call 9
       refine (two_z ha.out hb.out _).mono ?_
       rintro _ w1 ⟨x1, x2, y1, y2, rfl, hz, B1⟩
       have hB1 : Hid (Below w.heap.size w w1) := (below_drewN (Below.refl w.heap.size w) 1).trans B1
       have dd0 : w1.cell? ⟨b, off, none⟩ = some (.complex .f64 a1 a2) := (hB1.out.cell (p := ⟨b, off, none⟩) hlt.out).trans k0
       have dd1 : w1.cell? ⟨b, off + 1, none⟩ = some (.complex .f64 b1 b2) := (hB1.out.cell (p := ⟨b, off + 1, none⟩) hlt.out).trans k1
       have q0 : ¬ b = w1.heap.size := Nat.ne_of_lt (Nat.lt_of_lt_of_le hlt.out hB1.out.size)
       have q1 : ¬ w1.heap.size = b := fun e => q0 e.symm
       clear B1)))
  · go_wp2_with fail
    go_ret2
    exact ⟨_, _, _, _, _, rfl, heap_alloc_new _ _, hz, hB1.out.alloc hB1.out.size _⟩
  · go_wp2_with fail
    go_ret2
    exact ⟨_, _, _, _, _, rfl, (heap_setCell_same _ _ _ _ _ _ (heap_setCell_same _ _ _ _ _ _ r1.out)), hz, ((hB1.out.setCell (p := ⟨w.heap.size, 0, none⟩) (Nat.le_refl _) _).setCell (p := ⟨w.heap.size, 1, none⟩) (Nat.le_refl _) _)⟩
set_option maxRecDepth 100000 in
set_option maxHeartbeats 4000000 in
theorem fly3_z {b off cap a1 a2 b1 b2 c1 c2 : Nat} (w : World) (hlt : Hid (b < w.heap.size)) (k0 : w.cell? ⟨b, off, none⟩ = some (.complex .f64 a1 a2)) (k1 : w.cell? ⟨b, off + 1, none⟩ = some (.complex .f64 b1 b2)) (k2 : w.cell? ⟨b, off + 2, none⟩ = some (.complex .f64 c1 c2)) (ha : Hid (Nz (a1, a2))) (hb : Hid (Nz (b1, b2))) (hc : Hid (Nz (c1, c2))) :
    Calls Tryd.prog 6 #[.slice (some ⟨b, off, none⟩) 3 cap] w fun e w' => ∃ g x1 x2 y1 y2 u1 u2, e = .returned (.tuple #[.slice (some ⟨g, 0, none⟩) 3 3, .nilIface]) ∧ Hid (w'.heap[g]? = some (.cells #[.complex .f64 x1 x2, .complex .f64 y1 y2, .complex .f64 u1 u2] 41 (0, 0))) ∧ Hid (Nz (x1, x2) ∧ Nz (y1, y2) ∧ Nz (u1, u2)) ∧ Below w.heap.size w w' := by
  have h3 := store_cx
  go_enter Tryd.func6, Tryd.ntmps6
  go_upto_region 6 with fail
  go_region_held3 (fun X => X.cell? ⟨b, off, none⟩ = some (.complex .f64 a1 a2) ∧ X.cell? ⟨b, off + 1, none⟩ = some (.complex .f64 b1 b2) ∧ X.cell? ⟨b, off + 2, none⟩ = some (.complex .f64 c1 c2)) (go_keep) ((first
    | (go_at_call 12
       refine (three_z ha.out hb.out hc.out _).mono ?_
       rintro _ w1 ⟨x1, x2, y1, y2, u1, u2, rfl, hz, B1⟩
       have r1 : Hid (w1.heap[w.heap.size]? = some (.cells #[.complex .f64 0 0, .complex .f64 0 0, .complex .f64 0 0] 41 (0, 0))) := (B1.block w.heap.size (by simp)).trans (heap_alloc_new w _)
       have hB1 : Hid (Below w.heap.size w w1) := (below_drewN ((Below.refl w.heap.size w).alloc (Nat.le_refl _) _) 1).trans (B1.mono (by simp))
       have dd0 : w1.cell? ⟨b, off, none⟩ = some (.complex .f64 a1 a2) := (hB1.out.cell (p := ⟨b, off, none⟩) hlt.out).trans k0
       have dd1 : w1.cell? ⟨b, off + 1, none⟩ = some (.complex .f64 b1 b2) := (hB1.out.cell (p := ⟨b, off + 1, none⟩) hlt.out).trans k1
       have dd2 : w1.cell? ⟨b, off + 2, none⟩ = some (.complex .f64 c1 c2) := (hB1.out.cell (p := ⟨b, off + 2, none⟩) hlt.out).trans k2
       have z0 : w1.cell? ⟨w.heap.size, 0, none⟩ = some (.complex .f64 0 0) := cell_of_row _ _ _ _ _ _ r1.out
       have f0 : w1.frozen? ⟨w.heap.size, 0, none⟩ = false := frozen_of_row _ _ _ _ _ r1.out
       have z1 : w1.cell? ⟨w.heap.size, 1, none⟩ = some (.complex .f64 0 0) := cell_of_row _ _ _ _ _ _ r1.out
       have f1 : w1.frozen? ⟨w.heap.size, 1, none⟩ = false := frozen_of_row _ _ _ _ _ r1.out
       have z2 : w1.cell? ⟨w.heap.size, 2, none⟩ = some (.complex .f64 0 0) := cell_of_row _ _ _ _ _ _ r1.out
       have f2 : w1.frozen? ⟨w.heap.size, 2, none⟩ = false := frozen_of_row _ _ _ _ _ r1.out
       have q0 : ¬ b = w.heap.size := Nat.ne_of_lt hlt.out
       have q1 : ¬ w.heap.size = b := fun e => q0 e.symm
       clear B1)
    | (go_at_call 12
       refine (three_z ha.out hb.out hc.out _).mono ?_
       rintro _ w1 ⟨x1, x2, y1, y2, u1, u2, rfl, hz, B1⟩
       have hB1 : Hid (Below w.heap.size w w1) := (below_drewN (Below.refl w.heap.size w) 1).trans B1
       have dd0 : w1.cell? ⟨b, off, none⟩ = some (.complex .f64 a1 a2) := (hB1.out.cell (p := ⟨b, off, none⟩) hlt.out).trans k0
       have dd1 : w1.cell? ⟨b, off + 1, none⟩ = some (.complex .f64 b1 b2) := (hB1.out.cell (p := ⟨b, off + 1, none⟩) hlt.out).trans k1
       have dd2 : w1.cell? ⟨b, off + 2, none⟩ = some (.complex .f64 c1 c2) := (hB1.out.cell (p := ⟨b, off + 2, none⟩) hlt.out).trans k2
       have q0 : ¬ b = w1.heap.size := Nat.ne_of_lt (Nat.lt_of_lt_of_le hlt.out hB1.out.size)
       have q1 : ¬ w1.heap.size = b := fun e => q0 e.symm
       clear B1)))
  · go_wp2_with fail
    go_ret2
    exact ⟨_, _, _, _, _, _, _, rfl, heap_alloc_new _ _, hz, hB1.out.alloc hB1.out.size _⟩
  · go_wp2_with fail
    go_ret2
    exact ⟨_, _, _, _, _, _, _, rfl, (heap_setCell_same _ _ _ _ _ _ (heap_setCell_same _ _ _ _ _ _ (heap_setCell_same _ _ _ _ _ _ r1.out))), hz, (((hB1.out.setCell (p := ⟨w.heap.size, 0, none⟩) (Nat.le_refl _) _).setCell (p := ⟨w.heap.size, 1, none⟩) (Nat.le_refl _) _).setCell (p := ⟨w.heap.size, 2, none⟩) (Nat.le_refl _) _)⟩
set_option maxRecDepth 100000 in
set_option maxHeartbeats 4000000 in
theorem fly4_z {b off cap a1 a2 b1 b2 c1 c2 d1 d2 : Nat} (w : World) (hlt : Hid (b < w.heap.size)) (k0 : w.cell? ⟨b, off, none⟩ = some (.complex .f64 a1 a2)) (k1 : w.cell? ⟨b, off + 1, none⟩ = some (.complex .f64 b1 b2)) (k2 : w.cell? ⟨b, off + 2, none⟩ = some (.complex .f64 c1 c2)) (k3 : w.cell? ⟨b, off + 3, none⟩ = some (.complex .f64 d1 d2)) (ha : Hid (Nz (a1, a2))) (hb : Hid (Nz (b1, b2))) (hc : Hid (Nz (c1, c2))) (hd : Hid (Nz (d1, d2))) :
    Calls Tryd.prog 6 #[.slice (some ⟨b, off, none⟩) 4 cap] w fun e w' => ∃ g x1 x2 y1 y2 u1 u2 v1 v2, e = .returned (.tuple #[.slice (some ⟨g, 0, none⟩) 4 4, .nilIface]) ∧ Hid (w'.heap[g]? = some (.cells #[.complex .f64 x1 x2, .complex .f64 y1 y2, .complex .f64 u1 u2, .complex .f64 v1 v2] 37 (0, 0))) ∧ Hid (Nz (x1, x2) ∧ Nz (y1, y2) ∧ Nz (u1, u2) ∧ Nz (v1, v2)) ∧ Below w.heap.size w w' := by
  have h3 := store_cx
  go_enter Tryd.func6, Tryd.ntmps6
  go_upto_region 9 with fail
  go_region_held3 (fun X => X.cell? ⟨b, off, none⟩ = some (.complex .f64 a1 a2) ∧ X.cell? ⟨b, off + 1, none⟩ = some (.complex .f64 b1 b2) ∧ X.cell? ⟨b, off + 2, none⟩ = some (.complex .f64 c1 c2) ∧ X.cell? ⟨b, off + 3, none⟩ = some (.complex .f64 d1 d2)) (go_keep) ((first
    | (go_at_call 10
       refine (four_z ha.out hb.out hc.out hd.out _).mono ?_
       rintro _ w1 ⟨x1, x2, y1, y2, u1, u2, v1, v2, rfl, hz, B1⟩
       have r1 : Hid (w1.heap[w.heap.size]? = some (.cells #[.complex .f64 0 0, .complex .f64 0 0, .complex .f64 0 0, .complex .f64 0 0] 37 (0, 0))) := (B1.block w.heap.size (by simp)).trans (heap_alloc_new w _)
       have hB1 : Hid (Below w.heap.size w w1) := (below_drewN ((Below.refl w.heap.size w).alloc (Nat.le_refl _) _) 1).trans (B1.mono (by simp))
       have dd0 : w1.cell? ⟨b, off, none⟩ = some (.complex .f64 a1 a2) := (hB1.out.cell (p := ⟨b, off, none⟩) hlt.out).trans k0
       have dd1 : w1.cell? ⟨b, off + 1, none⟩ = some (.complex .f64 b1 b2) := (hB1.out.cell (p := ⟨b, off + 1, none⟩) hlt.out).trans k1
       have dd2 : w1.cell? ⟨b, off + 2, none⟩ = some (.complex .f64 c1 c2) := (hB1.out.cell (p := ⟨b, off + 2, none⟩) hlt.out).trans k2
       have dd3 : w1.cell? ⟨b, off + 3, none⟩ = some (.complex .f64 d1 d2) := (hB1.out.cell (p := ⟨b, off + 3, none⟩) hlt.out).trans k3
       have z0 : w1.cell? ⟨w.heap.size, 0, none⟩ = some (.complex .f64 0 0) := cell_of_row _ _ _ _ _ _ r1.out
       have f0 : w1.frozen? ⟨w.heap.size, 0, none⟩ = false := frozen_of_row _ _ _ _ _ r1.out
       have z1 : w1.cell? ⟨w.heap.size, 1, none⟩ = some (.complex .f64 0 0) := cell_of_row _ _ _ _ _ _ r1.out
       have f1 : w1.frozen? ⟨w.heap.size, 1, none⟩ = false := frozen_of_row _ _ _ _ _ r1.out
       have z2 : w1.cell? ⟨w.heap.size, 2, none⟩ = some (.complex .f64 0 0) := cell_of_row _ _ _ _ _ _ r1.out
       have f2 : w1.frozen? ⟨w.heap.size, 2, none⟩ = false := frozen_of_row _ _ _ _ _ r1.out
       have z3 : w1.cell? ⟨w.heap.size, 3, none⟩ = some (.complex .f64 0 0) := cell_of_row _ _ _ _ _ _ r1.out
       have f3 : w1.frozen? ⟨w.heap.size, 3, none⟩ = false := frozen_of_row _ _ _ _ _ r1.out
       have q0 : ¬ b = w.heap.size := Nat.ne_of_lt hlt.out
       have q1 : ¬ w.heap.size = b := fun e => q0 e.symm
       clear B1)
    | (go_at_call 10
       refine (four_z ha.out hb.out hc.out hd.out _).mono ?_
       rintro _ w1 ⟨x1, x2, y1, y2, u1, u2, v1, v2, rfl, hz, B1⟩
       have hB1 : Hid (Below w.heap.size w w1) := (below_drewN (Below.refl w.heap.size w) 1).trans B1
       have dd0 : w1.cell? ⟨b, off, none⟩ = some (.complex .f64 a1 a2) := (hB1.out.cell (p := ⟨b, off, none⟩) hlt.out).trans k0
       have dd1 : w1.cell? ⟨b, off + 1, none⟩ = some (.complex .f64 b1 b2) := (hB1.out.cell (p := ⟨b, off + 1, none⟩) hlt.out).trans k1
       have dd2 : w1.cell? ⟨b, off + 2, none⟩ = some (.complex .f64 c1 c2) := (hB1.out.cell (p := ⟨b, off + 2, none⟩) hlt.out).trans k2
       have dd3 : w1.cell? ⟨b, off + 3, none⟩ = some (.complex .f64 d1 d2) := (hB1.out.cell (p := ⟨b, off + 3, none⟩) hlt.out).trans k3
       have q0 : ¬ b = w1.heap.size := Nat.ne_of_lt (Nat.lt_of_lt_of_le hlt.out hB1.out.size)
       have q1 : ¬ w1.heap.size = b := fun e => q0 e.symm
       clear B1)))
  · go_wp2_with fail
    go_ret2
    exact ⟨_, _, _, _, _, _, _, _, _, rfl, heap_alloc_new _ _, hz, hB1.out.alloc hB1.out.size _⟩
  · go_wp2_with fail
    go_ret2
    exact ⟨_, _, _, _, _, _, _, _, _, rfl, (heap_setCell_same _ _ _ _ _ _ (heap_setCell_same _ _ _ _ _ _ (heap_setCell_same _ _ _ _ _ _ (heap_setCell_same _ _ _ _ _ _ r1.out)))), hz, ((((hB1.out.setCell (p := ⟨w.heap.size, 0, none⟩) (Nat.le_refl _) _).setCell (p := ⟨w.heap.size, 1, none⟩) (Nat.le_refl _) _).setCell (p := ⟨w.heap.size, 2, none⟩) (Nat.le_refl _) _).setCell (p := ⟨w.heap.size, 3, none⟩) (Nat.le_refl _) _)⟩
set_option maxRecDepth 100000 in
set_option maxHeartbeats 4000000 in
theorem fly5_z {b off cap a1 a2 b1 b2 c1 c2 d1 d2 e1 e2 : Nat} (w : World) (hlt : Hid (b < w.heap.size)) (k0 : w.cell? ⟨b, off, none⟩ = some (.complex .f64 a1 a2)) (k1 : w.cell? ⟨b, off + 1, none⟩ = some (.complex .f64 b1 b2)) (k2 : w.cell? ⟨b, off + 2, none⟩ = some (.complex .f64 c1 c2)) (k3 : w.cell? ⟨b, off + 3, none⟩ = some (.complex .f64 d1 d2)) (k4 : w.cell? ⟨b, off + 4, none⟩ = some (.complex .f64 e1 e2)) (ha : Hid (Nz (a1, a2))) (hb : Hid (Nz (b1, b2))) (hc : Hid (Nz (c1, c2))) (hd : Hid (Nz (d1, d2))) (he : Hid (Nz (e1, e2))) :
    Calls Tryd.prog 6 #[.slice (some ⟨b, off, none⟩) 5 cap] w fun e w' => ∃ g x1 x2 y1 y2 u1 u2 v1 v2 s1 s2, e = .returned (.tuple #[.slice (some ⟨g, 0, none⟩) 5 5, .nilIface]) ∧ Hid (w'.heap[g]? = some (.cells #[.complex .f64 x1 x2, .complex .f64 y1 y2, .complex .f64 u1 u2, .complex .f64 v1 v2, .complex .f64 s1 s2] 49 (0, 0))) ∧ Hid (Nz (x1, x2) ∧ Nz (y1, y2) ∧ Nz (u1, u2) ∧ Nz (v1, v2) ∧ Nz (s1, s2)) ∧ Below w.heap.size w w' := by
  have h3 := store_cx
  go_enter Tryd.func6, Tryd.ntmps6
  go_upto_region 12 with fail
  go_region_held3 (fun X => X.cell? ⟨b, off, none⟩ = some (.complex .f64 a1 a2) ∧ X.cell? ⟨b, off + 1, none⟩ = some (.complex .f64 b1 b2) ∧ X.cell? ⟨b, off + 2, none⟩ = some (.complex .f64 c1 c2) ∧ X.cell? ⟨b, off + 3, none⟩ = some (.complex .f64 d1 d2) ∧ X.cell? ⟨b, off + 4, none⟩ = some (.complex .f64 e1 e2)) (go_keep) ((first
    | (go_at_call 17
       refine (five_z ha.out hb.out hc.out hd.out he.out _).mono ?_
       rintro _ w1 ⟨x1, x2, y1, y2, u1, u2, v1, v2, s1, s2, rfl, hz, B1⟩
       have r1 : Hid (w1.heap[w.heap.size]? = some (.cells #[.complex .f64 0 0, .complex .f64 0 0, .complex .f64 0 0, .complex .f64 0 0, .complex .f64 0 0] 49 (0, 0))) := (B1.block w.heap.size (by simp)).trans (heap_alloc_new w _)
       have hB1 : Hid (Below w.heap.size w w1) := (below_drewN ((Below.refl w.heap.size w).alloc (Nat.le_refl _) _) 1).trans (B1.mono (by simp))
       have dd0 : w1.cell? ⟨b, off, none⟩ = some (.complex .f64 a1 a2) := (hB1.out.cell (p := ⟨b, off, none⟩) hlt.out).trans k0
       have dd1 : w1.cell? ⟨b, off + 1, none⟩ = some (.complex .f64 b1 b2) := (hB1.out.cell (p := ⟨b, off + 1, none⟩) hlt.out).trans k1
       have dd2 : w1.cell? ⟨b, off + 2, none⟩ = some (.complex .f64 c1 c2) := (hB1.out.cell (p := ⟨b, off + 2, none⟩) hlt.out).trans k2
       have dd3 : w1.cell? ⟨b, off + 3, none⟩ = some (.complex .f64 d1 d2) := (hB1.out.cell (p := ⟨b, off + 3, none⟩) hlt.out).trans k3
       have dd4 : w1.cell? ⟨b, off + 4, none⟩ = some (.complex .f64 e1 e2) := (hB1.out.cell (p := ⟨b, off + 4, none⟩) hlt.out).trans k4
       have z0 : w1.cell? ⟨w.heap.size, 0, none⟩ = some (.complex .f64 0 0) := cell_of_row _ _ _ _ _ _ r1.out
       have f0 : w1.frozen? ⟨w.heap.size, 0, none⟩ = false := frozen_of_row _ _ _ _ _ r1.out
       have z1 : w1.cell? ⟨w.heap.size, 1, none⟩ = some (.complex .f64 0 0) := cell_of_row _ _ _ _ _ _ r1.out
       have f1 : w1.frozen? ⟨w.heap.size, 1, none⟩ = false := frozen_of_row _ _ _ _ _ r1.out
       have z2 : w1.cell? ⟨w.heap.size, 2, none⟩ = some (.complex .f64 0 0) := cell_of_row _ _ _ _ _ _ r1.out
       have f2 : w1.frozen? ⟨w.heap.size, 2, none⟩ = false := frozen_of_row _ _ _ _ _ r1.out
       have z3 : w1.cell? ⟨w.heap.size, 3, none⟩ = some (.complex .f64 0 0) := cell_of_row _ _ _ _ _ _ r1.out
       have f3 : w1.frozen? ⟨w.heap.size, 3, none⟩ = false := frozen_of_row _ _ _ _ _ r1.out
       have z4 : w1.cell? ⟨w.heap.size, 4, none⟩ = some (.complex .f64 0 0) := cell_of_row _ _ _ _ _ _ r1.out
       have f4 : w1.frozen? ⟨w.heap.size, 4, none⟩ = false := frozen_of_row _ _ _ _ _ r1.out
       have q0 : ¬ b = w.heap.size := Nat.ne_of_lt hlt.out
       have q1 : ¬ w.heap.size = b := fun e => q0 e.symm
       clear B1)
    | (go_at_call 17
       refine (five_z ha.out hb.out hc.out hd.out he.out _).mono ?_
       rintro _ w1 ⟨x1, x2, y1, y2, u1, u2, v1, v2, s1, s2, rfl, hz, B1⟩
       have hB1 : Hid (Below w.heap.size w w1) := (below_drewN (Below.refl w.heap.size w) 1).trans B1
       have dd0 : w1.cell? ⟨b, off, none⟩ = some (.complex .f64 a1 a2) := (hB1.out.cell (p := ⟨b, off, none⟩) hlt.out).trans k0
       have dd1 : w1.cell? ⟨b, off + 1, none⟩ = some (.complex .f64 b1 b2) := (hB1.out.cell (p := ⟨b, off + 1, none⟩) hlt.out).trans k1
       have dd2 : w1.cell? ⟨b, off + 2, none⟩ = some (.complex .f64 c1 c2) := (hB1.out.cell (p := ⟨b, off + 2, none⟩) hlt.out).trans k2
       have dd3 : w1.cell? ⟨b, off + 3, none⟩ = some (.complex .f64 d1 d2) := (hB1.out.cell (p := ⟨b, off + 3, none⟩) hlt.out).trans k3
       have dd4 : w1.cell? ⟨b, off + 4, none⟩ = some (.complex .f64 e1 e2) := (hB1.out.cell (p := ⟨b, off + 4, none⟩) hlt.out).trans k4
       have q0 : ¬ b = w1.heap.size := Nat.ne_of_lt (Nat.lt_of_lt_of_le hlt.out hB1.out.size)
       have q1 : ¬ w1.heap.size = b := fun e => q0 e.symm
       clear B1)))
  · go_wp2_with fail
    go_ret2
    exact ⟨_, _, _, _, _, _, _, _, _, _, _, rfl, heap_alloc_new _ _, hz, hB1.out.alloc hB1.out.size _⟩
  · go_wp2_with fail
    go_ret2
    exact ⟨_, _, _, _, _, _, _, _, _, _, _, rfl, (heap_setCell_same _ _ _ _ _ _ (heap_setCell_same _ _ _ _ _ _ (heap_setCell_same _ _ _ _ _ _ (heap_setCell_same _ _ _ _ _ _ (heap_setCell_same _ _ _ _ _ _ r1.out))))), hz, (((((hB1.out.setCell (p := ⟨w.heap.size, 0, none⟩) (Nat.le_refl _) _).setCell (p := ⟨w.heap.size, 1, none⟩) (Nat.le_refl _) _).setCell (p := ⟨w.heap.size, 2, none⟩) (Nat.le_refl _) _).setCell (p := ⟨w.heap.size, 3, none⟩) (Nat.le_refl _) _).setCell (p := ⟨w.heap.size, 4, none⟩) (Nat.le_refl _) _)⟩
end Go.Proofs.YtonfdfmhnamimaaDoor
