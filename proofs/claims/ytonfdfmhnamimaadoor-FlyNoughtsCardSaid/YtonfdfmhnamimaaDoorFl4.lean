/-
  timbrelaw11.fixed.
-/
import Derived.Test.YtonfdfmhnamimaaDoorFl3
import Derived.Test.YtonfdfmhnamimaaDoorLow
namespace Go.Proofs.YtonfdfmhnamimaaDoor
open Flo Go.RowKit
set_option maxRecDepth 100000 in
set_option maxHeartbeats 2000000 in
theorem fixed11_c (w : World) : Calls Tryd.prog 4 #[] w fun e w' => e = .returned (.bool true) ∧ Below w.heap.size w w' := by
  have h3 := store_cx
  go_enter Tryd.func4, Tryd.ntmps4
  go_wp2_with fail
  refine (two_fixed w).mono ?_
  rintro e w1 ⟨rfl, B1⟩
  have hB1 : Hid (Below w.heap.size w w1) := B1
  clear B1
  go_wp2_with fail
  obtain ⟨wa, hwa⟩ : ∃ wa, Hid (w1.alloc (.cells #[.complex .f64 4616189618054758400 4618441417868443648, .complex .f64 13835058055282163712 13835058055282163712] 35) = wa) := ⟨_, (rfl : _ = _)⟩
  have ra : Hid (wa.heap[w1.heap.size]? = some (.cells #[.complex .f64 4616189618054758400 4618441417868443648, .complex .f64 13835058055282163712 13835058055282163712] 35 (0, 0))) := by show _ = _; rw [← hwa.out]; exact heap_alloc_new _ _
  have Ba : Hid (Below w.heap.size w wa) := by show Below _ _ _; rw [← hwa.out]; exact hB1.out.alloc hB1.out.size _
  obtain ⟨g1, hg1⟩ : ∃ g, Hid (w1.heap.size = g) := ⟨_, (rfl : _ = _)⟩
  rw [hwa.out]
  rw [hg1.out] at ra ⊢
  clear hwa hB1 hg1
  refine (four_fixed wa).mono ?_
  rintro e w2 ⟨⟨a1, a2⟩, ⟨b1, b2⟩, ⟨c1, c2⟩, ⟨d1, d2⟩, rfl, E4, B2⟩
  have rb : Hid (w2.heap[g1]? = some (.cells #[.complex .f64 4616189618054758400 4618441417868443648, .complex .f64 13835058055282163712 13835058055282163712] 35 (0, 0))) := (B2.block g1 (heap_lt ra.out)).trans ra.out
  have Bb : Hid (Below w.heap.size w w2) := blw_tr Ba.out B2
  clear B2 Ba ra
  go_wp2_with fail
  obtain ⟨wb, hwb⟩ : ∃ wb, Hid (w2.alloc (.cells #[.complex .f64 a1 a2, .complex .f64 b1 b2, .complex .f64 c1 c2, .complex .f64 d1 d2] 37) = wb) := ⟨_, (rfl : _ = _)⟩
  have r1 : Hid (wb.heap[g1]? = some (.cells #[.complex .f64 4616189618054758400 4618441417868443648, .complex .f64 13835058055282163712 13835058055282163712] 35 (0, 0))) := by show _ = _; rw [← hwb.out, Below.heap_alloc _ _ _ (heap_lt rb.out)]; exact rb.out
  have r2 : Hid (wb.heap[w2.heap.size]? = some (.cells #[.complex .f64 a1 a2, .complex .f64 b1 b2, .complex .f64 c1 c2, .complex .f64 d1 d2] 37 (0, 0))) := by show _ = _; rw [← hwb.out]; exact heap_alloc_new _ _
  have B3 : Hid (Below w.heap.size w wb) := by show Below _ _ _; rw [← hwb.out]; exact Bb.out.alloc Bb.out.size _
  obtain ⟨g2, hg2⟩ : ∃ g, Hid (w2.heap.size = g) := ⟨_, (rfl : _ = _)⟩
  rw [hwb.out]
  rw [hg2.out] at r2 ⊢
  clear hwb hg2 rb Bb
  refine (three_fixed wb).mono ?_
  rintro e w3 ⟨⟨x1, x2⟩, ⟨y1, y2⟩, ⟨z1, z2⟩, rfl, E3, B4⟩
  have r1' : Hid (w3.heap[g1]? = some (.cells #[.complex .f64 4616189618054758400 4618441417868443648, .complex .f64 13835058055282163712 13835058055282163712] 35 (0, 0))) := (B4.block g1 (heap_lt r1.out)).trans r1.out
  have r2' : Hid (w3.heap[g2]? = some (.cells #[.complex .f64 a1 a2, .complex .f64 b1 b2, .complex .f64 c1 c2, .complex .f64 d1 d2] 37 (0, 0))) := (B4.block g2 (heap_lt r2.out)).trans r2.out
  have B5 : Hid (Below w.heap.size w w3) := blw_tr B3.out B4
  clear B4 B3 r1 r2
  go_wp2_with fail
  obtain ⟨wd, hwd⟩ : ∃ wd, Hid (w3.alloc (.cells #[.complex .f64 x1 x2, .complex .f64 y1 y2, .complex .f64 z1 z2] 41) = wd) := ⟨_, (rfl : _ = _)⟩
  have q1 : Hid (wd.heap[g1]? = some (.cells #[.complex .f64 4616189618054758400 4618441417868443648, .complex .f64 13835058055282163712 13835058055282163712] 35 (0, 0))) := by show _ = _; rw [← hwd.out, Below.heap_alloc _ _ _ (heap_lt r1'.out)]; exact r1'.out
  have q2 : Hid (wd.heap[g2]? = some (.cells #[.complex .f64 a1 a2, .complex .f64 b1 b2, .complex .f64 c1 c2, .complex .f64 d1 d2] 37 (0, 0))) := by show _ = _; rw [← hwd.out, Below.heap_alloc _ _ _ (heap_lt r2'.out)]; exact r2'.out
  have q3 : Hid (wd.heap[w3.heap.size]? = some (.cells #[.complex .f64 x1 x2, .complex .f64 y1 y2, .complex .f64 z1 z2] 41 (0, 0))) := by show _ = _; rw [← hwd.out]; exact heap_alloc_new _ _
  have B6 : Hid (Below w.heap.size w wd) := by show Below _ _ _; rw [← hwd.out]; exact B5.out.alloc B5.out.size _
  obtain ⟨g3, hg3⟩ : ∃ g, Hid (w3.heap.size = g) := ⟨_, (rfl : _ = _)⟩
  rw [hwd.out]
  rw [hg3.out] at q3 ⊢
  clear hwd hg3 r1' r2' B5
  have c10 := cell_of_row wd g1 0 _ _ _ q1.out
  have c11 := cell_of_row wd g1 1 _ _ _ q1.out
  have c20 := cell_of_row wd g2 0 _ _ _ q2.out
  have c21 := cell_of_row wd g2 1 _ _ _ q2.out
  have c22 := cell_of_row wd g2 2 _ _ _ q2.out
  have c23 := cell_of_row wd g2 3 _ _ _ q2.out
  have c30 : wd.cell? ⟨g3, 0, none⟩ = some (.complex .f64 x1 x2) := cell_of_row wd g3 0 _ _ _ q3.out
  have c31 : wd.cell? ⟨g3, 1, none⟩ = some (.complex .f64 y1 y2) := cell_of_row wd g3 1 _ _ _ q3.out
  have c32 : wd.cell? ⟨g3, 2, none⟩ = some (.complex .f64 z1 z2) := cell_of_row wd g3 2 _ _ _ q3.out
  have e1 := run_neA2 4616189618054758400 4618441417868443648 13835058055282163712 13835058055282163712 4616189618054758400 4618441417868443648 13835058055282163712 13835058055282163712 (by decide +kernel) (by decide +kernel) (by decide +kernel) (by decide +kernel)
  obtain ⟨m1, m2, m3, m4, m5, m6, m7, m8⟩ := E4.out
  have e2 := run_neA4 a1 a2 b1 b2 _ _ _ _ c1 c2 d1 d2 _ _ _ _ m1 m2 m3 m4 m5 m6 m7 m8
  obtain ⟨n1, n2, n3, n4⟩ := E3.out
  clear q1 q2 q3 m1 m2 m3 m4 m5 m6 m7 m8 E3 E4
  have o1 : FloatKind.f64.format.order x1 4607182418800017408 = some .eq := beq_iff_eq.1 n1
  have o2 : FloatKind.f64.format.order x2 0 = some .eq := beq_iff_eq.1 n2
  have o3 : FloatKind.f64.format.order y1 13826050856027422720 = some .eq := beq_iff_eq.1 n3
  have o4 : FloatKind.f64.format.order z2 4605975682916830378 = some .eq := beq_iff_eq.1 n4
  clear n1 n2 n3 n4
  have hfb := run_frombits
  go_wp2_with (first | (go_at_call 13; refine (work5_c _).mono ?_; rintro _ _ ⟨rfl, rfl⟩))
  go_quiet (first | (go_at_call 15; exact (has5_c _).mono (by rintro _ _ ⟨rfl, rfl⟩; exact ⟨rfl, _, rfl⟩)))
  go_wp2_with fail
  go_ret
  exact ⟨rfl, below_drewN B6.out _⟩
end Go.Proofs.YtonfdfmhnamimaaDoor
