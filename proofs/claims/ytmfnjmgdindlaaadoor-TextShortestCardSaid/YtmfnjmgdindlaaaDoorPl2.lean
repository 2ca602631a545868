/-
  Plain at minus one and a half: viewOf, nearest, shortest.
-/
import Derived.Test.YtmfnjmgdindlaaaDoorPl1
import Derived.Test.YtmfnjmgdindlaaaDoorQc
namespace Go.Proofs.YtmfnjmgdindlaaaDoor
open Flo Go.RowKit
theorem tens_p (k p : Nat) (w : World) (hk : k ≤ 19) (hp : p = 10 ^ k) :
    Calls Tryd.prog 43 #[.int .i64 k] w fun e w' => e = .returned (.int .u64 (p : Int)) ∧ w = w' := by
  refine (tens_c k w hk).mono ?_
  rintro e w' ⟨q, rfl, hq, rfl⟩
  exact ⟨by rw [hp, hq.out], rfl⟩
theorem tens18 (w : World) : Calls Tryd.prog 43 #[.int .i64 18] w fun e w' => e = .returned (.int .u64 1000000000000000000) ∧ w = w' := tens_p 18 1000000000000000000 w (by decide) (by decide)
theorem tens17 (w : World) : Calls Tryd.prog 43 #[.int .i64 17] w fun e w' => e = .returned (.int .u64 100000000000000000) ∧ w = w' := tens_p 17 100000000000000000 w (by decide) (by decide)
theorem len53 (w : World) : Calls Tryd.prog 40 #[.int .u64 6755399441055744] w fun e w' => e = .returned (.int .i64 53) ∧ w = w' := len64_c 6755399441055744 w (by decide) (by decide)
set_option maxRecDepth 100000 in
set_option maxHeartbeats 1000000 in
theorem viewOf_p (w : World) :
    Calls Tryd.prog 26 #[.int .u64 4609434218613702656] w fun e w' => e = .returned (.agg #[.int .i64 (-17), .int .u64 150000000000000000, .bool true, .int .u64 149999999999999989, .int .u64 150000000000000011]) ∧ Below w.heap.size w w' := by
  have hbits : bits .or .u64 (bits .and .u64 4609434218613702656 4503599627370495) 4503599627370496 = 6755399441055744 := by kernel_rfl
  go_enter Tryd.func26, Tryd.ntmps26
  go_wp2_with (first
    | (go_at_call 39; go_in)
    | (go_at_call 40; refine (len53 _).mono ?_; rintro e w' ⟨rfl, rfl⟩)
    | (go_at_call 42; go_in))
  generalize hW : w.alloc (.cells #[.int .i64 0, .int .u64 0, .bool false, .int .u64 0, .int .u64 0] 52) = W0
  have kr0 : Hid (Cells W0 w.heap.size [.int .i64 0, .int .u64 0, .bool false, .int .u64 0, .int .u64 0]) := by rw [← hW]; exact Cells.new _ _ _
  have bw0 : Hid (Below w.heap.size w W0) := by rw [← hW]; exact (Below.refl _ _).alloc (Nat.le_refl _) _
  clear hW
  refine (viewAt_p W0).mono ?_
  rintro e w1 ⟨rfl, hb1⟩
  have kr1 : Hid (Cells w1 w.heap.size [.int .i64 0, .int .u64 0, .bool false, .int .u64 0, .int .u64 0]) := kr0.out.below hb1
  have bw1 : Hid (Below w.heap.size w w1) := bw0.out.trans (hb1.mono bw0.out.size)
  have hrl : Hid (w.heap.size < w1.heap.size) := Nat.lt_of_lt_of_le kr0.out.lt hb1.size
  clear hb1 kr0 bw0
  go_wp2_with fail
  generalize hX : w1.alloc (.cells #[.int .i64 (-17), .int .u64 150000000000000000, .bool true, .int .u64 149999999999999989, .int .u64 150000000000000011] 52) = X
  have kv : Hid (Cells X w1.heap.size [.int .i64 (-17), .int .u64 150000000000000000, .bool true, .int .u64 149999999999999989, .int .u64 150000000000000011]) := by rw [← hX]; exact Cells.new _ _ _
  have kr : Hid (Cells X w.heap.size [.int .i64 0, .int .u64 0, .bool false, .int .u64 0, .int .u64 0]) := by rw [← hX]; exact kr1.out.alloc _
  have bw : Hid (Below w.heap.size w X) := by rw [← hX]; exact bw1.out.alloc bw1.out.size _
  clear hX kr1 bw1
  have v0 := kv.out.at' 0 _ rfl
  have v1 := kv.out.at' 1 _ rfl
  have v2 := kv.out.at' 2 _ rfl
  have v3 := kv.out.at' 3 _ rfl
  have v4 := kv.out.at' 4 _ rfl
  go_quiet ((go_at_call 43; exact Calls.quiet_of_same ((tens18 _).mono fun _ _ h => ⟨h.1, h.2.symm⟩)))
  have r0 := kr.out.at' 0 _ rfl
  have r1 := kr.out.at' 1 _ rfl
  have r2 := kr.out.at' 2 _ rfl
  have r3 := kr.out.at' 3 _ rfl
  have r4 := kr.out.at' 4 _ rfl
  have q0 := kr.out.free 0
  have q1 := kr.out.free 1
  have q2 := kr.out.free 2
  have q3 := kr.out.free 3
  have q4 := kr.out.free 4
  have kd : Hid (Cells (X.drewN nq) w.heap.size [.int .i64 0, .int .u64 0, .bool false, .int .u64 0, .int .u64 0]) := ⟨kr.out.lt, kr.out.at', kr.out.free⟩
  go_wp2
  generalize hX : ((((((X.drewN nq).setCell ⟨w.heap.size, 0, none⟩ (.int .i64 (-17))).setCell ⟨w.heap.size, 1, none⟩ (.int .u64 150000000000000000)).setCell ⟨w.heap.size, 2, none⟩ (.bool true)).setCell ⟨w.heap.size, 3, none⟩ (.int .u64 149999999999999989)).setCell ⟨w.heap.size, 4, none⟩ (.int .u64 150000000000000011)) = Z
  have kz : Cells Z w.heap.size [.int .i64 (-17), .int .u64 150000000000000000, .bool true, .int .u64 149999999999999989, .int .u64 150000000000000011] := by rw [← hX]; exact (((((kd.out.set 0 (.int .i64 (-17)) (by decide)).set 1 (.int .u64 150000000000000000) (by decide)).set 2 (.bool true) (by decide)).set 3 (.int .u64 149999999999999989) (by decide)).set 4 (.int .u64 150000000000000011) (by decide))
  have bz : Below w.heap.size w Z := by rw [← hX]; exact ((((((below_drewN bw.out nq).setCell (p := ⟨w.heap.size, 0, none⟩) (Nat.le_refl _) (.int .i64 (-17))).setCell (p := ⟨w.heap.size, 1, none⟩) (Nat.le_refl _) (.int .u64 150000000000000000)).setCell (p := ⟨w.heap.size, 2, none⟩) (Nat.le_refl _) (.bool true)).setCell (p := ⟨w.heap.size, 3, none⟩) (Nat.le_refl _) (.int .u64 149999999999999989)).setCell (p := ⟨w.heap.size, 4, none⟩) (Nat.le_refl _) (.int .u64 150000000000000011))
  clear hX
  have z0 := kz.at' 0 _ rfl
  have z1 := kz.at' 1 _ rfl
  have z2 := kz.at' 2 _ rfl
  have z3 := kz.at' 3 _ rfl
  have z4 := kz.at' 4 _ rfl
  refine bodyPost_ret (v := .agg #[.int .i64 (-17), .int .u64 150000000000000000, .bool true, .int .u64 149999999999999989, .int .u64 150000000000000011]) (by simp [results, Tryd.results26, go_sem, z0, z1, z2, z3, z4]) rfl ?_
  exact ⟨rfl, bz⟩
set_option maxRecDepth 100000 in
set_option maxHeartbeats 1000000 in
theorem nearest_a (w : World) :
    Calls Tryd.prog 45 #[.agg #[.int .i64 (-17), .int .u64 150000000000000000, .bool true, .int .u64 149999999999999989, .int .u64 150000000000000011], .int .u64 100000000000000000] w fun e w' => e = .returned (.tuple #[.int .u64 0, .bool false]) ∧ Below w.heap.size w w' := by
  go_enter Tryd.func45, Tryd.ntmps45
  go_wp2_with fail
  generalize hX : w.alloc (.cells #[.int .i64 (-17), .int .u64 150000000000000000, .bool true, .int .u64 149999999999999989, .int .u64 150000000000000011] 52) = X
  have kv : Hid (Cells X w.heap.size [.int .i64 (-17), .int .u64 150000000000000000, .bool true, .int .u64 149999999999999989, .int .u64 150000000000000011]) := by rw [← hX]; exact Cells.new _ _ _
  have bw : Hid (Below w.heap.size w X) := by rw [← hX]; exact (Below.refl _ _).alloc (Nat.le_refl _) _
  clear hX
  have v0 := kv.out.at' 0 _ rfl
  have v1 := kv.out.at' 1 _ rfl
  have v2 := kv.out.at' 2 _ rfl
  have v3 := kv.out.at' 3 _ rfl
  have v4 := kv.out.at' 4 _ rfl
  go_quiet (fail)
  go_wp2
  go_ret2
  exact ⟨rfl, below_drewN bw.out _⟩
set_option maxRecDepth 100000 in
set_option maxHeartbeats 1000000 in
theorem nearest_b (w : World) :
    Calls Tryd.prog 45 #[.agg #[.int .i64 (-17), .int .u64 150000000000000000, .bool true, .int .u64 149999999999999989, .int .u64 150000000000000011], .int .u64 10000000000000000] w fun e w' => e = .returned (.tuple #[.int .u64 150000000000000000, .bool true]) ∧ Below w.heap.size w w' := by
  go_enter Tryd.func45, Tryd.ntmps45
  go_wp2_with fail
  generalize hX : w.alloc (.cells #[.int .i64 (-17), .int .u64 150000000000000000, .bool true, .int .u64 149999999999999989, .int .u64 150000000000000011] 52) = X
  have kv : Hid (Cells X w.heap.size [.int .i64 (-17), .int .u64 150000000000000000, .bool true, .int .u64 149999999999999989, .int .u64 150000000000000011]) := by rw [← hX]; exact Cells.new _ _ _
  have bw : Hid (Below w.heap.size w X) := by rw [← hX]; exact (Below.refl _ _).alloc (Nat.le_refl _) _
  clear hX
  have v0 := kv.out.at' 0 _ rfl
  have v1 := kv.out.at' 1 _ rfl
  have v2 := kv.out.at' 2 _ rfl
  have v3 := kv.out.at' 3 _ rfl
  have v4 := kv.out.at' 4 _ rfl
  go_quiet (fail)
  go_wp2
  go_ret2
  exact ⟨rfl, below_drewN bw.out _⟩
set_option maxRecDepth 100000 in
set_option maxHeartbeats 1000000 in
theorem shortest_p (w : World) :
    Calls Tryd.prog 28 #[.agg #[.int .i64 (-17), .int .u64 150000000000000000, .bool true, .int .u64 149999999999999989, .int .u64 150000000000000011]] w fun e w' => e = .returned (.int .u64 150000000000000000) ∧ Below w.heap.size w w' := by
  go_enter Tryd.func28, Tryd.ntmps28
  go_wp2_with (go_at_call 43; refine (tens17 _).mono ?_; rintro e w' ⟨rfl, rfl⟩)
  generalize hX : w.alloc (.cells #[.int .i64 (-17), .int .u64 150000000000000000, .bool true, .int .u64 149999999999999989, .int .u64 150000000000000011] 52) = X
  have kv : Hid (Cells X w.heap.size [.int .i64 (-17), .int .u64 150000000000000000, .bool true, .int .u64 149999999999999989, .int .u64 150000000000000011]) := by rw [← hX]; exact Cells.new _ _ _
  have bw : Hid (Below w.heap.size w X) := by rw [← hX]; exact (Below.refl _ _).alloc (Nat.le_refl _) _
  clear hX
  refine (nearest_a X).mono ?_
  rintro e w1 ⟨rfl, hb1⟩
  have k1 : Hid (Cells w1 w.heap.size [.int .i64 (-17), .int .u64 150000000000000000, .bool true, .int .u64 149999999999999989, .int .u64 150000000000000011]) := kv.out.below hb1
  have b1 : Hid (Below w.heap.size w w1) := bw.out.trans (hb1.mono bw.out.size)
  clear hb1 kv bw
  have v0 := k1.out.at' 0 _ rfl
  have v1 := k1.out.at' 1 _ rfl
  have v2 := k1.out.at' 2 _ rfl
  have v3 := k1.out.at' 3 _ rfl
  have v4 := k1.out.at' 4 _ rfl
  go_wp2
  refine wp_loop_rounds 2 ?_
  rw [rounds_succ]
  go_wp2_with fail
  refine (nearest_b w1).mono ?_
  rintro e w2 ⟨rfl, hb2⟩
  have b2 : Hid (Below w.heap.size w w2) := b1.out.trans (hb2.mono b1.out.size)
  clear hb2
  go_wp2
  rw [rounds_succ]
  go_wp2
  go_ret
  exact ⟨rfl, b2.out⟩
end Go.Proofs.YtmfnjmgdindlaaaDoor
