/-
  The document's Act of layer 18: what an act reads and writes, as lists in memory.
-/
import Derived.Test.YtedfjedmapimnaaDoorKcr
import Derived.Test.YtedfjedmapimnaaDoorIln
import Derived.Test.YtedfjedmapimnaaDoorKap
namespace Go.Proofs.YtedfjedmapimnaaDoor
open Flo Go.RowKit
theorem RdI.one {w : World} {g c z : Nat} (h : w.cell? ⟨g, 0, none⟩ = some (.int .i64 (z : Int))) : RdI w (.slice (some ⟨g, 0, none⟩) 1 c) [z] := ⟨_, c, rfl, fun _ => ⟨g, 0, rfl, cell_lt h, fun i hi => by
  match i, hi with
  | 0, _ => exact h
  | n + 1, hi => simp at hi⟩⟩
theorem RdI.two {w : World} {g c z y : Nat} (h : w.cell? ⟨g, 0, none⟩ = some (.int .i64 (z : Int))) (h2 : w.cell? ⟨g, 1, none⟩ = some (.int .i64 (y : Int))) : RdI w (.slice (some ⟨g, 0, none⟩) 2 c) [z, y] := ⟨_, c, rfl, fun _ => ⟨g, 0, rfl, cell_lt h, fun i hi => by
  match i, hi with
  | 0, _ => exact h
  | 1, _ => exact h2
  | n + 2, hi => simp at hi; omega⟩⟩
theorem RdI.none (w : World) : RdI w (.slice none 0 0) [] := ⟨_, 0, rfl, fun h => absurd rfl h⟩
/-- lists in blocks of the call's own, or in none -/
def NwL (B : Nat) (v1 v2 : Value) : Prop := (∀ b, v1.ownBlock = some b → B ≤ b) ∧ ∀ b, v2.ownBlock = some b → B ≤ b
/-- what Act answers -/
def AcE (rd wr : List Nat) (w : World) (e : Ending) (w' : World) : Prop := ∃ v1 v2, e = .returned (.tuple #[v1, v2]) ∧ RdI w' v1 rd ∧ RdI w' v2 wr ∧ Below w.heap.size w w' ∧ NwL w.heap.size v1 v2
theorem w64k {x : Nat} (h : x ≤ 1099511627776) : wrap64 (x : Int) = (x : Int) := by unfold wrap64; omega
theorem w64j {x : Nat} (h : x ≤ 1099511627776) : IntKind.i64.wrap (x : Int) = (x : Int) := by rw [IntKind.wrap_i64]; omega
theorem mul_le8 {i j : Nat} (hi : i ≤ 262144) (hj : j ≤ 262144) : i * j ≤ 68719476736 := Nat.mul_le_mul hi hj
theorem al2d {w : World} {a b : Array Value} {s t : TypeId} : Below w.heap.size w ((w.alloc (.cells a s)).alloc (.cells b t)) :=
  have h1 := (Below.refl w.heap.size w).alloc (Nat.le_refl _) (.cells a s)
  h1.alloc h1.size _
theorem al3d {w : World} {a b c : Array Value} {s t u : TypeId} : Below w.heap.size w (((w.alloc (.cells a s)).alloc (.cells b t)).alloc (.cells c u)) := al2d.alloc al2d.size _
theorem al4d {w : World} {a b c d : Array Value} {s t u x : TypeId} : Below w.heap.size w ((((w.alloc (.cells a s)).alloc (.cells b t)).alloc (.cells c u)).alloc (.cells d x)) := al3d.alloc al3d.size _
set_option maxHeartbeats 2000000 in
theorem kact1_c (d s j c n i : Nat) (k : Int) (w : World) (hd : d ≤ 262143) (hs : s ≤ 262143) (hj : j ≤ 262144) (hi : i ≤ 262144) :
    Calls Tryd.prog 16 #[sv ⟨1, d, s, j, c, n, k⟩, .int .i64 (i : Int)] w fun e w' => AcE (Kc.rds 1 d s j n i) (Kc.wrs 1 d j n i) w e w' := by
  have hm := mul_le8 hi hj
  obtain ⟨M, hM⟩ : ∃ M : Nat, Hid (i * j = M) := ⟨_, (rfl : _ = _)⟩
  rw [hM.out] at hm
  obtain ⟨D, hD⟩ : ∃ M : Nat, Hid (d + i = M) := ⟨_, (rfl : _ = _)⟩
  obtain ⟨S, hS⟩ : ∃ M : Nat, Hid (s + i = M) := ⟨_, (rfl : _ = _)⟩
  obtain ⟨X, hX⟩ : ∃ Z : Nat, Hid (s + M = Z) := ⟨_, (rfl : _ = _)⟩
  obtain ⟨Y, hY⟩ : ∃ Z : Nat, Hid (d + M = Z) := ⟨_, (rfl : _ = _)⟩
  have e0 : wrap64 ((i : Int) * (j : Int)) = (M : Int) := by rw [← Int.natCast_mul, hM.out]; exact w64k (by omega)
  have e1 : wrap64 ((d : Int) + (i : Int)) = (D : Int) := by rw [← Int.natCast_add, hD.out]; exact w64k (by have := hD.out; omega)
  have e3 : wrap64 ((s : Int) + (M : Int)) = (X : Int) := by rw [← Int.natCast_add, hX.out]; exact w64k (by have := hX.out; omega)
  rw [show Kc.rds 1 d s j n i = [s + i * j] from rfl, show Kc.wrs 1 d j n i = [d + i] from rfl, hM.out, hX.out, hD.out]
  clear hm hM hD hS hX hY hd hs hj hi
  unfold sv sva
  go_enter Tryd.func16, Tryd.ntmps16
  go_wp2
  go_ret2
  exact ⟨_, _, rfl, RdI.one (by simp [go_sem]), RdI.one (by simp [go_sem]), al3d, (fun b e => by simp [Value.ownBlock] at e <;> omega), (fun b e => by simp [Value.ownBlock] at e <;> omega)⟩
set_option maxHeartbeats 2000000 in
theorem kact2_c (d s j c n i : Nat) (k : Int) (w : World) (hd : d ≤ 262143) (hs : s ≤ 262143) (hj : j ≤ 262144) (hi : i ≤ 262144) :
    Calls Tryd.prog 16 #[sv ⟨2, d, s, j, c, n, k⟩, .int .i64 (i : Int)] w fun e w' => AcE (Kc.rds 2 d s j n i) (Kc.wrs 2 d j n i) w e w' := by
  have hm := mul_le8 hi hj
  obtain ⟨M, hM⟩ : ∃ M : Nat, Hid (i * j = M) := ⟨_, (rfl : _ = _)⟩
  rw [hM.out] at hm
  obtain ⟨D, hD⟩ : ∃ M : Nat, Hid (d + i = M) := ⟨_, (rfl : _ = _)⟩
  obtain ⟨S, hS⟩ : ∃ M : Nat, Hid (s + i = M) := ⟨_, (rfl : _ = _)⟩
  obtain ⟨X, hX⟩ : ∃ Z : Nat, Hid (s + M = Z) := ⟨_, (rfl : _ = _)⟩
  obtain ⟨Y, hY⟩ : ∃ Z : Nat, Hid (d + M = Z) := ⟨_, (rfl : _ = _)⟩
  have e0 : wrap64 ((i : Int) * (j : Int)) = (M : Int) := by rw [← Int.natCast_mul, hM.out]; exact w64k (by omega)
  have e0' : IntKind.i64.wrap ((i : Int) * (j : Int)) = (M : Int) := by rw [← Int.natCast_mul, hM.out]; exact w64j (by omega)
  have e1 : wrap64 ((d : Int) + (i : Int)) = (D : Int) := by rw [← Int.natCast_add, hD.out]; exact w64k (by have := hD.out; omega)
  have e1' : IntKind.i64.wrap ((d : Int) + (i : Int)) = (D : Int) := by rw [← Int.natCast_add, hD.out]; exact w64j (by have := hD.out; omega)
  have e2 : wrap64 ((s : Int) + (i : Int)) = (S : Int) := by rw [← Int.natCast_add, hS.out]; exact w64k (by have := hS.out; omega)
  have e2' : IntKind.i64.wrap ((s : Int) + (i : Int)) = (S : Int) := by rw [← Int.natCast_add, hS.out]; exact w64j (by have := hS.out; omega)
  have e4 : wrap64 ((d : Int) + (M : Int)) = (Y : Int) := by rw [← Int.natCast_add, hY.out]; exact w64k (by have := hY.out; omega)
  have e4' : IntKind.i64.wrap ((d : Int) + (M : Int)) = (Y : Int) := by rw [← Int.natCast_add, hY.out]; exact w64j (by have := hY.out; omega)
  rw [show Kc.rds 2 d s j n i = [s + i] from rfl, show Kc.wrs 2 d j n i = [d + i * j] from rfl, hM.out, hS.out, hY.out]
  clear hm hM hD hS hX hY hd hs hj hi
  unfold sv sva
  go_enter Tryd.func16, Tryd.ntmps16
  go_wp2
  go_region
  all_goals (
    go_wp2
    go_ret2
    exact ⟨_, _, rfl, RdI.one (by simp [go_sem]), RdI.one (by simp [go_sem]), al4d.drew, (fun b e => by simp [Value.ownBlock] at e <;> omega), (fun b e => by simp [Value.ownBlock] at e <;> omega)⟩)
set_option maxHeartbeats 2000000 in
theorem kact3_c (d s j c n i : Nat) (k : Int) (w : World) (hd : d ≤ 262143) (_ : s ≤ 262143) (hj : j ≤ 262144) (hi : i ≤ 262144) :
    Calls Tryd.prog 16 #[sv ⟨3, d, s, j, c, n, k⟩, .int .i64 (i : Int)] w fun e w' => AcE (Kc.rds 3 d s j n i) (Kc.wrs 3 d j n i) w e w' := by
  have hm := mul_le8 hi hj
  obtain ⟨M, hM⟩ : ∃ M : Nat, Hid (i * j = M) := ⟨_, (rfl : _ = _)⟩
  rw [hM.out] at hm
  obtain ⟨D, hD⟩ : ∃ M : Nat, Hid (d + i = M) := ⟨_, (rfl : _ = _)⟩
  obtain ⟨S, hS⟩ : ∃ M : Nat, Hid (s + i = M) := ⟨_, (rfl : _ = _)⟩
  obtain ⟨X, hX⟩ : ∃ Z : Nat, Hid (s + M = Z) := ⟨_, (rfl : _ = _)⟩
  obtain ⟨Y, hY⟩ : ∃ Z : Nat, Hid (d + M = Z) := ⟨_, (rfl : _ = _)⟩
  have e1 : wrap64 ((d : Int) + (i : Int)) = (D : Int) := by rw [← Int.natCast_add, hD.out]; exact w64k (by have := hD.out; omega)
  rw [show Kc.rds 3 d s j n i = [] from rfl, show Kc.wrs 3 d j n i = [d + i] from rfl, hD.out]
  clear hm hM hD hS hX hY hd hj hi
  unfold sv sva
  go_enter Tryd.func16, Tryd.ntmps16
  go_wp2
  go_ret2
  exact ⟨_, _, rfl, RdI.none _, RdI.one (by simp [go_sem]), al2d, (fun b e => by simp [Value.ownBlock] at e <;> omega), (fun b e => by simp [Value.ownBlock] at e <;> omega)⟩
set_option maxHeartbeats 2000000 in
theorem kact8_c (d s j c n i : Nat) (k : Int) (w : World) (hd : d ≤ 262143) (_ : s ≤ 262143) (hj : j ≤ 262144) (hi : i ≤ 262144) :
    Calls Tryd.prog 16 #[sv ⟨8, d, s, j, c, n, k⟩, .int .i64 (i : Int)] w fun e w' => AcE (Kc.rds 8 d s j n i) (Kc.wrs 8 d j n i) w e w' := by
  have hm := mul_le8 hi hj
  obtain ⟨M, hM⟩ : ∃ M : Nat, Hid (i * j = M) := ⟨_, (rfl : _ = _)⟩
  rw [hM.out] at hm
  obtain ⟨D, hD⟩ : ∃ M : Nat, Hid (d + i = M) := ⟨_, (rfl : _ = _)⟩
  obtain ⟨S, hS⟩ : ∃ M : Nat, Hid (s + i = M) := ⟨_, (rfl : _ = _)⟩
  obtain ⟨X, hX⟩ : ∃ Z : Nat, Hid (s + M = Z) := ⟨_, (rfl : _ = _)⟩
  obtain ⟨Y, hY⟩ : ∃ Z : Nat, Hid (d + M = Z) := ⟨_, (rfl : _ = _)⟩
  have e1 : wrap64 ((d : Int) + (i : Int)) = (D : Int) := by rw [← Int.natCast_add, hD.out]; exact w64k (by have := hD.out; omega)
  rw [show Kc.rds 8 d s j n i = [] from rfl, show Kc.wrs 8 d j n i = [d + i] from rfl, hD.out]
  clear hm hM hD hS hX hY hd hj hi
  unfold sv sva
  go_enter Tryd.func16, Tryd.ntmps16
  go_wp2
  go_ret2
  exact ⟨_, _, rfl, RdI.none _, RdI.one (by simp [go_sem]), al2d, (fun b e => by simp [Value.ownBlock] at e <;> omega), (fun b e => by simp [Value.ownBlock] at e <;> omega)⟩
set_option maxHeartbeats 2000000 in
theorem kact9_c (d s j c n i : Nat) (k : Int) (w : World) (hd : d ≤ 262143) (hs : s ≤ 262143) (hj : j ≤ 262144) (hi : i ≤ 262144) :
    Calls Tryd.prog 16 #[sv ⟨9, d, s, j, c, n, k⟩, .int .i64 (i : Int)] w fun e w' => AcE (Kc.rds 9 d s j n i) (Kc.wrs 9 d j n i) w e w' := by
  have hm := mul_le8 hi hj
  obtain ⟨M, hM⟩ : ∃ M : Nat, Hid (i * j = M) := ⟨_, (rfl : _ = _)⟩
  rw [hM.out] at hm
  obtain ⟨D, hD⟩ : ∃ M : Nat, Hid (d + i = M) := ⟨_, (rfl : _ = _)⟩
  obtain ⟨S, hS⟩ : ∃ M : Nat, Hid (s + i = M) := ⟨_, (rfl : _ = _)⟩
  obtain ⟨X, hX⟩ : ∃ Z : Nat, Hid (s + M = Z) := ⟨_, (rfl : _ = _)⟩
  obtain ⟨Y, hY⟩ : ∃ Z : Nat, Hid (d + M = Z) := ⟨_, (rfl : _ = _)⟩
  have e1 : wrap64 ((d : Int) + (i : Int)) = (D : Int) := by rw [← Int.natCast_add, hD.out]; exact w64k (by have := hD.out; omega)
  have e2 : wrap64 ((s : Int) + (i : Int)) = (S : Int) := by rw [← Int.natCast_add, hS.out]; exact w64k (by have := hS.out; omega)
  rw [show Kc.rds 9 d s j n i = [d + i, s + i] from rfl, show Kc.wrs 9 d j n i = [d + i] from rfl, hD.out, hS.out]
  clear hm hM hD hS hX hY hd hs hj hi
  unfold sv sva
  go_enter Tryd.func16, Tryd.ntmps16
  go_wp2
  go_ret2
  exact ⟨_, _, rfl, RdI.two (by simp [go_sem]) (by simp [go_sem]), RdI.one (by simp [go_sem]), al3d, (fun b e => by simp [Value.ownBlock] at e <;> omega), (fun b e => by simp [Value.ownBlock] at e <;> omega)⟩
set_option maxHeartbeats 2000000 in
theorem kact4_c (d s j c n i : Nat) (k : Int) (w : World) (hd : d ≤ 262143) (_ : s ≤ 262143) (hj : j ≤ 262144) (hi : i ≤ 262144) :
    Calls Tryd.prog 16 #[sv ⟨4, d, s, j, c, n, k⟩, .int .i64 (i : Int)] w fun e w' => AcE (Kc.rds 4 d s j n i) (Kc.wrs 4 d j n i) w e w' := by
  have hm := mul_le8 hi hj
  obtain ⟨M, hM⟩ : ∃ M : Nat, Hid (i * j = M) := ⟨_, (rfl : _ = _)⟩
  rw [hM.out] at hm
  obtain ⟨D, hD⟩ : ∃ M : Nat, Hid (d + i = M) := ⟨_, (rfl : _ = _)⟩
  obtain ⟨S, hS⟩ : ∃ M : Nat, Hid (s + i = M) := ⟨_, (rfl : _ = _)⟩
  obtain ⟨X, hX⟩ : ∃ Z : Nat, Hid (s + M = Z) := ⟨_, (rfl : _ = _)⟩
  obtain ⟨Y, hY⟩ : ∃ Z : Nat, Hid (d + M = Z) := ⟨_, (rfl : _ = _)⟩
  have e1 : wrap64 ((d : Int) + (i : Int)) = (D : Int) := by rw [← Int.natCast_add, hD.out]; exact w64k (by have := hD.out; omega)
  rw [show Kc.rds 4 d s j n i = [d + i] from rfl, show Kc.wrs 4 d j n i = [d + i] from rfl, hD.out]
  clear hm hM hD hS hX hY hd hj hi
  unfold sv sva
  go_enter Tryd.func16, Tryd.ntmps16
  go_wp2
  go_ret2
  exact ⟨_, _, rfl, RdI.one (by simp [go_sem]), RdI.one (by simp [go_sem]), al2d, (fun b e => by simp [Value.ownBlock] at e <;> omega), (fun b e => by simp [Value.ownBlock] at e <;> omega)⟩
set_option maxHeartbeats 2000000 in
theorem kact7_c (d s j c n i : Nat) (k : Int) (w : World) (hd : d ≤ 262143) (_ : s ≤ 262143) (hj : j ≤ 262144) (hi : i ≤ 262144) :
    Calls Tryd.prog 16 #[sv ⟨7, d, s, j, c, n, k⟩, .int .i64 (i : Int)] w fun e w' => AcE (Kc.rds 7 d s j n i) (Kc.wrs 7 d j n i) w e w' := by
  have hm := mul_le8 hi hj
  obtain ⟨M, hM⟩ : ∃ M : Nat, Hid (i * j = M) := ⟨_, (rfl : _ = _)⟩
  rw [hM.out] at hm
  obtain ⟨D, hD⟩ : ∃ M : Nat, Hid (d + i = M) := ⟨_, (rfl : _ = _)⟩
  obtain ⟨S, hS⟩ : ∃ M : Nat, Hid (s + i = M) := ⟨_, (rfl : _ = _)⟩
  obtain ⟨X, hX⟩ : ∃ Z : Nat, Hid (s + M = Z) := ⟨_, (rfl : _ = _)⟩
  obtain ⟨Y, hY⟩ : ∃ Z : Nat, Hid (d + M = Z) := ⟨_, (rfl : _ = _)⟩
  have e1 : wrap64 ((d : Int) + (i : Int)) = (D : Int) := by rw [← Int.natCast_add, hD.out]; exact w64k (by have := hD.out; omega)
  rw [show Kc.rds 7 d s j n i = [d + i] from rfl, show Kc.wrs 7 d j n i = [d + i] from rfl, hD.out]
  clear hm hM hD hS hX hY hd hj hi
  unfold sv sva
  go_enter Tryd.func16, Tryd.ntmps16
  go_wp2
  go_ret2
  exact ⟨_, _, rfl, RdI.one (by simp [go_sem]), RdI.one (by simp [go_sem]), al2d, (fun b e => by simp [Value.ownBlock] at e <;> omega), (fun b e => by simp [Value.ownBlock] at e <;> omega)⟩
set_option maxHeartbeats 2000000 in
theorem kact10_c (d s j c n i : Nat) (k : Int) (w : World) (hd : d ≤ 262143) (_ : s ≤ 262143) (hj : j ≤ 262144) (hi : i ≤ 262144) :
    Calls Tryd.prog 16 #[sv ⟨10, d, s, j, c, n, k⟩, .int .i64 (i : Int)] w fun e w' => AcE (Kc.rds 10 d s j n i) (Kc.wrs 10 d j n i) w e w' := by
  have hm := mul_le8 hi hj
  obtain ⟨M, hM⟩ : ∃ M : Nat, Hid (i * j = M) := ⟨_, (rfl : _ = _)⟩
  rw [hM.out] at hm
  obtain ⟨D, hD⟩ : ∃ M : Nat, Hid (d + i = M) := ⟨_, (rfl : _ = _)⟩
  obtain ⟨S, hS⟩ : ∃ M : Nat, Hid (s + i = M) := ⟨_, (rfl : _ = _)⟩
  obtain ⟨X, hX⟩ : ∃ Z : Nat, Hid (s + M = Z) := ⟨_, (rfl : _ = _)⟩
  obtain ⟨Y, hY⟩ : ∃ Z : Nat, Hid (d + M = Z) := ⟨_, (rfl : _ = _)⟩
  have e1 : wrap64 ((d : Int) + (i : Int)) = (D : Int) := by rw [← Int.natCast_add, hD.out]; exact w64k (by have := hD.out; omega)
  rw [show Kc.rds 10 d s j n i = [d + i] from rfl, show Kc.wrs 10 d j n i = [d + i] from rfl, hD.out]
  clear hm hM hD hS hX hY hd hj hi
  unfold sv sva
  go_enter Tryd.func16, Tryd.ntmps16
  go_wp2
  go_ret2
  exact ⟨_, _, rfl, RdI.one (by simp [go_sem]), RdI.one (by simp [go_sem]), al2d, (fun b e => by simp [Value.ownBlock] at e <;> omega), (fun b e => by simp [Value.ownBlock] at e <;> omega)⟩
set_option maxHeartbeats 2000000 in
theorem kact11_c (d s j c n i : Nat) (k : Int) (w : World) (hd : d ≤ 262143) (_ : s ≤ 262143) (hj : j ≤ 262144) (hi : i ≤ 262144) :
    Calls Tryd.prog 16 #[sv ⟨11, d, s, j, c, n, k⟩, .int .i64 (i : Int)] w fun e w' => AcE (Kc.rds 11 d s j n i) (Kc.wrs 11 d j n i) w e w' := by
  have hm := mul_le8 hi hj
  obtain ⟨M, hM⟩ : ∃ M : Nat, Hid (i * j = M) := ⟨_, (rfl : _ = _)⟩
  rw [hM.out] at hm
  obtain ⟨D, hD⟩ : ∃ M : Nat, Hid (d + i = M) := ⟨_, (rfl : _ = _)⟩
  obtain ⟨S, hS⟩ : ∃ M : Nat, Hid (s + i = M) := ⟨_, (rfl : _ = _)⟩
  obtain ⟨X, hX⟩ : ∃ Z : Nat, Hid (s + M = Z) := ⟨_, (rfl : _ = _)⟩
  obtain ⟨Y, hY⟩ : ∃ Z : Nat, Hid (d + M = Z) := ⟨_, (rfl : _ = _)⟩
  have e1 : wrap64 ((d : Int) + (i : Int)) = (D : Int) := by rw [← Int.natCast_add, hD.out]; exact w64k (by have := hD.out; omega)
  rw [show Kc.rds 11 d s j n i = [d + i] from rfl, show Kc.wrs 11 d j n i = [d + i] from rfl, hD.out]
  clear hm hM hD hS hX hY hd hj hi
  unfold sv sva
  go_enter Tryd.func16, Tryd.ntmps16
  go_wp2
  go_ret2
  exact ⟨_, _, rfl, RdI.one (by simp [go_sem]), RdI.one (by simp [go_sem]), al2d, (fun b e => by simp [Value.ownBlock] at e <;> omega), (fun b e => by simp [Value.ownBlock] at e <;> omega)⟩
end Go.Proofs.YtedfjedmapimnaaDoor
/-
  The document's row (package check's reference), and the statements' sameInts.
-/
namespace Go.Proofs.YtedfjedmapimnaaDoor
open Flo Go.RowKit
def rwl (A J c : Nat) : List Nat := (List.range c).map fun i => A + i * J
theorem rwl_succ (A J i : Nat) : rwl A J (i + 1) = rwl A J i ++ [A + i * J] := by simp [rwl, List.range_succ]
theorem rwl_len (A J c : Nat) : (rwl A J c).length = c := by simp [rwl]
theorem rwl_num {A J c m : Nat} (hA : A ≤ 1099511627776) (hJ : J ≤ 1048576) (hc : c ≤ 1048576) (hm : m < c) : IntKind.i64.wrap ((m : Int) * (J : Int)) = ((m * J : Nat) : Int) ∧ IntKind.i64.wrap ((A : Int) + ((m * J : Nat) : Int)) = ((A + m * J : Nat) : Int) ∧ wrap64 ((A : Int) + (m : Int) * (J : Int)) = (A : Int) + (m : Int) * (J : Int) := by
  have h1 : m * J ≤ 1048576 * 1048576 := Nat.mul_le_mul (by omega) hJ
  have h2 : (m : Int) * (J : Int) = ((m * J : Nat) : Int) := by push_cast; rfl
  rw [h2]
  generalize m * J = z at h1
  refine ⟨?_, ?_, ?_⟩
  · rw [IntKind.wrap_i64]; omega
  · rw [IntKind.wrap_i64]; omega
  · unfold wrap64; omega
end Go.Proofs.YtedfjedmapimnaaDoor
/-
  The document's Act of layer 18, of butterflies and sums: lists that grow.
-/
namespace Go.Proofs.YtedfjedmapimnaaDoor
open Flo Go.RowKit
set_option maxHeartbeats 2000000 in
set_option maxRecDepth 100000 in
theorem kact5_c (d s j c n i : Nat) (k : Int) (w : World) (hd : d ≤ 262143) (hs : s ≤ 262143) (hj : j ≤ 262144) (hi : i ≤ 262144) (hn : n ≤ 64) :
    Calls Tryd.prog 16 #[sv ⟨5, d, s, j, c, n, k⟩, .int .i64 (i : Int)] w fun e w' => AcE (Kc.rds 5 d s j n i) (Kc.wrs 5 d j n i) w e w' := by
  obtain ⟨g, hg⟩ : ∃ g, Hid (w.heap.size = g) := ⟨_, (rfl : _ = _)⟩
  obtain ⟨wa, ewa⟩ : ∃ wa, Hid (w.alloc (.cells #[.int .i64 5, .int .i64 d, .int .i64 s, .int .i64 j, .int .i64 c, .int .i64 n, .int .i64 k] 39) = wa) := ⟨_, (rfl : _ = _)⟩
  have Ba : Hid (Below w.heap.size w wa) := by rw [← ewa.out]; exact (Below.refl _ _).alloc (Nat.le_refl _) _
  have X1 : Hid (Bst wa g 5 d s j c n k) := by show Bst _ _ _ _ _ _ _ _ _; rw [← ewa.out, ← hg.out]; exact Bst.new w _ _ _ _ _ _ _
  obtain ⟨D, hD⟩ : ∃ M : Nat, Hid (d + i = M) := ⟨_, (rfl : _ = _)⟩
  have hDb : D ≤ 1048576 := by rw [← hD.out]; omega
  have e1 : wrap64 ((d : Int) + (i : Int)) = (D : Int) := by rw [← Int.natCast_add, hD.out]; exact w64k (by omega)
  have e1' : IntKind.i64.wrap ((d : Int) + (i : Int)) = (D : Int) := by rw [← Int.natCast_add, hD.out]; exact w64j (by omega)
  have hrd : Hid (Kc.rds 5 d s j n i = rwl D j n) := by show _ = _; rw [← hD.out]; rfl
  have hwr : Hid (Kc.wrs 5 d j n i = rwl D j n) := by show _ = _; rw [← hD.out]; rfl
  rw [hrd.out, hwr.out]
  obtain ⟨wb, ewb⟩ : ∃ wb, Hid (wa.alloc (.cells #[.int .i64 (D : Int)] 3) = wb) := ⟨_, (rfl : _ = _)⟩
  obtain ⟨G, hG⟩ : ∃ g, Hid (wa.heap.size = g) := ⟨_, (rfl : _ = _)⟩
  have Bb : Hid (Below w.heap.size w wb) := by rw [← ewb.out]; exact Ba.out.alloc Ba.out.size _
  have hown1 : Hid (RdI wb (.slice (some ⟨G, 0, none⟩) 1 1) [D]) := by rw [← ewb.out, ← hG.out]; exact RdI.one (by simp [go_sem])
  have X2 : Hid (Bst wb g 5 d s j c n k) := by
    show Bst _ _ _ _ _ _ _ _ _
    rw [← ewb.out]
    exact X1.out.below ((Below.refl _ _).alloc (Nat.le_refl _) _)
  obtain ⟨B, hB⟩ : ∃ n, Hid (wb.heap.size = n) := ⟨_, (rfl : _ = _)⟩
  obtain ⟨wc, ewc⟩ : ∃ z, Hid (wb.alloc (.cells #[] 3) = z) := ⟨_, (rfl : _ = _)⟩
  have Bc : Hid (Below B wb wc) := by rw [← ewc.out]; exact (Below.refl _ _).alloc (Nat.le_of_eq hB.out.symm) _
  have oc : Hid (wc.ownsRow B 3 1 (.slice (some ⟨wb.heap.size, 0, none⟩) 0 0) ([] : List Nat).length (il [])) := by rw [← ewc.out]; exact World.ownsRow_made wb #[] 0 (Nat.le_of_eq hB.out.symm) (by decide) rfl
  have hXX : Hid (∀ W, Below B wb W → Bst W g 5 d s j c n k) := fun W hW => X2.out.below (hB.out ▸ hW)
  have hsB : Hid (s ≤ 1048576) := by show _ ≤ _; omega
  clear hrd hwr hd hs hi
  unfold sv sva
  go_enter Tryd.func16, Tryd.ntmps16
  go_upto_region 1 with fail
  rw [ewa.out, hg.out]
  obtain ⟨y0, y1, y2, y3, y4, y5, y6⟩ := X1.out
  go_upto_region 2 with fail
  rw [ewb.out, hG.out]
  clear y0 y1 y2 y3 y4 y5 y6
  obtain ⟨y0, y1, y2, y3, y4, y5, y6⟩ := X2.out
  go_wp2
  rw [ewc.out]
  clear y0 y1 y2 y3 y4 y5 y6
  go_loopw [7, 8] (fun a i wr => ∃ q : Nat, q ≤ n ∧ i = .int .i64 q ∧ Hid (Below B wb wr) ∧ Hid (wr.ownsRow B 3 1 a (rwl D j q).length (il (rwl D j q)))) (fun _ i _ => n - (intOf i).toNat)
  case atStart => exact ⟨0, Nat.zero_le _, rfl, Bc.out, oc.out⟩
  case round =>
    obtain ⟨q, hq, rfl, Bk, hown⟩ := hrel
    obtain ⟨y0, y1, y2, y3, y4, y5, y6⟩ := hXX.out wr Bk.out
    by_cases hlt : q < n
    · have hlt' : (q : Int) < (n : Int) := by omega
      obtain ⟨f1, f2, f3⟩ := rwl_num (A := D) (J := j) (c := n) (m := q) (by omega) (by omega) (by omega) hlt
      have hsz1 : Hid (B ≤ wr.heap.size) := by have := Bk.out.size; have := hB.out; show _ ≤ _; omega
      have hll : Hid (((rwl D j q).length + 1) * 8 ≤ 140737488355328) := by show _ ≤ _; rw [rwl_len]; omega
      go_wp2_with (first | (at_builtin; refine appI _ rfl _ _ rfl B (rwl D j q) (D + q * j) wr.heap.size u7 rfl rfl (hown.out.alloc _) (by first | (simp [go_sem]; done) | (simp [go_sem]; exact f3) | (simp [go_sem, e1]; exact f3)) hll.out (by simp; exact Nat.le_succ_of_le hsz1.out) ?_) | fail)
      intro v' w4 ho hg
      have hB4 : Hid (Below B wb w4) := (Bk.out.alloc hsz1.out _).grown hg (by simp; exact Nat.le_succ_of_le hsz1.out) (fun k' hk' => (hown.out.lt k' hk').1)
      have ho4 : Hid (w4.ownsRow B 3 1 v' (rwl D j (q + 1)).length (il (rwl D j (q + 1)))) := by
        show World.ownsRow _ _ _ _ _ _ _; rw [rwl_succ, List.length_append]; exact ho
      clear ho hg f1 f2 f3 y0 y1 y2 y3 y4 y5 y6
      go_wp2
      go_roundw
      case rel => exact ⟨q + 1, by omega, by go_num, hB4, ho4⟩
      case measure => simp [intOf]; omega
    · have hlt' : decide ((q : Int) < (n : Int)) = false := decide_eq_false (by omega)
      obtain rfl : q = n := by omega
      have hfin : Hid (AcE (rwl D j q) (rwl D j q) w (.returned (.tuple #[u7, u7])) wr) := ⟨_, _, rfl, RdI.of_own hown.out, RdI.of_own hown.out, Bb.out.trans (Bk.out.mono (by have := hB.out; have := Bb.out.size; omega)), (fun b e => Nat.le_trans (by have := hB.out; have := Bb.out.size; omega) (hown.out.lt b e).1), (fun b e => Nat.le_trans (by have := hB.out; have := Bb.out.size; omega) (hown.out.lt b e).1)⟩
      go_wp2
      refine bodyPost_ret (v := .tuple #[u7, u7]) (by simp [results, Tryd.results16, go_sem]) rfl ?_
      exact hfin.out
set_option maxHeartbeats 2000000 in
set_option maxRecDepth 100000 in
theorem kact6_c (d s j c n i : Nat) (k : Int) (w : World) (hd : d ≤ 262143) (hs : s ≤ 262143) (hj : j ≤ 262144) (hi : i ≤ 262144) (hn : n ≤ 64) :
    Calls Tryd.prog 16 #[sv ⟨6, d, s, j, c, n, k⟩, .int .i64 (i : Int)] w fun e w' => AcE (Kc.rds 6 d s j n i) (Kc.wrs 6 d j n i) w e w' := by
  obtain ⟨g, hg⟩ : ∃ g, Hid (w.heap.size = g) := ⟨_, (rfl : _ = _)⟩
  obtain ⟨wa, ewa⟩ : ∃ wa, Hid (w.alloc (.cells #[.int .i64 6, .int .i64 d, .int .i64 s, .int .i64 j, .int .i64 c, .int .i64 n, .int .i64 k] 39) = wa) := ⟨_, (rfl : _ = _)⟩
  have Ba : Hid (Below w.heap.size w wa) := by rw [← ewa.out]; exact (Below.refl _ _).alloc (Nat.le_refl _) _
  have X1 : Hid (Bst wa g 6 d s j c n k) := by show Bst _ _ _ _ _ _ _ _ _; rw [← ewa.out, ← hg.out]; exact Bst.new w _ _ _ _ _ _ _
  obtain ⟨D, hD⟩ : ∃ M : Nat, Hid (d + i = M) := ⟨_, (rfl : _ = _)⟩
  have hDb : D ≤ 1048576 := by rw [← hD.out]; omega
  have e1 : wrap64 ((d : Int) + (i : Int)) = (D : Int) := by rw [← Int.natCast_add, hD.out]; exact w64k (by omega)
  have e1' : IntKind.i64.wrap ((d : Int) + (i : Int)) = (D : Int) := by rw [← Int.natCast_add, hD.out]; exact w64j (by omega)
  have hrd : Hid (Kc.rds 6 d s j n i = rwl s j n) := by show _ = _; rfl
  have hwr : Hid (Kc.wrs 6 d j n i = [D]) := by show _ = _; rw [← hD.out]; rfl
  rw [hrd.out, hwr.out]
  obtain ⟨wb, ewb⟩ : ∃ wb, Hid (wa.alloc (.cells #[.int .i64 (D : Int)] 3) = wb) := ⟨_, (rfl : _ = _)⟩
  obtain ⟨G, hG⟩ : ∃ g, Hid (wa.heap.size = g) := ⟨_, (rfl : _ = _)⟩
  have Bb : Hid (Below w.heap.size w wb) := by rw [← ewb.out]; exact Ba.out.alloc Ba.out.size _
  have hown1 : Hid (RdI wb (.slice (some ⟨G, 0, none⟩) 1 1) [D]) := by rw [← ewb.out, ← hG.out]; exact RdI.one (by simp [go_sem])
  have X2 : Hid (Bst wb g 6 d s j c n k) := by
    show Bst _ _ _ _ _ _ _ _ _
    rw [← ewb.out]
    exact X1.out.below ((Below.refl _ _).alloc (Nat.le_refl _) _)
  obtain ⟨B, hB⟩ : ∃ n, Hid (wb.heap.size = n) := ⟨_, (rfl : _ = _)⟩
  obtain ⟨wc, ewc⟩ : ∃ z, Hid (wb.alloc (.cells #[] 3) = z) := ⟨_, (rfl : _ = _)⟩
  have Bc : Hid (Below B wb wc) := by rw [← ewc.out]; exact (Below.refl _ _).alloc (Nat.le_of_eq hB.out.symm) _
  have oc : Hid (wc.ownsRow B 3 1 (.slice (some ⟨wb.heap.size, 0, none⟩) 0 0) ([] : List Nat).length (il [])) := by rw [← ewc.out]; exact World.ownsRow_made wb #[] 0 (Nat.le_of_eq hB.out.symm) (by decide) rfl
  have hXX : Hid (∀ W, Below B wb W → Bst W g 6 d s j c n k) := fun W hW => X2.out.below (hB.out ▸ hW)
  have hsB : Hid (s ≤ 1048576) := by show _ ≤ _; omega
  clear hrd hwr hd hs hi
  unfold sv sva
  go_enter Tryd.func16, Tryd.ntmps16
  go_upto_region 1 with fail
  rw [ewa.out, hg.out]
  obtain ⟨y0, y1, y2, y3, y4, y5, y6⟩ := X1.out
  go_upto_region 2 with fail
  rw [ewb.out, hG.out]
  clear y0 y1 y2 y3 y4 y5 y6
  obtain ⟨y0, y1, y2, y3, y4, y5, y6⟩ := X2.out
  go_wp2
  rw [ewc.out]
  clear y0 y1 y2 y3 y4 y5 y6
  go_loopw [9, 10] (fun a i wr => ∃ q : Nat, q ≤ n ∧ i = .int .i64 q ∧ Hid (Below B wb wr) ∧ Hid (wr.ownsRow B 3 1 a (rwl s j q).length (il (rwl s j q)))) (fun _ i _ => n - (intOf i).toNat)
  case atStart => exact ⟨0, Nat.zero_le _, rfl, Bc.out, oc.out⟩
  case round =>
    obtain ⟨q, hq, rfl, Bk, hown⟩ := hrel
    obtain ⟨y0, y1, y2, y3, y4, y5, y6⟩ := hXX.out wr Bk.out
    by_cases hlt : q < n
    · have hlt' : (q : Int) < (n : Int) := by omega
      obtain ⟨f1, f2, f3⟩ := rwl_num (A := s) (J := j) (c := n) (m := q) (by have := hsB.out; omega) (by omega) (by omega) hlt
      have hsz1 : Hid (B ≤ wr.heap.size) := by have := Bk.out.size; have := hB.out; show _ ≤ _; omega
      have hll : Hid (((rwl s j q).length + 1) * 8 ≤ 140737488355328) := by show _ ≤ _; rw [rwl_len]; omega
      go_wp2_with (first | (at_builtin; refine appI _ rfl _ _ rfl B (rwl s j q) (s + q * j) wr.heap.size u9 rfl rfl (hown.out.alloc _) (by first | (simp [go_sem]; done) | (simp [go_sem]; exact f3) | (simp [go_sem, e1]; exact f3)) hll.out (by simp; exact Nat.le_succ_of_le hsz1.out) ?_) | fail)
      intro v' w4 ho hg
      have hB4 : Hid (Below B wb w4) := (Bk.out.alloc hsz1.out _).grown hg (by simp; exact Nat.le_succ_of_le hsz1.out) (fun k' hk' => (hown.out.lt k' hk').1)
      have ho4 : Hid (w4.ownsRow B 3 1 v' (rwl s j (q + 1)).length (il (rwl s j (q + 1)))) := by
        show World.ownsRow _ _ _ _ _ _ _; rw [rwl_succ, List.length_append]; exact ho
      clear ho hg f1 f2 f3 y0 y1 y2 y3 y4 y5 y6
      go_wp2
      go_roundw
      case rel => exact ⟨q + 1, by omega, by go_num, hB4, ho4⟩
      case measure => simp [intOf]; omega
    · have hlt' : decide ((q : Int) < (n : Int)) = false := decide_eq_false (by omega)
      obtain rfl : q = n := by omega
      have hfin : Hid (AcE (rwl s j q) ([D]) w (.returned (.tuple #[u9, .slice (some ⟨G, 0, none⟩) 1 1])) wr) := ⟨_, _, rfl, RdI.of_own hown.out, hown1.out.below (hB.out.symm ▸ Bk.out), Bb.out.trans (Bk.out.mono (by have := hB.out; have := Bb.out.size; omega)), (fun b e => Nat.le_trans (by have := hB.out; have := Bb.out.size; omega) (hown.out.lt b e).1), (fun b e => by simp [Value.ownBlock] at e; have := hG.out; have := Ba.out.size; omega)⟩
      go_wp2
      refine bodyPost_ret (v := .tuple #[u9, .slice (some ⟨G, 0, none⟩) 1 1]) (by simp [results, Tryd.results16, go_sem]) rfl ?_
      exact hfin.out
/-- the document's Act, whatever the operation -/
theorem kact_c {o d s j c n : Nat} (h : Kc.Fo o d s j c n) (i : Nat) (hi : i ≤ 262144) (k : Int) (w : World) :
    Calls Tryd.prog 16 #[sv ⟨o, d, s, j, c, n, k⟩, .int .i64 (i : Int)] w fun e w' => AcE (Kc.rds o d s j n i) (Kc.wrs o d j n i) w e w' := by
  have h1 := h.d2
  have h2 := h.s2
  have h3 := h.j2
  have ho := h.o1
  have ho2 := h.o2
  obtain rfl | rfl | rfl | rfl | rfl | rfl | rfl | rfl | rfl | rfl | rfl : o = 1 ∨ o = 2 ∨ o = 3 ∨ o = 4 ∨ o = 5 ∨ o = 6 ∨ o = 7 ∨ o = 8 ∨ o = 9 ∨ o = 10 ∨ o = 11 := by omega
  · exact kact1_c d s j c n i k w h1 h2 h3 hi
  · exact kact2_c d s j c n i k w h1 h2 h3 hi
  · exact kact3_c d s j c n i k w h1 h2 h3 hi
  · exact kact4_c d s j c n i k w h1 h2 h3 hi
  · exact kact5_c d s j c n i k w h1 h2 h3 hi (by have := h.n5 rfl; omega)
  · exact kact6_c d s j c n i k w h1 h2 h3 hi (by have := h.n6 rfl; omega)
  · exact kact7_c d s j c n i k w h1 h2 h3 hi
  · exact kact8_c d s j c n i k w h1 h2 h3 hi
  · exact kact9_c d s j c n i k w h1 h2 h3 hi
  · exact kact10_c d s j c n i k w h1 h2 h3 hi
  · exact kact11_c d s j c n i k w h1 h2 h3 hi
end Go.Proofs.YtedfjedmapimnaaDoor
/-
  The document's writer of layer 18: the act that writes a cell.
-/
namespace Go.Proofs.YtedfjedmapimnaaDoor
open Flo Go.RowKit
def wrI : Option Nat → Int
  | none => -1
  | some b => (b : Int)
/-- the act, where a place's offset is known -/
theorem wri_lo {o d j c n x : Nat} (h : x < d) : Kc.wri o d j c n x = none := by unfold Kc.wri; rw [if_pos h]
theorem wri_2 {d j c n y : Nat} : Kc.wri 2 d j c n (d + y) = if y % j ≠ 0 ∨ c ≤ y / j then none else some (y / j) := by
  unfold Kc.wri; rw [if_neg (by omega), if_pos rfl, Nat.add_sub_cancel_left]
theorem wri_5 {d j c n y : Nat} : Kc.wri 5 d j c n (d + y) = if n ≤ y / j ∨ c ≤ y % j then none else some (y % j) := by
  unfold Kc.wri; rw [if_neg (by omega), if_neg (by decide), if_pos rfl, Nat.add_sub_cancel_left]
theorem wri_o {o d j c n y : Nat} (h2 : o ≠ 2) (h5 : o ≠ 5) : Kc.wri o d j c n (d + y) = if c ≤ y then none else some y := by
  unfold Kc.wri; rw [if_neg (by omega), if_neg h2, if_neg h5, Nat.add_sub_cancel_left]
/-- what writer answers -/
def WrE (v : Option Nat) (w : World) (e : Ending) (w' : World) : Prop := e = .returned (.int .i64 (wrI v)) ∧ Below w.heap.size w w'
theorem w_num {d y : Nat} (_ : d ≤ 262143) (hy : y ≤ 1099511627776) : wrap64 (((d + y : Nat) : Int) - (d : Int)) = (y : Int) := by unfold wrap64; omega
theorem q_num {y j : Nat} (hy : y ≤ 1099511627776) : (y : Int).tdiv (j : Int) = ((y / j : Nat) : Int) ∧ (y : Int).tmod (j : Int) = ((y % j : Nat) : Int) ∧ wrap64 ((y / j : Nat) : Int) = ((y / j : Nat) : Int) ∧ wrap64 ((y % j : Nat) : Int) = ((y % j : Nat) : Int) := by
  have h1 := Nat.div_le_self y j
  have h2 := Nat.mod_le y j
  refine ⟨(Int.ofNat_tdiv y j).symm, (Int.ofNat_tmod y j).symm, ?_, ?_⟩
  · generalize y / j = q at *; unfold wrap64; omega
  · generalize y % j = q at *; unfold wrap64; omega
set_option maxHeartbeats 2000000 in
set_option maxRecDepth 100000 in
theorem kwr_lo (o d s j c n x : Nat) (k : Int) (w : World) (hd : d ≤ 262143) (h : x < d) :
    Calls Tryd.prog 46 #[sv ⟨o, d, s, j, c, n, k⟩, .int .i64 (x : Int)] w fun e w' => WrE none w e w' := by
  obtain ⟨Z, hZ⟩ : ∃ Z : Int, Hid ((x : Int) - (d : Int) = Z) := ⟨_, (rfl : _ = _)⟩
  have e0 : wrap64 ((x : Int) - (d : Int)) = Z := by have := hZ.out; unfold wrap64; omega
  have hz : Z < 0 := by have := hZ.out; omega
  clear hZ hd h
  unfold sv sva
  go_enter Tryd.func46, Tryd.ntmps46
  go_wp2
  go_ret
  exact ⟨rfl, (Below.refl _ _).alloc (Nat.le_refl _) _⟩
set_option maxHeartbeats 2000000 in
set_option maxRecDepth 100000 in
theorem kwr_o (o d s j c n y : Nat) (k : Int) (w : World) (hd : d ≤ 262143) (hy : y ≤ 1099511627776) (h2 : o ≠ 2) (h5 : o ≠ 5) :
    Calls Tryd.prog 46 #[sv ⟨o, d, s, j, c, n, k⟩, .int .i64 ((d + y : Nat) : Int)] w fun e w' => WrE (if c ≤ y then none else some y) w e w' := by
  have e0 := w_num hd hy
  generalize ((d + y : Nat) : Int) = X at *
  have z0 : decide ((y : Int) < 0) = false := decide_eq_false (by omega)
  have z2 : ((o : Int) == 2) = false := by rw [beq_eq_false_iff_ne]; omega
  have z5 : ((o : Int) == 5) = false := by rw [beq_eq_false_iff_ne]; omega
  clear hd hy h2 h5
  unfold sv sva
  by_cases hc : c ≤ y
  · rw [if_pos hc]
    have hc1 : (c : Int) ≤ (y : Int) := by omega
    go_enter Tryd.func46, Tryd.ntmps46
    go_wp2
    go_ret
    exact ⟨rfl, (Below.refl _ _).alloc (Nat.le_refl _) _⟩
  · rw [if_neg hc]
    have hc1 : decide ((c : Int) ≤ (y : Int)) = false := decide_eq_false (by omega)
    go_enter Tryd.func46, Tryd.ntmps46
    go_wp2
    rw [e0]
    go_ret
    exact ⟨rfl, (Below.refl _ _).alloc (Nat.le_refl _) _⟩
set_option maxHeartbeats 2000000 in
set_option maxRecDepth 100000 in
theorem kwr_2 (d s j c n y : Nat) (k : Int) (w : World) (hd : d ≤ 262143) (hy : y ≤ 1099511627776) (hj : 1 ≤ j) :
    Calls Tryd.prog 46 #[sv ⟨2, d, s, j, c, n, k⟩, .int .i64 ((d + y : Nat) : Int)] w fun e w' => WrE (if y % j ≠ 0 ∨ c ≤ y / j then none else some (y / j)) w e w' := by
  have e0 := w_num hd hy
  obtain ⟨e1, e2, e3, e4⟩ := q_num (j := j) hy
  generalize ((d + y : Nat) : Int) = X at *
  have z0 : decide ((y : Int) < 0) = false := decide_eq_false (by omega)
  have hj0 : ¬ (j : Int) = 0 := by omega
  have hj1 : ((j : Int) == 0) = false := by rw [beq_eq_false_iff_ne]; omega
  generalize y / j = q at *
  generalize y % j = r at *
  clear hd hy hj
  unfold sv sva
  by_cases hr : r = 0
  · have hr1 : ((r : Int) != 0) = false := by rw [hr]; rfl
    have hr2 : Hid (¬ r ≠ 0) := by show ¬ r ≠ 0; omega
    clear hr
    by_cases hc : c ≤ q
    · rw [if_pos (Or.inr hc)]
      have hc1 : (c : Int) ≤ (q : Int) := by omega
      go_enter Tryd.func46, Tryd.ntmps46
      go_wp2
      go_ret
      exact ⟨rfl, (Below.refl _ _).alloc (Nat.le_refl _) _⟩
    · rw [if_neg (fun h => h.elim hr2.out hc)]
      have hc1 : decide ((c : Int) ≤ (q : Int)) = false := decide_eq_false (by omega)
      go_enter Tryd.func46, Tryd.ntmps46
      go_wp2
      rw [e3]
      go_ret
      exact ⟨rfl, (Below.refl _ _).alloc (Nat.le_refl _) _⟩
  · rw [if_pos (Or.inl hr)]
    have hr1 : ((r : Int) != 0) = true := by rw [bne_iff_ne]; omega
    clear hr
    go_enter Tryd.func46, Tryd.ntmps46
    go_wp2
    go_ret
    exact ⟨rfl, (Below.refl _ _).alloc (Nat.le_refl _) _⟩
set_option maxHeartbeats 2000000 in
set_option maxRecDepth 100000 in
theorem kwr_5 (d s j c n y : Nat) (k : Int) (w : World) (hd : d ≤ 262143) (hy : y ≤ 1099511627776) (hj : 1 ≤ j) :
    Calls Tryd.prog 46 #[sv ⟨5, d, s, j, c, n, k⟩, .int .i64 ((d + y : Nat) : Int)] w fun e w' => WrE (if n ≤ y / j ∨ c ≤ y % j then none else some (y % j)) w e w' := by
  have e0 := w_num hd hy
  obtain ⟨e1, e2, e3, e4⟩ := q_num (j := j) hy
  have e5 : IntKind.i64.wrap ((y / j : Nat) : Int) = ((y / j : Nat) : Int) := by have := Nat.div_le_self y j; generalize y / j = q at *; rw [IntKind.wrap_i64]; omega
  generalize ((d + y : Nat) : Int) = X at *
  have z0 : decide ((y : Int) < 0) = false := decide_eq_false (by omega)
  have hj0 : ¬ (j : Int) = 0 := by omega
  have hj1 : ((j : Int) == 0) = false := by rw [beq_eq_false_iff_ne]; omega
  generalize y / j = q at *
  generalize y % j = r at *
  clear hd hy hj
  unfold sv sva
  by_cases hr : n ≤ q
  · rw [if_pos (Or.inl hr)]
    have hr1 : (n : Int) ≤ (q : Int) := by omega
    go_enter Tryd.func46, Tryd.ntmps46
    go_wp2
    go_region
    all_goals (
      go_wp2
      go_ret
      exact ⟨rfl, ((Below.refl _ _).alloc (Nat.le_refl _) _).drew⟩)
  · have hr1 : decide ((n : Int) ≤ (q : Int)) = false := decide_eq_false (by omega)
    by_cases hc : c ≤ r
    · rw [if_pos (Or.inr hc)]
      have hc1 : (c : Int) ≤ (r : Int) := by omega
      go_enter Tryd.func46, Tryd.ntmps46
      go_wp2
      go_region
      all_goals (
        go_wp2
        go_ret
        exact ⟨rfl, ((Below.refl _ _).alloc (Nat.le_refl _) _).drew⟩)
    · rw [if_neg (fun h => h.elim hr hc)]
      have hc1 : decide ((c : Int) ≤ (r : Int)) = false := decide_eq_false (by omega)
      go_enter Tryd.func46, Tryd.ntmps46
      go_wp2
      go_region
      all_goals (
        go_wp2
        go_ret
        exact ⟨rfl, ((Below.refl _ _).alloc (Nat.le_refl _) _).drew⟩)
theorem kwr_c {o d s j c n : Nat} (h : Kc.Fo o d s j c n) (x : Nat) (hx : x ≤ 1099511627776) (k : Int) (w : World) :
    Calls Tryd.prog 46 #[sv ⟨o, d, s, j, c, n, k⟩, .int .i64 (x : Int)] w fun e w' => e = .returned (.int .i64 (wrI (Kc.wri o d j c n x))) ∧ Below w.heap.size w w' := by
  by_cases hlo : x < d
  · rw [wri_lo hlo]
    exact kwr_lo o d s j c n x k w h.d2 hlo
  · obtain ⟨y, rfl⟩ : ∃ y, x = d + y := ⟨x - d, by omega⟩
    by_cases h2 : o = 2
    · subst h2
      rw [wri_2]
      exact kwr_2 d s j c n y k w h.d2 (by omega) (h.jj (by omega))
    · by_cases h5 : o = 5
      · subst h5
        rw [wri_5]
        exact kwr_5 d s j c n y k w h.d2 (by omega) (h.jj (by omega))
      · rw [wri_o h2 h5]
        exact kwr_o o d s j c n y k w h.d2 (by omega) h2 h5
end Go.Proofs.YtedfjedmapimnaaDoor
/-
  The document's last of layer 18: the greatest cell that a step reads or writes.
-/
namespace Go.Proofs.YtedfjedmapimnaaDoor
open Flo Go.RowKit
def mx (l : List Nat) : Nat := l.foldl max 0
theorem mx_snoc (l : List Nat) (x : Nat) : mx (l ++ [x]) = max (mx l) x := by unfold mx; rw [List.foldl_append]; rfl
theorem take_snoc18 (l : List Nat) (q : Nat) (h : q < l.length) : l.take (q + 1) = l.take q ++ [l.getD q 0] := by
  rw [List.take_add_one, List.getElem?_eq_getElem h]
  simp [List.getD, h]
theorem mx_step (L l : List Nat) (q : Nat) (h : q < l.length) : mx (L ++ l.take (q + 1)) = max (mx (L ++ l.take q)) (l.getD q 0) := by
  rw [take_snoc18 l q h, ← List.append_assoc, mx_snoc]
def lap (o d s j c n : Nat) : Nat → List Nat
  | 0 => []
  | 1 => Kc.rds o d s j n 0 ++ Kc.wrs o d j n 0
  | _ => Kc.lasl o d s j c n
def iap (c : Nat) : Nat → Nat
  | 0 => 0
  | _ => c - 1
theorem lap_succ (o d s j c n k : Nat) (h : k < 2) : lap o d s j c n (k + 1) = lap o d s j c n k ++ (Kc.rds o d s j n (iap c k) ++ Kc.wrs o d j n (iap c k)) := by
  match k, h with
  | 0, _ => rfl
  | 1, _ => rfl
theorem rds_len {o d s j c n : Nat} (h : Kc.Fo o d s j c n) (i : Nat) : (Kc.rds o d s j n i).length ≤ 64 ∧ (Kc.wrs o d j n i).length ≤ 64 := by
  have h5 := h.n5
  have h6 := h.n6
  unfold Kc.rds Kc.wrs
  refine ⟨?_, ?_⟩
  · split
    · simp
    split
    · simp
    split
    · simp
    split
    · rename_i e; have := h5 e; simp; omega
    split
    · rename_i e; have := h6 e; simp; omega
    split
    · simp
    · simp
  · split
    · simp
    split
    · rename_i e; have := h5 e; simp; omega
    · simp
set_option maxHeartbeats 4000000 in
set_option maxRecDepth 100000 in
theorem klast_d {o d s j c n : Nat} (h : Kc.Fo o d s j c n) (k : Int) (w : World) :
    Calls Tryd.prog 34 #[sv ⟨o, d, s, j, c, n, k⟩] w fun e w' => e = .returned (.int .i64 (Kc.las o d s j c n : Nat)) ∧ Below w.heap.size w w' := by
  obtain ⟨g, hg⟩ : ∃ g, Hid (w.heap.size = g) := ⟨_, (rfl : _ = _)⟩
  obtain ⟨wa, ewa⟩ : ∃ wa, Hid (w.alloc (.cells #[.int .i64 o, .int .i64 d, .int .i64 s, .int .i64 j, .int .i64 c, .int .i64 n, .int .i64 k] 39) = wa) := ⟨_, (rfl : _ = _)⟩
  have Ba : Hid (Below w.heap.size w wa) := by rw [← ewa.out]; exact (Below.refl _ _).alloc (Nat.le_refl _) _
  have X1 : Hid (Bst wa g o d s j c n k) := by show Bst _ _ _ _ _ _ _ _ _; rw [← ewa.out, ← hg.out]; exact Bst.new w _ _ _ _ _ _ _
  obtain ⟨C, hC⟩ : ∃ C : Nat, Hid (c - 1 = C) := ⟨_, (rfl : _ = _)⟩
  have hc1 := h.c1
  have hc2 := h.c2
  have e1 : wrap64 ((c : Int) - 1) = (C : Int) := by have := hC.out; unfold wrap64; omega
  obtain ⟨G, hG⟩ : ∃ g, Hid (wa.heap.size = g) := ⟨_, (rfl : _ = _)⟩
  obtain ⟨wb, ewb⟩ : ∃ wb, Hid (wa.alloc (.cells #[.int .i64 0, .int .i64 (C : Int)] 3) = wb) := ⟨_, (rfl : _ = _)⟩
  have Bb : Hid (Below w.heap.size w wb) := by rw [← ewb.out]; exact Ba.out.alloc Ba.out.size _
  have X2 : Hid (∀ W, Below wb.heap.size wb W → Bst W g o d s j c n k) := fun W hW => by
    have h1 : Bst wb g o d s j c n k := by rw [← ewb.out]; exact X1.out.below ((Below.refl _ _).alloc (Nat.le_refl _) _)
    exact h1.below hW
  have L2 : Hid (∀ W, Below wb.heap.size wb W → ∀ i, i < 2 → W.cell? ⟨G, i, none⟩ = some (.int .i64 (iap c i : Nat))) := fun W hW i hi => by
    have h1 : wb.cell? ⟨G, i, none⟩ = some (.int .i64 (iap c i : Nat)) := by
      rw [← ewb.out, ← hG.out]
      match i, hi with
      | 0, _ => simp [go_sem, iap]
      | 1, _ => simp [go_sem, iap, hC.out]
    exact (hW.cell (cell_lt h1)).trans h1
  have hact : Hid (∀ i, i < 2 → ∀ W, Calls Tryd.prog 16 #[sv ⟨o, d, s, j, c, n, k⟩, .int .i64 (iap c i : Nat)] W fun e w' => AcE (Kc.rds o d s j n (iap c i)) (Kc.wrs o d j n (iap c i)) W e w') := fun i hi W => kact_c h _ (by match i, hi with | 0, _ => exact Nat.zero_le _ | 1, _ => show c - 1 ≤ _; omega) k W
  have hlen : Hid (∀ i, (Kc.rds o d s j n i).length ≤ 64 ∧ (Kc.wrs o d j n i).length ≤ 64) := fun i => rds_len h i
  have hfin : Hid (Kc.las o d s j c n = mx (lap o d s j c n 2)) := (rfl : _ = _)
  rw [hfin.out]
  have hsuc : Hid (∀ i, i < 2 → lap o d s j c n (i + 1) = lap o d s j c n i ++ (Kc.rds o d s j n (iap c i) ++ Kc.wrs o d j n (iap c i))) := fun i hi => lap_succ o d s j c n i hi
  have h0 : Hid (mx (lap o d s j c n 0) = 0) := (rfl : _ = _)
  generalize lap o d s j c n = LP at *
  clear h hc1 hc2 hfin
  unfold sv sva at *
  go_enter Tryd.func34, Tryd.ntmps34
  go_upto_region 1 with fail
  rw [ewa.out, hg.out]
  obtain ⟨y0, y1, y2, y3, y4, y5, y6⟩ := X1.out
  go_wp2
  rw [ewb.out, hG.out]
  clear y0 y1 y2 y3 y4 y5 y6 e1
  go_loopw [3, 17] (fun a i wr => ∃ (q M : Nat), q ≤ 2 ∧ i = .int .i64 q ∧ a = .int .i64 M ∧ Hid (Below wb.heap.size wb wr) ∧ Hid (M = mx (LP q))) (fun _ i _ => 2 - (intOf i).toNat)
  case atStart => exact ⟨0, 0, Nat.zero_le _, rfl, rfl, Below.refl _ _, h0.out.symm⟩
  case round =>
    obtain ⟨q, M, hq, rfl, rfl, Bk, hM⟩ := hrel
    by_cases hlt : q < 2
    · have hlt' : (q : Int) < 2 := by omega
      have z1 := L2.out wr Bk.out q hlt
      obtain ⟨y0, y1, y2, y3, y4, y5, y6⟩ := X2.out wr Bk.out
      have ha := hact.out q hlt wr
      have hs := hsuc.out q hlt
      have hl := hlen.out (iap c q)
      generalize iap c q = I at *
      generalize Kc.rds o d s j n I = rd at *
      generalize Kc.wrs o d j n I = wl at *
      have hsH : Hid (LP (q + 1) = LP q ++ (rd ++ wl)) := hs
      have haH : Hid (Calls Tryd.prog 16 #[.agg #[.int .i64 o, .int .i64 d, .int .i64 s, .int .i64 j, .int .i64 c, .int .i64 n, .int .i64 k], .int .i64 (I : Nat)] wr fun e w' => AcE rd wl wr e w') := ha
      clear ha hs
      go_wp2_with fail
      refine haH.out.mono ?_
      rintro e w1 ⟨v1, v2, rfl, ⟨ao1, cp1, rfl, hr1⟩, ⟨ao2, cp2, rfl, hr2⟩, B1, -⟩
      have hr1H : Hid (rd ≠ [] → ∃ b off, ao1 = some ⟨b, off, none⟩ ∧ b < w1.heap.size ∧ ∀ i, i < rd.length → w1.cell? ⟨b, off + i, none⟩ = some (.int .i64 ((rd.getD i 0 : Nat) : Int))) := hr1
      have hr2H : Hid (wl ≠ [] → ∃ b off, ao2 = some ⟨b, off, none⟩ ∧ b < w1.heap.size ∧ ∀ i, i < wl.length → w1.cell? ⟨b, off + i, none⟩ = some (.int .i64 ((wl.getD i 0 : Nat) : Int))) := hr2
      have Bk1 : Hid (Below wb.heap.size wb w1) := Bk.out.trans (B1.mono Bk.out.size)
      obtain ⟨n1, hn1⟩ : ∃ n, Hid (rd.length = n) := ⟨_, (rfl : _ = _)⟩
      obtain ⟨n2, hn2⟩ : ∃ n, Hid (wl.length = n) := ⟨_, (rfl : _ = _)⟩
      rw [hn1.out, hn2.out] at hl ⊢
      obtain ⟨hl1, hl2⟩ := hl
      clear y0 y1 y2 y3 y4 y5 y6 z1 haH hr1 hr2 B1
      go_wp2
      go_loopw [3, 29] (fun a i wr => ∃ (p P : Nat), p ≤ n1 ∧ i = .int .i64 p ∧ a = .int .i64 P ∧ w1 = wr ∧ Hid (P = mx (LP q ++ rd.take p))) (fun _ i _ => n1 - (intOf i).toNat)
      case atStart => exact ⟨0, M, Nat.zero_le _, rfl, rfl, rfl, by show _ = _; rw [List.take_zero, List.append_nil]; exact hM.out⟩
      case round =>
        obtain ⟨p, P, hp, rfl, rfl, rfl, hP⟩ := hrel
        by_cases hlt2 : p < n1
        · have hlt2' : (p : Int) < (n1 : Int) := by omega
          obtain ⟨b, off, rfl, -, hc⟩ := hr1H.out (fun e => by have := hn1.out; rw [e] at this; simp at this; omega)
          have z1 := hc p (by rw [hn1.out]; exact hlt2)
          have hst := mx_step (LP q) rd p (by rw [hn1.out]; exact hlt2)
          rw [← hP.out] at hst
          generalize rd.getD p 0 = X at *
          obtain ⟨Y, hY⟩ : ∃ Y, Hid (mx (LP q ++ rd.take (p + 1)) = Y) := ⟨_, (rfl : _ = _)⟩
          have hYm : Hid (Y = max P X) := hY.out.symm.trans hst
          clear hc hst
          by_cases hm : P < X
          · have hm' : (P : Int) < (X : Int) := by omega
            obtain rfl : Y = X := by rw [hYm.out]; omega
            go_wp2
            go_roundw
            case rel => exact ⟨p + 1, Y, by omega, by go_num, by first | rfl | (rw [if_pos hm]), by first | rfl | trivial, hY.out.symm⟩
            case measure => simp [intOf]; omega
          · have hm' : decide ((P : Int) < (X : Int)) = false := decide_eq_false (by omega)
            obtain rfl : Y = P := by rw [hYm.out]; omega
            go_wp2
            go_roundw
            case rel => exact ⟨p + 1, Y, by omega, by go_num, by first | rfl | (rw [if_neg hm]), by first | rfl | trivial, hY.out.symm⟩
            case measure => simp [intOf]; omega
        · have hlt2' : decide ((p : Int) < (n1 : Int)) = false := decide_eq_false (by omega)
          obtain rfl : p = n1 := by omega
          have hP2 : Hid (P = mx (LP q ++ rd)) := by show _ = _; rw [hP.out, List.take_of_length_le (by rw [hn1.out]; exact Nat.le_refl _)]
          clear hP hr1H
          go_wp2
          go_loopw [3, 39] (fun a i wr => ∃ (p2 P2 : Nat), p2 ≤ n2 ∧ i = .int .i64 p2 ∧ a = .int .i64 P2 ∧ w1 = wr ∧ Hid (P2 = mx (LP q ++ rd ++ wl.take p2))) (fun _ i _ => n2 - (intOf i).toNat)
          case atStart => exact ⟨0, P, Nat.zero_le _, rfl, rfl, rfl, by show _ = _; rw [List.take_zero, List.append_nil]; exact hP2.out⟩
          case round =>
            obtain ⟨p2, P2, hp2, rfl, rfl, rfl, hPP⟩ := hrel
            by_cases hlt3 : p2 < n2
            · have hlt3' : (p2 : Int) < (n2 : Int) := by omega
              obtain ⟨b, off, rfl, -, hc⟩ := hr2H.out (fun e => by have := hn2.out; rw [e] at this; simp at this; omega)
              have z1 := hc p2 (by rw [hn2.out]; exact hlt3)
              have hst := mx_step (LP q ++ rd) wl p2 (by rw [hn2.out]; exact hlt3)
              rw [← hPP.out] at hst
              generalize wl.getD p2 0 = X at *
              obtain ⟨Y, hY⟩ : ∃ Y, Hid (mx (LP q ++ rd ++ wl.take (p2 + 1)) = Y) := ⟨_, (rfl : _ = _)⟩
              have hYm : Hid (Y = max P2 X) := hY.out.symm.trans hst
              clear hc hst
              by_cases hm : P2 < X
              · have hm' : (P2 : Int) < (X : Int) := by omega
                obtain rfl : Y = X := by rw [hYm.out]; omega
                go_wp2
                go_roundw
                case rel => exact ⟨p2 + 1, Y, by omega, by go_num, by first | rfl | (rw [if_pos hm]), by first | rfl | trivial, hY.out.symm⟩
                case measure => simp [intOf]; omega
              · have hm' : decide ((P2 : Int) < (X : Int)) = false := decide_eq_false (by omega)
                obtain rfl : Y = P2 := by rw [hYm.out]; omega
                go_wp2
                go_roundw
                case rel => exact ⟨p2 + 1, Y, by omega, by go_num, by first | rfl | (rw [if_neg hm]), by first | rfl | trivial, hY.out.symm⟩
                case measure => simp [intOf]; omega
            · have hlt3' : decide ((p2 : Int) < (n2 : Int)) = false := decide_eq_false (by omega)
              obtain rfl : p2 = n2 := by omega
              have hP3 : Hid (P2 = mx (LP (q + 1))) := by show _ = _; rw [hPP.out, List.take_of_length_le (by rw [hn2.out]; exact Nat.le_refl _), hsH.out, List.append_assoc]
              clear hPP hr2H
              go_wp2
              go_roundw
              case rel => exact ⟨q + 1, P2, by omega, by go_num, rfl, Bk1, hP3.out⟩
              case measure => simp [intOf]; omega
    · have hlt' : decide ((q : Int) < 2) = false := decide_eq_false (by omega)
      have hq2 : Hid (q = 2) := by show q = 2; omega
      have hres : Hid ((.returned (.int .i64 (M : Int)) : Ending) = .returned (.int .i64 ((mx (LP 2) : Nat) : Int))) := by show _ = _; rw [hM.out, hq2.out]
      clear hM hq2
      go_wp2
      go_ret
      exact ⟨hres.out, Bb.out.trans (Bk.out.mono Bb.out.size)⟩
end Go.Proofs.YtedfjedmapimnaaDoor
/-
  The document's apart and Good of layer 18.
-/
namespace Go.Proofs.YtedfjedmapimnaaDoor
open Flo Go.RowKit
theorem rds_bd {o d s j c n : Nat} (h : Kc.Fo o d s j c n) (i : Nat) (hi : i ≤ 262144) : ∀ x ∈ Kc.rds o d s j n i, x ≤ 1099511627776 := by
  intro x hx
  have h1 := h.d2
  have h2 := h.s2
  have h3 := h.j2
  have hm : i * j ≤ 262144 * 262144 := Nat.mul_le_mul hi h3
  unfold Kc.rds at hx
  split at hx
  · simp at hx; subst hx; generalize i * j = z at hm; omega
  split at hx
  · simp at hx; omega
  split at hx
  · simp at hx
  split at hx
  · rename_i e
    have h5 := h.n5 e
    simp at hx
    obtain ⟨q, hq, rfl⟩ := hx
    have : q * j ≤ 5 * 262144 := Nat.mul_le_mul (by omega) h3
    generalize q * j = z at this
    omega
  split at hx
  · rename_i e
    have h5 := h.n6 e
    simp at hx
    obtain ⟨q, hq, rfl⟩ := hx
    have : q * j ≤ 64 * 262144 := Nat.mul_le_mul (by omega) h3
    generalize q * j = z at this
    omega
  split at hx
  · simp at hx; omega
  · simp at hx; omega
/-- the first acts are apart -/
def apk (o d s j c n m : Nat) : Bool := (List.range m).all fun i => (Kc.rds o d s j n i).all fun x => Kc.hit1 o d j c n i x
theorem apk_succ (o d s j c n m : Nat) : apk o d s j c n (m + 1) = (apk o d s j c n m && (Kc.rds o d s j n m).all fun x => Kc.hit1 o d j c n m x) := by
  unfold apk; rw [List.range_succ, List.all_append]; simp
theorem apk_bad {o d s j c n m : Nat} {x : Nat} (hm : m < c) (hx : x ∈ Kc.rds o d s j n m) (hh : Kc.hit1 o d j c n m x = false) : Kc.apa o d s j c n = false := by
  rw [← Bool.not_eq_true]
  intro h
  unfold Kc.apa at h
  rw [List.all_eq_true] at h
  have h2 := h m (by simpa using hm)
  rw [List.all_eq_true] at h2
  rw [h2 x hx] at hh
  cases hh
theorem all_step {l : List Nat} {f : Nat → Bool} (q : Nat) (h : q < l.length) (h1 : (l.take q).all f = true) (h2 : f (l.getD q 0) = true) : (l.take (q + 1)).all f = true := by
  rw [take_snoc18 l q h, List.all_append, h1]; simp at h2 ⊢; exact h2
set_option maxHeartbeats 4000000 in
set_option maxRecDepth 100000 in
theorem kapart_d {o d s j c n : Nat} (h : Kc.Fo o d s j c n) (k : Int) (w : World) :
    Calls Tryd.prog 35 #[sv ⟨o, d, s, j, c, n, k⟩] w fun e w' => e = .returned (.bool (Kc.apa o d s j c n)) ∧ Below w.heap.size w w' := by
  obtain ⟨g, hg⟩ : ∃ g, Hid (w.heap.size = g) := ⟨_, (rfl : _ = _)⟩
  obtain ⟨wa, ewa⟩ : ∃ wa, Hid (w.alloc (.cells #[.int .i64 o, .int .i64 d, .int .i64 s, .int .i64 j, .int .i64 c, .int .i64 n, .int .i64 k] 39) = wa) := ⟨_, (rfl : _ = _)⟩
  have Ba : Hid (Below w.heap.size w wa) := by rw [← ewa.out]; exact (Below.refl _ _).alloc (Nat.le_refl _) _
  have X1 : Hid (Bst wa g o d s j c n k) := by show Bst _ _ _ _ _ _ _ _ _; rw [← ewa.out, ← hg.out]; exact Bst.new w _ _ _ _ _ _ _
  have hc2 := h.c2
  have X2 : Hid (∀ W, Below wa.heap.size wa W → Bst W g o d s j c n k) := fun W hW => X1.out.below hW
  have hact : Hid (∀ i, i < c → ∀ W, Calls Tryd.prog 16 #[sv ⟨o, d, s, j, c, n, k⟩, .int .i64 (i : Nat)] W fun e w' => AcE (Kc.rds o d s j n i) (Kc.wrs o d j n i) W e w') := fun i hi W => kact_c h i (by omega) k W
  have hwr : Hid (∀ i, i < c → ∀ x ∈ Kc.rds o d s j n i, ∀ W, Calls Tryd.prog 46 #[sv ⟨o, d, s, j, c, n, k⟩, .int .i64 (x : Int)] W fun e w' => e = .returned (.int .i64 (wrI (Kc.wri o d j c n x))) ∧ Below W.heap.size W w') := fun i hi x hx W => kwr_c h x (rds_bd h i (by omega) x hx) k W
  have hlen : Hid (∀ i, (Kc.rds o d s j n i).length ≤ 64 ∧ (Kc.wrs o d j n i).length ≤ 64) := fun i => rds_len h i
  obtain ⟨R, hR⟩ : ∃ b, Hid (Kc.apa o d s j c n = b) := ⟨_, (rfl : _ = _)⟩
  have hbad : Hid (∀ m x, m < c → x ∈ Kc.rds o d s j n m → Kc.hit1 o d j c n m x = false → R = false) := fun m x h1 h2 h3 => hR.out.symm.trans (apk_bad h1 h2 h3)
  have hgood : Hid (apk o d s j c n c = true → R = true) := fun h1 => hR.out.symm.trans h1
  rw [hR.out]
  clear h hR
  unfold sv sva at *
  go_enter Tryd.func35, Tryd.ntmps35
  go_upto_region 1 with fail
  rw [ewa.out, hg.out]
  go_wp2
  go_loopw [3] (fun i wr => ∃ (q : Nat), q ≤ c ∧ i = .int .i64 q ∧ Hid (Below wa.heap.size wa wr) ∧ Hid (apk o d s j c n q = true)) (fun i _ => c - (intOf i).toNat)
  case atStart => exact ⟨0, Nat.zero_le _, rfl, Below.refl _ _, (rfl : _ = _)⟩
  case round =>
    obtain ⟨q, hq, rfl, Bk, hM⟩ := hrel
    obtain ⟨y0, y1, y2, y3, y4, y5, y6⟩ := X2.out wr Bk.out
    by_cases hlt : q < c
    · have hlt' : (q : Int) < (c : Int) := by omega
      have ha := hact.out q hlt wr
      have hl := (hlen.out q).1
      have hw := hwr.out q hlt
      have hb := hbad.out q
      have hs := apk_succ o d s j c n q
      rw [hM.out, Bool.true_and] at hs
      obtain ⟨rd, hrd⟩ : ∃ z, Hid (Kc.rds o d s j n q = z) := ⟨_, (rfl : _ = _)⟩
      rw [hrd.out] at ha hl hw hb hs
      have hsH : Hid (apk o d s j c n (q + 1) = rd.all fun x => Kc.hit1 o d j c n q x) := hs
      have hwH : Hid (∀ x ∈ rd, ∀ W, Calls Tryd.prog 46 #[.agg #[.int .i64 o, .int .i64 d, .int .i64 s, .int .i64 j, .int .i64 c, .int .i64 n, .int .i64 k], .int .i64 (x : Int)] W fun e w' => e = .returned (.int .i64 (wrI (Kc.wri o d j c n x))) ∧ Below W.heap.size W w') := hw
      have hbH : Hid (∀ x, x ∈ rd → Kc.hit1 o d j c n q x = false → R = false) := fun x h1 h2 => hb x hlt h1 h2
      have haH : Hid (Calls Tryd.prog 16 #[.agg #[.int .i64 o, .int .i64 d, .int .i64 s, .int .i64 j, .int .i64 c, .int .i64 n, .int .i64 k], .int .i64 (q : Nat)] wr fun e w' => AcE rd (Kc.wrs o d j n q) wr e w') := ha
      clear ha hs hw hb hM
      go_wp2_with fail
      refine haH.out.mono ?_
      rintro e w1 ⟨v1, v2, rfl, ⟨ao1, cp1, rfl, hr1⟩, -, B1, -⟩
      have hr1H : Hid (rd ≠ [] → ∃ b off, ao1 = some ⟨b, off, none⟩ ∧ b < w1.heap.size ∧ ∀ i, i < rd.length → w1.cell? ⟨b, off + i, none⟩ = some (.int .i64 ((rd.getD i 0 : Nat) : Int))) := hr1
      have Bk1 : Hid (Below wa.heap.size wa w1) := Bk.out.trans (B1.mono Bk.out.size)
      obtain ⟨n1, hn1⟩ : ∃ n, Hid (rd.length = n) := ⟨_, (rfl : _ = _)⟩
      rw [hn1.out] at hl ⊢
      clear y0 y1 y2 y3 y4 y5 y6 haH hr1 B1
      go_wp2
      go_loopw [23] (fun i wr => ∃ (p : Nat), p ≤ n1 ∧ i = .int .i64 p ∧ Hid (Below w1.heap.size w1 wr) ∧ Hid (((rd.take p).all fun x => Kc.hit1 o d j c n q x) = true)) (fun i _ => n1 - (intOf i).toNat)
      case atStart => exact ⟨0, Nat.zero_le _, rfl, Below.refl _ _, by rw [List.take_zero]; exact (rfl : _ = _)⟩
      case round =>
        obtain ⟨p, hp, rfl, Bp, hP⟩ := hrel
        have Bp1 : Hid (Below wa.heap.size wa wr) := Bk1.out.trans (Bp.out.mono Bk1.out.size)
        by_cases hlt2 : p < n1
        · have hlt2' : (p : Int) < (n1 : Int) := by omega
          obtain ⟨y0, y1, y2, y3, y4, y5, y6⟩ := X2.out wr Bp1.out
          obtain ⟨b, off, rfl, hbl, hc⟩ := hr1H.out (fun e => by have := hn1.out; rw [e] at this; simp at this; omega)
          have z1 := (Bp.out.cell (p := ⟨b, off + p, none⟩) hbl).trans (hc p (by rw [hn1.out]; exact hlt2))
          have hmem : rd.getD p 0 ∈ rd := by
            rw [List.getD_eq_getElem?_getD, List.getElem?_eq_getElem (by rw [hn1.out]; exact hlt2)]
            exact List.getElem_mem _
          have hst := all_step (f := fun x => Kc.hit1 o d j c n q x) p (by rw [hn1.out]; exact hlt2) hP.out
          generalize rd.getD p 0 = X at *
          have hstH : Hid (Kc.hit1 o d j c n q X = true → ((rd.take (p + 1)).all fun x => Kc.hit1 o d j c n q x) = true) := hst
          have hbX : Hid (Kc.hit1 o d j c n q X = false → R = false) := hbH.out X hmem
          have hwX := hwH.out X hmem wr
          have hhit : Hid (Kc.hit1 o d j c n q X = match Kc.wri o d j c n X with | none => true | some b => b == q) := (rfl : _ = _)
          generalize Kc.hit1 o d j c n q X = T at *
          generalize Kc.wri o d j c n X = V at *
          have hwXH : Hid (Calls Tryd.prog 46 #[.agg #[.int .i64 o, .int .i64 d, .int .i64 s, .int .i64 j, .int .i64 c, .int .i64 n, .int .i64 k], .int .i64 (X : Int)] wr fun e w' => e = .returned (.int .i64 (wrI V)) ∧ Below wr.heap.size wr w') := hwX
          clear hc hst hmem hwX
          go_wp2_with fail
          refine hwXH.out.mono ?_
          rintro e w5 ⟨rfl, B5⟩
          have Bp5 : Hid (Below w1.heap.size w1 w5) := Bp.out.trans (B5.mono Bp.out.size)
          have Bw5 : Hid (Below w.heap.size w w5) := Ba.out.trans ((Bp1.out.trans (B5.mono Bp1.out.size)).mono Ba.out.size)
          clear y0 y1 y2 y3 y4 y5 y6 z1 hwXH B5
          cases V with
          | none =>
            have e1 : wrI none = -1 := rfl
            have hT : Hid (((rd.take (p + 1)).all fun x => Kc.hit1 o d j c n q x) = true) := hstH.out hhit.out
            clear hhit hstH hbX
            rw [e1]
            go_wp2
            go_roundw
            case rel => exact ⟨p + 1, by omega, by go_num, Bp5, hT⟩
            case measure => simp [intOf]; omega
          | some v =>
            have e1 : wrI (some v) = (v : Int) := rfl
            have e2 : (0 : Int) ≤ (v : Int) := Int.natCast_nonneg v
            rw [e1]
            by_cases hvq : v = q
            · have e3 : ((v : Int) != (q : Int)) = false := by rw [hvq]; simp
              have hT : Hid (((rd.take (p + 1)).all fun x => Kc.hit1 o d j c n q x) = true) := hstH.out (hhit.out.trans (beq_iff_eq.2 hvq))
              clear hhit hstH hbX hvq
              go_wp2
              go_roundw
              case rel => exact ⟨p + 1, by omega, by go_num, Bp5, hT⟩
              case measure => simp [intOf]; omega
            · have e3 : ((v : Int) != (q : Int)) = true := by rw [bne_iff_ne]; omega
              obtain rfl : R = false := hbX.out (hhit.out.trans (beq_eq_false_iff_ne.2 hvq))
              clear hhit hstH hbX hvq
              go_wp2
              go_ret
              exact ⟨rfl, Bw5.out⟩
        · have hlt2' : decide ((p : Int) < (n1 : Int)) = false := decide_eq_false (by omega)
          obtain rfl : p = n1 := by omega
          have hP2 : Hid (apk o d s j c n (q + 1) = true) := by show _ = _; rw [hsH.out]; have := hP.out; rw [List.take_of_length_le (by rw [hn1.out]; exact Nat.le_refl _)] at this; exact this
          clear hP hr1H
          go_wp2
          go_roundw
          case rel => exact ⟨q + 1, by omega, by go_num, Bp1, hP2⟩
          case measure => simp [intOf]; omega
    · have hlt' : decide ((q : Int) < (c : Int)) = false := decide_eq_false (by omega)
      obtain rfl : q = c := by omega
      obtain rfl : R = true := hgood.out hM.out
      go_wp2
      go_ret
      exact ⟨rfl, Ba.out.trans (Bk.out.mono Ba.out.size)⟩
end Go.Proofs.YtedfjedmapimnaaDoor
