/-
  Plain at minus one and a half: the view.
-/
import Derived.Test.YtmfnjmgdindlaaaDoorScl
namespace Go.Proofs.YtmfnjmgdindlaaaDoor
open Flo Go.RowKit
theorem nw_small {n : Nat} (h : n < 18446744073709551616) : Wd.nw W64 n ≤ 1000 := Nat.le_trans (nw_bit (k := 1) h) (by decide)
/-- a block's cells, to be read and written -/
structure Cells (X : World) (b : Nat) (vs : List Value) : Prop where
  lt : b < X.heap.size
  at' : ∀ i x, vs[i]? = some x → X.cell? ⟨b, i, none⟩ = some x
  free : ∀ i, X.frozen? ⟨b, i, none⟩ = false
theorem Cells.below {X X' : World} {b : Nat} {vs : List Value} (h : Cells X b vs) (hb : Below X.heap.size X X') : Cells X' b vs :=
  ⟨Nat.lt_of_lt_of_le h.lt hb.size, fun i x hx => (hb.cell (p := ⟨b, i, none⟩) h.lt).trans (h.at' i x hx), fun i => (hb.frozen (p := ⟨b, i, none⟩) h.lt).trans (h.free i)⟩
theorem Cells.set {X : World} {b : Nat} {vs : List Value} (h : Cells X b vs) (i : Nat) (x : Value) (hi : i < vs.length) : Cells (X.setCell ⟨b, i, none⟩ x) b (vs.set i x) :=
  ⟨by rw [World.size_setCell]; exact h.lt, fun j y hy => by
    by_cases e : j = i
    · subst e
      rw [List.getElem?_set_self hi] at hy
      cases hy
      obtain ⟨y, hy⟩ : ∃ y, vs[j]? = some y := ⟨vs[j], List.getElem?_eq_getElem hi⟩
      exact World.cell?_setCell_same _ _ _ (h.at' j y hy)
    · rw [List.getElem?_set_ne (Ne.symm e)] at hy
      rw [World.cell?_setCell_other _ _ _ _ (fun q : (⟨b, i, none⟩ : Addr) = ⟨b, j, none⟩ => e (congrArg Addr.off q).symm)]
      exact h.at' j y hy, fun j => by rw [World.frozen?_setCell]; exact h.free j⟩
theorem Cells.other {X : World} {b : Nat} {vs : List Value} (h : Cells X b vs) {a : Addr} (ha : a.block ≠ b) (x : Value) : Cells (X.setCell a x) b vs :=
  ⟨by rw [World.size_setCell]; exact h.lt, fun j y hy => by rw [World.cell?_setCell_other _ _ _ _ (fun e => ha (by rw [e]))]; exact h.at' j y hy, fun j => by rw [World.frozen?_setCell]; exact h.free j⟩
theorem Cells.new (X : World) (cs : Array Value) (T : TypeId) : Cells (X.alloc (.cells cs T)) X.heap.size cs.toList :=
  ⟨by simp, fun i x hx => by rw [World.cell?_alloc_new]; simpa using hx, fun i => World.frozen?_alloc_new _ _ _ _⟩
theorem Cells.alloc {X : World} {b : Nat} {vs : List Value} (h : Cells X b vs) (o : Obj) : Cells (X.alloc o) b vs := h.below ((Below.refl _ _).alloc (Nat.le_refl _) o)
theorem Nl.setOther {X : World} {B n : Nat} {v : Value} (h : Nl X B v n) {a : Addr} (ha : a.block < B) (x : Value) : Nl (X.setCell a x) B v n :=
  Row.block h fun b hb => Below.heap_setCell _ _ _ _ (by have := (Row.lt h b hb).1; omega)
theorem units_p (x q : Nat) (ex : Bool) (u v : Value) (w : World) (C : Nat) (hu : Hid (Nl w C u (1 * 10 ^ 17 * 2 ^ 0))) (hv : Hid (Nl w C v (1 * 10 ^ 0 * 2 ^ 54))) (hx0 : 0 < x) (hx : x < 18446744073709551616)
    (hq : 1 * 10 ^ 17 * 2 ^ 0 * x / (1 * 10 ^ 0 * 2 ^ 54) = q) (he : decide (1 * 10 ^ 17 * 2 ^ 0 * x % (1 * 10 ^ 0 * 2 ^ 54) = 0) = ex) (hql : q < 18446744073709551616) :
    Calls Tryd.prog 62 #[.agg #[u, v], .int .u64 x] w fun e w' => e = .returned (.tuple #[.int .u64 (q : Int), .bool ex]) ∧ Below w.heap.size w w' := by
  have h := units_c C C (1 * 10 ^ 17 * 2 ^ 0) (1 * 10 ^ 0 * 2 ^ 54) x u v w hu hv (by show 0 < _; decide) hx0 hx (by show _ < _; rw [hq]; exact hql) (nw_small (by decide)) (nw_small (by decide))
  rw [hq, he] at h
  exact h
set_option maxRecDepth 100000 in
set_option maxHeartbeats 1000000 in
theorem viewAt_p (w : World) :
    Calls Tryd.prog 41 #[.int .u64 6755399441055744, .int .i64 (-52), .int .i64 (-17)] w fun e w' => e = .returned (.agg #[.int .i64 (-17), .int .u64 150000000000000000, .bool true, .int .u64 149999999999999989, .int .u64 150000000000000011]) ∧ Below w.heap.size w w' := by
  go_enter Tryd.func41, Tryd.ntmps41
  go_wp2_with fail
  generalize hW : w.alloc (.cells #[.int .i64 0, .int .u64 0, .bool false, .int .u64 0, .int .u64 0] 52) = W0
  have kr0 : Hid (Cells W0 w.heap.size [.int .i64 0, .int .u64 0, .bool false, .int .u64 0, .int .u64 0]) := by rw [← hW]; exact Cells.new _ _ _
  have bw0 : Hid (Below w.heap.size w W0) := by rw [← hW]; exact (Below.refl _ _).alloc (Nat.le_refl _) _
  clear hW
  refine (scaleOf_nn 54 17 W0 (by decide) (by decide) (by decide) (by decide)).mono ?_
  rintro e w1 ⟨u, d, rfl, hu, hd, hb1⟩
  have hu1 : Hid (Nl w1 W0.heap.size u (1 * 10 ^ 17 * 2 ^ 0)) := hu
  have hd1 : Hid (Nl w1 W0.heap.size d (1 * 10 ^ 0 * 2 ^ 54)) := hd
  have kr1 : Hid (Cells w1 w.heap.size [.int .i64 0, .int .u64 0, .bool false, .int .u64 0, .int .u64 0]) := kr0.out.below hb1
  have bw1 : Hid (Below w.heap.size w w1) := bw0.out.trans (hb1.mono bw0.out.size)
  have hz01 : Hid (W0.heap.size ≤ w1.heap.size) := hb1.size
  have hrl : Hid (w.heap.size < W0.heap.size) := kr0.out.lt
  obtain ⟨ao1, cap1, hs1⟩ := Row.slice hu
  obtain ⟨ao2, cap2, hs2⟩ := Row.slice hd
  clear hu hd hb1 kr0 bw0
  subst hs1
  subst hs2
  generalize hl1 : Wd.nw W64 (1 * 10 ^ 17 * 2 ^ 0) = l1 at hu1 ⊢
  generalize hl2 : Wd.nw W64 (1 * 10 ^ 0 * 2 ^ 54) = l2 at hd1 ⊢
  clear hl1 hl2
  go_wp2_with fail
  have hul : Hid (∀ b, (Value.slice ao1 l1 cap1).ownBlock = some b → b < w1.heap.size) := fun b hb => (Row.lt hu1.out b hb).2
  have hdl : Hid (∀ b, (Value.slice ao2 l2 cap2).ownBlock = some b → b < w1.heap.size) := fun b hb => (Row.lt hd1.out b hb).2
  generalize hX : (w1.alloc (.cells #[.slice ao1 l1 cap1, .slice ao2 l2 cap2] 89)).alloc (.cells #[.int .i64 (-17), .int .u64 0, .bool false, .int .u64 0, .int .u64 0] 52) = X2
  have ks2 : Hid (Cells X2 w1.heap.size [.slice ao1 l1 cap1, .slice ao2 l2 cap2]) := by rw [← hX]; exact (Cells.new w1 _ _).alloc _
  have kv2 : Hid (Cells X2 (w1.heap.size + 1) [.int .i64 (-17), .int .u64 0, .bool false, .int .u64 0, .int .u64 0]) := by
    rw [← hX]
    have h := Cells.new (w1.alloc (.cells #[.slice ao1 l1 cap1, .slice ao2 l2 cap2] 89)) #[.int .i64 (-17), .int .u64 0, .bool false, .int .u64 0, .int .u64 0] 52
    rw [World.size_alloc] at h
    exact h
  have kr2 : Hid (Cells X2 w.heap.size [.int .i64 0, .int .u64 0, .bool false, .int .u64 0, .int .u64 0]) := by rw [← hX]; exact (kr1.out.alloc _).alloc _
  have hu2 : Hid (Nl X2 W0.heap.size (.slice ao1 l1 cap1) (1 * 10 ^ 17 * 2 ^ 0)) := by rw [← hX]; exact Row.allocs (Row.allocs hu1.out _) _
  have hd2 : Hid (Nl X2 W0.heap.size (.slice ao2 l2 cap2) (1 * 10 ^ 0 * 2 ^ 54)) := by rw [← hX]; exact Row.allocs (Row.allocs hd1.out _) _
  have bw2 : Hid (Below w.heap.size w X2) := by rw [← hX]; exact (bw1.out.alloc bw1.out.size _).alloc (by rw [World.size_alloc]; exact Nat.le_succ_of_le bw1.out.size) _
  have hz2 : Hid (w1.heap.size + 2 ≤ X2.heap.size) := by show _ ≤ _; rw [← hX]; simp
  clear hX hu1 hd1 kr1 bw1
  refine (units_p 27021597764222976 150000000000000000 true _ _ X2 W0.heap.size hu2 hd2 (by decide) (by decide) (by decide) (by decide) (by decide)).mono ?_
  rintro e y2 ⟨rfl, hb⟩
  have ks2a : Hid (Cells y2 w1.heap.size [.slice ao1 l1 cap1, .slice ao2 l2 cap2]) := ks2.out.below hb
  have kv2a : Hid (Cells y2 (w1.heap.size + 1) [.int .i64 (-17), .int .u64 0, .bool false, .int .u64 0, .int .u64 0]) := kv2.out.below hb
  have kr2a : Hid (Cells y2 w.heap.size [.int .i64 0, .int .u64 0, .bool false, .int .u64 0, .int .u64 0]) := kr2.out.below hb
  have hu2a : Hid (Nl y2 W0.heap.size (.slice ao1 l1 cap1) (1 * 10 ^ 17 * 2 ^ 0)) := Row.under hu2.out hb
  have hd2a : Hid (Nl y2 W0.heap.size (.slice ao2 l2 cap2) (1 * 10 ^ 0 * 2 ^ 54)) := Row.under hd2.out hb
  have bw2a : Hid (Below w.heap.size w y2) := bw2.out.trans (hb.mono bw2.out.size)
  have hz2a : Hid (w1.heap.size + 2 ≤ y2.heap.size) := Nat.le_trans hz2.out hb.size
  clear hb ks2 kv2 kr2 hu2 hd2 bw2 hz2
  have fs02a := ks2a.out.at' 0 _ rfl
  have fs12a := ks2a.out.at' 1 _ rfl
  have fv02a := kv2a.out.at' 0 _ rfl
  have fv12a := kv2a.out.at' 1 _ rfl
  have fv22a := kv2a.out.at' 2 _ rfl
  have fv32a := kv2a.out.at' 3 _ rfl
  have fv42a := kv2a.out.at' 4 _ rfl
  have gv02a := kv2a.out.free 0
  have gv12a := kv2a.out.free 1
  have gv22a := kv2a.out.free 2
  have gv32a := kv2a.out.free 3
  have gv42a := kv2a.out.free 4
  go_wp2_with fail
  clear fs02a fs12a fv02a fv12a fv22a fv32a fv42a gv02a gv12a gv22a gv32a gv42a
  generalize hX : ((y2.setCell ⟨w1.heap.size + 1, 1, none⟩ (.int .u64 150000000000000000)).setCell ⟨w1.heap.size + 1, 2, none⟩ (.bool true)) = X3
  have ks3 : Hid (Cells X3 w1.heap.size [.slice ao1 l1 cap1, .slice ao2 l2 cap2]) := by rw [← hX]; exact ((ks2a.out.other (a := ⟨w1.heap.size + 1, 1, none⟩) (by show w1.heap.size + 1 ≠ w1.heap.size; omega) _).other (a := ⟨w1.heap.size + 1, 2, none⟩) (by show w1.heap.size + 1 ≠ w1.heap.size; omega) _)
  have kv3 : Hid (Cells X3 (w1.heap.size + 1) [.int .i64 (-17), .int .u64 150000000000000000, .bool true, .int .u64 0, .int .u64 0]) := by rw [← hX]; exact ((kv2a.out.set 1 (.int .u64 150000000000000000) (by decide)).set 2 (.bool true) (by decide))
  have kr3 : Hid (Cells X3 w.heap.size [.int .i64 0, .int .u64 0, .bool false, .int .u64 0, .int .u64 0]) := by rw [← hX]; exact ((kr2a.out.other (a := ⟨w1.heap.size + 1, 1, none⟩) (by show w1.heap.size + 1 ≠ w.heap.size; have := hrl.out; have := hz01.out; omega) _).other (a := ⟨w1.heap.size + 1, 2, none⟩) (by show w1.heap.size + 1 ≠ w.heap.size; have := hrl.out; have := hz01.out; omega) _)
  have hu3 : Hid (Nl X3 W0.heap.size (.slice ao1 l1 cap1) (1 * 10 ^ 17 * 2 ^ 0)) := by
    rw [← hX]
    exact Row.block hu2a.out fun b hb => by
      have := hul.out b hb
      rw [Below.heap_setCell _ _ _ _ (by show b ≠ w1.heap.size + 1; omega)]; rw [Below.heap_setCell _ _ _ _ (by show b ≠ w1.heap.size + 1; omega)]
  have hd3 : Hid (Nl X3 W0.heap.size (.slice ao2 l2 cap2) (1 * 10 ^ 0 * 2 ^ 54)) := by
    rw [← hX]
    exact Row.block hd2a.out fun b hb => by
      have := hdl.out b hb
      rw [Below.heap_setCell _ _ _ _ (by show b ≠ w1.heap.size + 1; omega)]; rw [Below.heap_setCell _ _ _ _ (by show b ≠ w1.heap.size + 1; omega)]
  have bw3 : Hid (Below w.heap.size w X3) := by rw [← hX]; exact ((bw2a.out.setCell (p := ⟨w1.heap.size + 1, 1, none⟩) (by show w.heap.size ≤ w1.heap.size + 1; have := hrl.out; have := hz01.out; omega) _).setCell (p := ⟨w1.heap.size + 1, 2, none⟩) (by show w.heap.size ≤ w1.heap.size + 1; have := hrl.out; have := hz01.out; omega) _)
  have hz3 : Hid (w1.heap.size + 2 ≤ X3.heap.size) := by show _ ≤ _; rw [← hX]; simp only [World.size_setCell]; exact hz2a.out
  clear hX ks2a kv2a kr2a hu2a hd2a bw2a hz2a
  refine (units_p 27021597764222974 149999999999999988 false _ _ X3 W0.heap.size hu3 hd3 (by decide) (by decide) (by decide) (by decide) (by decide)).mono ?_
  rintro e y3 ⟨rfl, hb⟩
  have ks3a : Hid (Cells y3 w1.heap.size [.slice ao1 l1 cap1, .slice ao2 l2 cap2]) := ks3.out.below hb
  have kv3a : Hid (Cells y3 (w1.heap.size + 1) [.int .i64 (-17), .int .u64 150000000000000000, .bool true, .int .u64 0, .int .u64 0]) := kv3.out.below hb
  have kr3a : Hid (Cells y3 w.heap.size [.int .i64 0, .int .u64 0, .bool false, .int .u64 0, .int .u64 0]) := kr3.out.below hb
  have hu3a : Hid (Nl y3 W0.heap.size (.slice ao1 l1 cap1) (1 * 10 ^ 17 * 2 ^ 0)) := Row.under hu3.out hb
  have hd3a : Hid (Nl y3 W0.heap.size (.slice ao2 l2 cap2) (1 * 10 ^ 0 * 2 ^ 54)) := Row.under hd3.out hb
  have bw3a : Hid (Below w.heap.size w y3) := bw3.out.trans (hb.mono bw3.out.size)
  have hz3a : Hid (w1.heap.size + 2 ≤ y3.heap.size) := Nat.le_trans hz3.out hb.size
  clear hb ks3 kv3 kr3 hu3 hd3 bw3 hz3
  have fs03a := ks3a.out.at' 0 _ rfl
  have fs13a := ks3a.out.at' 1 _ rfl
  have fv03a := kv3a.out.at' 0 _ rfl
  have fv13a := kv3a.out.at' 1 _ rfl
  have fv23a := kv3a.out.at' 2 _ rfl
  have fv33a := kv3a.out.at' 3 _ rfl
  have fv43a := kv3a.out.at' 4 _ rfl
  have gv03a := kv3a.out.free 0
  have gv13a := kv3a.out.free 1
  have gv23a := kv3a.out.free 2
  have gv33a := kv3a.out.free 3
  have gv43a := kv3a.out.free 4
  go_wp2_with fail
  clear fs03a fs13a fv03a fv13a fv23a fv33a fv43a gv03a gv13a gv23a gv33a gv43a
  generalize hX : ((y3.setCell ⟨w1.heap.size + 1, 3, none⟩ (.int .u64 149999999999999988)).setCell ⟨w1.heap.size + 1, 3, none⟩ (.int .u64 149999999999999989)) = X4
  have ks4 : Hid (Cells X4 w1.heap.size [.slice ao1 l1 cap1, .slice ao2 l2 cap2]) := by rw [← hX]; exact ((ks3a.out.other (a := ⟨w1.heap.size + 1, 3, none⟩) (by show w1.heap.size + 1 ≠ w1.heap.size; omega) _).other (a := ⟨w1.heap.size + 1, 3, none⟩) (by show w1.heap.size + 1 ≠ w1.heap.size; omega) _)
  have kv4 : Hid (Cells X4 (w1.heap.size + 1) [.int .i64 (-17), .int .u64 150000000000000000, .bool true, .int .u64 149999999999999989, .int .u64 0]) := by rw [← hX]; exact ((kv3a.out.set 3 (.int .u64 149999999999999988) (by decide)).set 3 (.int .u64 149999999999999989) (by decide))
  have kr4 : Hid (Cells X4 w.heap.size [.int .i64 0, .int .u64 0, .bool false, .int .u64 0, .int .u64 0]) := by rw [← hX]; exact ((kr3a.out.other (a := ⟨w1.heap.size + 1, 3, none⟩) (by show w1.heap.size + 1 ≠ w.heap.size; have := hrl.out; have := hz01.out; omega) _).other (a := ⟨w1.heap.size + 1, 3, none⟩) (by show w1.heap.size + 1 ≠ w.heap.size; have := hrl.out; have := hz01.out; omega) _)
  have hu4 : Hid (Nl X4 W0.heap.size (.slice ao1 l1 cap1) (1 * 10 ^ 17 * 2 ^ 0)) := by
    rw [← hX]
    exact Row.block hu3a.out fun b hb => by
      have := hul.out b hb
      rw [Below.heap_setCell _ _ _ _ (by show b ≠ w1.heap.size + 1; omega)]; rw [Below.heap_setCell _ _ _ _ (by show b ≠ w1.heap.size + 1; omega)]
  have hd4 : Hid (Nl X4 W0.heap.size (.slice ao2 l2 cap2) (1 * 10 ^ 0 * 2 ^ 54)) := by
    rw [← hX]
    exact Row.block hd3a.out fun b hb => by
      have := hdl.out b hb
      rw [Below.heap_setCell _ _ _ _ (by show b ≠ w1.heap.size + 1; omega)]; rw [Below.heap_setCell _ _ _ _ (by show b ≠ w1.heap.size + 1; omega)]
  have bw4 : Hid (Below w.heap.size w X4) := by rw [← hX]; exact ((bw3a.out.setCell (p := ⟨w1.heap.size + 1, 3, none⟩) (by show w.heap.size ≤ w1.heap.size + 1; have := hrl.out; have := hz01.out; omega) _).setCell (p := ⟨w1.heap.size + 1, 3, none⟩) (by show w.heap.size ≤ w1.heap.size + 1; have := hrl.out; have := hz01.out; omega) _)
  have hz4 : Hid (w1.heap.size + 2 ≤ X4.heap.size) := by show _ ≤ _; rw [← hX]; simp only [World.size_setCell]; exact hz3a.out
  clear hX ks3a kv3a kr3a hu3a hd3a bw3a hz3a
  refine (units_p 27021597764222978 150000000000000011 false _ _ X4 W0.heap.size hu4 hd4 (by decide) (by decide) (by decide) (by decide) (by decide)).mono ?_
  rintro e y4 ⟨rfl, hb⟩
  have ks4a : Hid (Cells y4 w1.heap.size [.slice ao1 l1 cap1, .slice ao2 l2 cap2]) := ks4.out.below hb
  have kv4a : Hid (Cells y4 (w1.heap.size + 1) [.int .i64 (-17), .int .u64 150000000000000000, .bool true, .int .u64 149999999999999989, .int .u64 0]) := kv4.out.below hb
  have kr4a : Hid (Cells y4 w.heap.size [.int .i64 0, .int .u64 0, .bool false, .int .u64 0, .int .u64 0]) := kr4.out.below hb
  have hu4a : Hid (Nl y4 W0.heap.size (.slice ao1 l1 cap1) (1 * 10 ^ 17 * 2 ^ 0)) := Row.under hu4.out hb
  have hd4a : Hid (Nl y4 W0.heap.size (.slice ao2 l2 cap2) (1 * 10 ^ 0 * 2 ^ 54)) := Row.under hd4.out hb
  have bw4a : Hid (Below w.heap.size w y4) := bw4.out.trans (hb.mono bw4.out.size)
  have hz4a : Hid (w1.heap.size + 2 ≤ y4.heap.size) := Nat.le_trans hz4.out hb.size
  clear hb ks4 kv4 kr4 hu4 hd4 bw4 hz4
  have fs04a := ks4a.out.at' 0 _ rfl
  have fs14a := ks4a.out.at' 1 _ rfl
  have fv04a := kv4a.out.at' 0 _ rfl
  have fv14a := kv4a.out.at' 1 _ rfl
  have fv24a := kv4a.out.at' 2 _ rfl
  have fv34a := kv4a.out.at' 3 _ rfl
  have fv44a := kv4a.out.at' 4 _ rfl
  have gv04a := kv4a.out.free 0
  have gv14a := kv4a.out.free 1
  have gv24a := kv4a.out.free 2
  have gv34a := kv4a.out.free 3
  have gv44a := kv4a.out.free 4
  have fr0 := kr4a.out.at' 0 _ rfl
  have gr0 := kr4a.out.free 0
  have fr1 := kr4a.out.at' 1 _ rfl
  have gr1 := kr4a.out.free 1
  have fr2 := kr4a.out.at' 2 _ rfl
  have gr2 := kr4a.out.free 2
  have fr3 := kr4a.out.at' 3 _ rfl
  have gr3 := kr4a.out.free 3
  have fr4 := kr4a.out.at' 4 _ rfl
  have gr4 := kr4a.out.free 4
  have ne1 : ¬ (w1.heap.size + 1 = w.heap.size) := by have := hrl.out; have := hz01.out; omega
  have ne2 : ¬ (w.heap.size = w1.heap.size + 1) := by have := hrl.out; have := hz01.out; omega
  go_wp2
  generalize hX : ((((((y4.setCell ⟨w1.heap.size + 1, 4, none⟩ (.int .u64 150000000000000011)).setCell ⟨w.heap.size, 0, none⟩ (.int .i64 (-17))).setCell ⟨w.heap.size, 1, none⟩ (.int .u64 150000000000000000)).setCell ⟨w.heap.size, 2, none⟩ (.bool true)).setCell ⟨w.heap.size, 3, none⟩ (.int .u64 149999999999999989)).setCell ⟨w.heap.size, 4, none⟩ (.int .u64 150000000000000011)) = Z
  have kz : Cells Z w.heap.size [.int .i64 (-17), .int .u64 150000000000000000, .bool true, .int .u64 149999999999999989, .int .u64 150000000000000011] := by rw [← hX]; exact ((((((kr4a.out.other (a := ⟨w1.heap.size + 1, 4, none⟩) ne1 (.int .u64 150000000000000011)).set 0 (.int .i64 (-17)) (by decide)).set 1 (.int .u64 150000000000000000) (by decide)).set 2 (.bool true) (by decide)).set 3 (.int .u64 149999999999999989) (by decide)).set 4 (.int .u64 150000000000000011) (by decide))
  have bz : Below w.heap.size w Z := by rw [← hX]; exact ((((((bw4a.out.setCell (p := ⟨w1.heap.size + 1, 4, none⟩) (by show w.heap.size ≤ w1.heap.size + 1; have := hrl.out; have := hz01.out; omega) (.int .u64 150000000000000011)).setCell (p := ⟨w.heap.size, 0, none⟩) (Nat.le_refl _) (.int .i64 (-17))).setCell (p := ⟨w.heap.size, 1, none⟩) (Nat.le_refl _) (.int .u64 150000000000000000)).setCell (p := ⟨w.heap.size, 2, none⟩) (Nat.le_refl _) (.bool true)).setCell (p := ⟨w.heap.size, 3, none⟩) (Nat.le_refl _) (.int .u64 149999999999999989)).setCell (p := ⟨w.heap.size, 4, none⟩) (Nat.le_refl _) (.int .u64 150000000000000011))
  clear hX
  have z0 := kz.at' 0 _ rfl
  have z1 := kz.at' 1 _ rfl
  have z2 := kz.at' 2 _ rfl
  have z3 := kz.at' 3 _ rfl
  have z4 := kz.at' 4 _ rfl
  refine bodyPost_ret (v := .agg #[.int .i64 (-17), .int .u64 150000000000000000, .bool true, .int .u64 149999999999999989, .int .u64 150000000000000011]) (by simp [results, Tryd.results41, go_sem, z0, z1, z2, z3, z4]) rfl ?_
  exact ⟨rfl, bz⟩
end Go.Proofs.YtmfnjmgdindlaaaDoor
