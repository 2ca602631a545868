/-
  Lists of complex numbers in memory: made, written, the call's own, and to be read.
-/
import Derived.Test.YtgfmimmiaalhcaaDoorProg
import Derived.Test.YtgfmimmiaalhcaaDoorWrd
import Derived.WalkLawsBesides
import Derived.Outline
import Derived.Laws.MakeOwn
import Derived.Laws.CopyOwn
import Derived.OwnWalk
import Derived.Deep.QuietTactic
import Derived.BigQuiet
namespace Go.Proofs.YtgfmimmiaalhcaaDoor
open Flo Go.RowKit
theorem infoCx : (Tryd.prog.info? 23).map (fun i => (i.zero, i.size, i.bytes)) = some (some (.complex .f64 0 0), 1, 16) := by kernel_rfl
theorem info_cx : ∃ i, Tryd.prog.info? 23 = some i ∧ i.zero = some (.complex .f64 0 0) ∧ i.size = 1 ∧ i.bytes = 16 := by
  obtain ⟨i, hi, h⟩ := Option.map_eq_some_iff.1 infoCx
  simp only [Prod.mk.injEq] at h
  exact ⟨i, hi, h.1, h.2.1, h.2.2⟩
theorem store_cx (a : Addr) (x y : Nat) (w : World) (m : Mode) : (store a (.complex .f64 x y) m).run Tryd.prog w = stored Tryd.prog w a (.complex .f64 x y) m := run_store Tryd.prog w a _ m rfl
theorem makeCx (w : World) (n : Nat) (hn : n ≤ 1099511627776) :
    ∃ w', (Instr.makeSlice 38 (.int .i64 (n : Int)) (.int .i64 (n : Int))).run Tryd.prog w = .ok (.slice (some ⟨w.heap.size, 0, none⟩) n n) w' ∧
      Hid (w'.ownsRow w.heap.size 23 1 (.slice (some ⟨w.heap.size, 0, none⟩) n n) n (List.replicate n (.complex .f64 0 0))) ∧ Hid (Below w.heap.size w w') := by
  obtain ⟨i0, hi0, hz0, hz1, hz2⟩ := info_cx
  obtain ⟨w', h1, h2, h3⟩ := run_make_full (P := Tryd.prog) w w.heap.size 38 23 i0 (.complex .f64 0 0) 1 Tryd.underlying38 hi0 hz0 hz1 .i64 .i64 n (by rw [hz2]; omega) (by unfold maxLen; omega) (Nat.le_refl _)
  refine ⟨w', h1, ?_, (Below.refl _ w).grown h3 (Nat.le_refl _) (fun b e => by cases e)⟩
  have e : (Value.complex .f64 0 0).cells = #[.complex .f64 0 0] := rfl
  rw [e, Nat.mul_one, toList_madeCells_one] at h2
  exact h2
theorem emptyCx (w : World) (B : Nat) (hB : B ≤ w.heap.size) : (w.alloc (.cells #[] 23)).ownsRow B 23 1 (.slice (some ⟨w.heap.size, 0, none⟩) 0 0) 0 [] :=
  ⟨rfl, .inr ⟨w.heap.size, 0, #[], rfl, hB, heap_alloc_new w _, Nat.le_refl _, Nat.zero_le _, rfl, rfl⟩⟩
/-- complex numbers as values -/
def cz (zs : List (Nat × Nat)) : List Value := zs.map fun z => Value.complex .f64 z.1 z.2
theorem cz_len (zs : List (Nat × Nat)) : (cz zs).length = zs.length := by simp [cz]
theorem cz_get (zs : List (Nat × Nat)) (i : Nat) (h : i < zs.length) : (cz zs)[i]? = some (.complex .f64 (zs.getD i (0, 0)).1 (zs.getD i (0, 0)).2) := by
  simp [cz, List.getD, h]
theorem cz_snoc (zs : List (Nat × Nat)) (z : Nat × Nat) : cz (zs ++ [z]) = cz zs ++ [.complex .f64 z.1 z.2] := by simp [cz]
/-- a list that can be read -/
def RdC (w : World) (v : Value) (zs : List (Nat × Nat)) : Prop :=
  ∃ ao cap, v = .slice ao zs.length cap ∧ (zs ≠ [] → ∃ b off, ao = some ⟨b, off, none⟩ ∧ b < w.heap.size ∧ ∀ i, i < zs.length → w.cell? ⟨b, off + i, none⟩ = some (.complex .f64 (zs.getD i (0, 0)).1 (zs.getD i (0, 0)).2))
theorem RdC.of_own {w : World} {B : Nat} {v : Value} {zs : List (Nat × Nat)} (h : w.ownsRow B 23 1 v zs.length (cz zs)) : RdC w v zs := by
  obtain ⟨hl, ho⟩ := h
  rcases ho with ⟨h1, h2⟩ | ⟨g, cap, cur, rfl, h1, h2, h3, h4, h5, h6⟩
  · refine ⟨none, 0, by rw [h1, h2], fun hz => ?_⟩
    exact absurd (List.length_eq_zero_iff.1 h2) hz
  · refine ⟨_, cap, rfl, fun _ => ⟨g, 0, rfl, (Array.getElem?_eq_some_iff.1 h2).1, fun i hi => ?_⟩⟩
    have e1 : w.cell? ⟨g, 0 + i, none⟩ = cur[i]? := by rw [Nat.zero_add]; unfold World.cell?; rw [h2]; rfl
    rw [e1, ← cz_get zs i hi, ← h6]
    simp [hi]
theorem RdC.slice {w : World} {v : Value} {zs : List (Nat × Nat)} (h : RdC w v zs) {n : Nat} (hn : zs.length = n) : ∃ ao cap, v = .slice ao n cap := by
  obtain ⟨ao, cap, rfl, _⟩ := h
  exact ⟨ao, cap, by rw [hn]⟩
theorem RdC.below {w w' : World} {v : Value} {zs : List (Nat × Nat)} (h : RdC w v zs) (hb : Below w.heap.size w w') : RdC w' v zs := by
  obtain ⟨ao, cap, rfl, h2⟩ := h
  refine ⟨ao, cap, rfl, fun hz => ?_⟩
  obtain ⟨b, off, rfl, h3, h4⟩ := h2 hz
  exact ⟨b, off, rfl, Nat.lt_of_lt_of_le h3 hb.size, fun i hi => (hb.cell (p := ⟨b, off + i, none⟩) h3).trans (h4 i hi)⟩
theorem RdC.drewN {w : World} {v : Value} {zs : List (Nat × Nat)} (h : RdC w v zs) (k : Nat) : RdC (w.drewN k) v zs := h
theorem own_blw {B : Nat} {e : TypeId} {k : Nat} {v : Value} {n : Nat} {xs : List Value} {w w' : World} (h : w.ownsRow B e k v n xs) (hb : Below w.heap.size w w') : w'.ownsRow B e k v n xs :=
  h.kept (row := none) ⟨hb.os, hb.tape, hb.output, hb.size, fun j hj _ => hb.block j hj⟩ (by cases hv : v.ownBlock <;> simp)
theorem own_base {B C : Nat} {e : TypeId} {k : Nat} {v : Value} {n : Nat} {xs : List Value} {w : World} (h : w.ownsRow B e k v n xs) (hC : C ≤ B) : w.ownsRow C e k v n xs := by
  obtain ⟨x1, x2⟩ := h
  exact ⟨x1, x2.imp id (fun ⟨g, c, cu, y1, y2, y3⟩ => ⟨g, c, cu, y1, Nat.le_trans hC y2, y3⟩)⟩
end Go.Proofs.YtgfmimmiaalhcaaDoor
