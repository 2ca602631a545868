/-
  Lists of ints (below nought too) in memory: the call's own, and to be read.
-/
import Derived.Test.YtljopkmpcolgfaaDoorProg
import Derived.Test.YtljopkmpcolgfaaDoorWrd
import Derived.Test.YtljopkmpcolgfaaDoorIln
import Derived.WalkLawsBesides
import Derived.Outline
import Derived.Deep.QuietTactic
import Derived.BigQuiet
import Derived.WalkSmall
namespace Go.Proofs.YtljopkmpcolgfaaDoor
open Flo Go.RowKit
def iz (zs : List Int) : List Value := zs.map fun (z : Int) => Value.int .i64 z
theorem iz_len (zs : List Int) : (iz zs).length = zs.length := by simp [iz]
theorem iz_snoc (zs : List Int) (z : Int) : iz (zs ++ [z]) = iz zs ++ [.int .i64 z] := by simp [iz]
theorem iz_get (zs : List Int) (i : Nat) (h : i < zs.length) : (iz zs)[i]? = some (.int .i64 (zs.getD i 0)) := by
  simp [iz, List.getD, h]
/-- a list that can be read -/
def RdZ (w : World) (v : Value) (zs : List Int) : Prop :=
  ∃ ao cap, v = .slice ao zs.length cap ∧ (zs ≠ [] → ∃ b off, ao = some ⟨b, off, none⟩ ∧ b < w.heap.size ∧ ∀ i, i < zs.length → w.cell? ⟨b, off + i, none⟩ = some (.int .i64 (zs.getD i 0)))
theorem RdZ.of_own {w : World} {B : Nat} {v : Value} {zs : List Int} (h : w.ownsRow B 3 1 v zs.length (iz zs)) : RdZ w v zs := by
  obtain ⟨hl, ho⟩ := h
  rcases ho with ⟨h1, h2⟩ | ⟨g, cap, cur, rfl, h1, h2, h3, h4, h5, h6⟩
  · refine ⟨none, 0, by rw [h1, h2], fun hz => ?_⟩
    exact absurd (List.length_eq_zero_iff.1 h2) hz
  · refine ⟨_, cap, rfl, fun _ => ⟨g, 0, rfl, (Array.getElem?_eq_some_iff.1 h2).1, fun i hi => ?_⟩⟩
    have e1 : w.cell? ⟨g, 0 + i, none⟩ = cur[i]? := by rw [Nat.zero_add]; unfold World.cell?; rw [h2]; rfl
    rw [e1, ← iz_get zs i hi, ← h6]
    simp [hi]
theorem RdZ.below {w w' : World} {v : Value} {zs : List Int} (h : RdZ w v zs) (hb : Below w.heap.size w w') : RdZ w' v zs := by
  obtain ⟨ao, cap, rfl, h2⟩ := h
  refine ⟨ao, cap, rfl, fun hz => ?_⟩
  obtain ⟨b, off, rfl, h3, h4⟩ := h2 hz
  exact ⟨b, off, rfl, Nat.lt_of_lt_of_le h3 hb.size, fun i hi => (hb.cell (p := ⟨b, off + i, none⟩) h3).trans (h4 i hi)⟩
theorem RdZ.drewN {w : World} {v : Value} {zs : List Int} (h : RdZ w v zs) (k : Nat) : RdZ (w.drewN k) v zs := h
end Go.Proofs.YtljopkmpcolgfaaDoor
