/-
  Lists of whole numbers (int) in memory: the call's own, and to be read.
-/
import Derived.Test.YtedfjedmapimnaaDoorProg
import Derived.Test.YtedfjedmapimnaaDoorWrd
import Derived.WalkLawsBesides
import Derived.Outline
import Derived.Deep.QuietTactic
import Derived.BigQuiet
import Derived.WalkSmall
namespace Go.Proofs.YtedfjedmapimnaaDoor
open Flo Go.RowKit
theorem infoInt : (Tryd.prog.info? 3).map (fun i => (i.zero, i.size, i.bytes)) = some (some (.int .i64 0), 1, 8) := by kernel_rfl
def il (zs : List Nat) : List Value := zs.map fun (z : Nat) => Value.int .i64 (z : Int)
theorem il_len (zs : List Nat) : (il zs).length = zs.length := by simp [il]
theorem il_snoc (zs : List Nat) (z : Nat) : il (zs ++ [z]) = il zs ++ [.int .i64 (z : Int)] := by simp [il]
theorem il_get (zs : List Nat) (i : Nat) (h : i < zs.length) : (il zs)[i]? = some (.int .i64 ((zs.getD i 0 : Nat) : Int)) := by
  simp [il, List.getD, h]
/-- a list that can be read -/
def RdI (w : World) (v : Value) (zs : List Nat) : Prop :=
  ∃ ao cap, v = .slice ao zs.length cap ∧ (zs ≠ [] → ∃ b off, ao = some ⟨b, off, none⟩ ∧ b < w.heap.size ∧ ∀ i, i < zs.length → w.cell? ⟨b, off + i, none⟩ = some (.int .i64 ((zs.getD i 0 : Nat) : Int)))
theorem RdI.of_own {w : World} {B : Nat} {v : Value} {zs : List Nat} (h : w.ownsRow B 3 1 v zs.length (il zs)) : RdI w v zs := by
  obtain ⟨hl, ho⟩ := h
  rcases ho with ⟨h1, h2⟩ | ⟨g, cap, cur, rfl, h1, h2, h3, h4, h5, h6⟩
  · refine ⟨none, 0, by rw [h1, h2], fun hz => ?_⟩
    exact absurd (List.length_eq_zero_iff.1 h2) hz
  · refine ⟨_, cap, rfl, fun _ => ⟨g, 0, rfl, (Array.getElem?_eq_some_iff.1 h2).1, fun i hi => ?_⟩⟩
    have e1 : w.cell? ⟨g, 0 + i, none⟩ = cur[i]? := by rw [Nat.zero_add]; unfold World.cell?; rw [h2]; rfl
    rw [e1, ← il_get zs i hi, ← h6]
    simp [hi]
theorem RdI.below {w w' : World} {v : Value} {zs : List Nat} (h : RdI w v zs) (hb : Below w.heap.size w w') : RdI w' v zs := by
  obtain ⟨ao, cap, rfl, h2⟩ := h
  refine ⟨ao, cap, rfl, fun hz => ?_⟩
  obtain ⟨b, off, rfl, h3, h4⟩ := h2 hz
  exact ⟨b, off, rfl, Nat.lt_of_lt_of_le h3 hb.size, fun i hi => (hb.cell (p := ⟨b, off + i, none⟩) h3).trans (h4 i hi)⟩
theorem RdI.drewN {w : World} {v : Value} {zs : List Nat} (h : RdI w v zs) (k : Nat) : RdI (w.drewN k) v zs := h
end Go.Proofs.YtedfjedmapimnaaDoor
