/-
  The document's All of layer 7; lists of roots in memory.
-/
import Derived.Test.YtehaokdjdhejlaaDoorPv7
import Derived.Test.YtehaokdjdhejlaaDoorPu7
namespace Go.Proofs.YtehaokdjdhejlaaDoor
open Flo Go.RowKit

/-- the roots of n lie at block g -/
structure Cel (w : World) (g n : Nat) : Prop where
  lt : g < w.heap.size
  at_ : ∀ j, j < n → w.cell? ⟨g, j, none⟩ = some (.complex .f64 (Rp.pc n j) (Rp.pim n j))
theorem Cel.below {w w' : World} {g n : Nat} (h : Cel w g n) (hb : Below w.heap.size w w') : Cel w' g n :=
  ⟨Nat.lt_of_lt_of_le h.lt hb.size, fun j hj => (hb.cell (p := ⟨g, j, none⟩) h.lt).trans (h.at_ j hj)⟩
theorem Cel.grown {w w' : World} {g n : Nat} {row : Option Nat} (h : Cel w g n) (hg : w.grownBy w' row) (hne : some g ≠ row) : Cel w' g n :=
  ⟨Nat.lt_of_lt_of_le h.lt hg.size, fun j hj => (World.cell?_of_block (a := ⟨g, j, none⟩) (hg.block g h.lt hne)).trans (h.at_ j hj)⟩
theorem rl_at {n j : Nat} (h : j < n) : (cz (rl n))[j]? = some (.complex .f64 (Rp.pc n j) (Rp.pim n j)) := by
  simp [cz, rl, rlv, h]
theorem Cel.own {w : World} {B g n cap : Nat} (h : w.ownsRow B 37 1 (.slice (some ⟨g, 0, none⟩) n cap) n (cz (rl n))) (hn : 0 < n) : Cel w g n := by
  have key : ∀ j, j < n → w.cell? ⟨g, j, none⟩ = some (.complex .f64 (Rp.pc n j) (Rp.pim n j)) := by
    intro j hj
    have := h.cellAt j (by omega)
    rw [rl_at hj] at this
    simpa using this
  refine ⟨?_, key⟩
  have := key 0 hn
  unfold World.cell? at this
  cases e : w.heap[g]? with
  | none => rw [e] at this; cases this
  | some o => exact (Array.getElem?_eq_some_iff.1 e).1
def rlt (n i : Nat) : List (Nat × Nat) := (List.range i).map (rlv n)
theorem rlt_snoc (n i : Nat) : rlt n (i + 1) = rlt n i ++ [rlv n i] := by simp [rlt, List.range_succ]
theorem rlt_len (n i : Nat) : (rlt n i).length = i := by simp [rlt]
theorem r7Root_n (n k : Nat) (w : World) (h : k < n) (hn : n ≤ 4194304) :
    Calls Tryd.prog 52 #[.int .i64 n, .int .i64 (k : Int)] w fun e w' => e = .returned (.complex .f64 (Rp.pc n k) (Rp.pim n k)) ∧ ∃ d, w' = w.drewN d := by
  have := r7Root_c n (k : Int) w (by omega) hn
  rw [md_self h] at this
  exact this
end Go.Proofs.YtehaokdjdhejlaaDoor
