/-
  Package steps: Same.
-/
import Derived.Test.YtedfjedmapimnaaDoorSp4
import Derived.Deep.RegionLaw
namespace Go.Proofs.YtedfjedmapimnaaDoor
open Flo Go.RowKit
theorem step_skip {c : Bool} {A B : Prop} (h : c = false) (hB : B) : if c = true then A else B := by subst h; simpa
theorem step_do {c : Bool} {A B : Prop} (h : c = true) (hA : A) : if c = true then A else B := by subst h; simpa
/-- a program at a block -/
structure Bpg (w : World) (g : Nat) (p : Sp.Pg) (v : Value) : Prop where
  c0 : w.cell? ⟨g, 0, none⟩ = some (.int .i64 p.len)
  c1 : w.cell? ⟨g, 1, none⟩ = some (.int .i64 p.cells)
  c2 : w.cell? ⟨g, 2, none⟩ = some (.int .i64 p.inn)
  c3 : w.cell? ⟨g, 3, none⟩ = some (.int .i64 p.out)
  c4 : w.cell? ⟨g, 4, none⟩ = some (v)
theorem Bpg.new (w : World) (p : Sp.Pg) (v : Value) : Bpg (w.alloc (.cells #[.int .i64 p.len, .int .i64 p.cells, .int .i64 p.inn, .int .i64 p.out, v] 24)) w.heap.size p v := ⟨by simp, by simp, by simp, by simp, by simp⟩
theorem Bpg.below {w w' : World} {g : Nat} {p : Sp.Pg} {v : Value} (h : Bpg w g p v) (hb : Below w.heap.size w w') : Bpg w' g p v := ⟨(hb.cell (cell_lt h.c0)).trans h.c0, (hb.cell (cell_lt h.c1)).trans h.c1, (hb.cell (cell_lt h.c2)).trans h.c2, (hb.cell (cell_lt h.c3)).trans h.c3, (hb.cell (cell_lt h.c4)).trans h.c4⟩
def hdeq (a b : Sp.Pg) : Bool := (a.len == b.len) && ((a.cells == b.cells) && ((a.inn == b.inn) && (a.out == b.out)))
theorem hdeq_iff {a b : Sp.Pg} : hdeq a b = true ↔ Sp.hd a = Sp.hd b := by simp [hdeq, Sp.hd]
def pgeq (a b : Sp.Pg) : Bool := hdeq a b && sseq a.steps b.steps
theorem pgeq_iff {a b : Sp.Pg} : pgeq a b = true ↔ a = b := by
  obtain ⟨a1, a2, a3, a4, a5⟩ := a
  obtain ⟨b1, b2, b3, b4, b5⟩ := b
  simp [pgeq, hdeq, sseq_iff, and_assoc]
end Go.Proofs.YtedfjedmapimnaaDoor
