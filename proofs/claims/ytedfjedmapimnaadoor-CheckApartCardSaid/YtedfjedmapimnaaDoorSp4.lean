/-
  Steps and programs held against one another: the program's Same.
-/
import Derived.Test.YtedfjedmapimnaaDoorSp3
import Derived.Deep.QuietTactic
import Derived.BigQuiet
import Derived.WalkSmall
namespace Go.Proofs.YtedfjedmapimnaaDoor
open Flo Go.RowKit
def steq (a b : Sp.St) : Bool := (a.op == b.op) && ((a.dst == b.dst) && ((a.src == b.src) && ((a.jump == b.jump) && ((a.count == b.count) && ((a.n == b.n) && (a.k == b.k))))))
theorem steq_iff {a b : Sp.St} : steq a b = true ↔ a = b := by
  obtain ⟨a1, a2, a3, a4, a5, a6, a7⟩ := a
  obtain ⟨b1, b2, b3, b4, b5, b6, b7⟩ := b
  simp [steq]
theorem steq_self (a : Sp.St) : steq a a = true := steq_iff.2 rfl
theorem eqS (d : Nat) (a b : Sp.St) (w : World) : (Op.equalIn (d + 1 + 1) 39 (sv a) (sv b)).run Tryd.prog w = .ok (steq a b) w := by
  unfold sv sva steq
  rw [Op.equalIn]
  simp [go_sem]
  repeat' split
  all_goals simp_all
theorem run_neS (a b : Sp.St) (w : World) : (binOp .neq 39 (sv a) (sv b)).run Tryd.prog w = .ok (.bool (!steq a b)) w := by
  have e : binOp .neq 39 (sv a) (sv b) = (do pure (.bool (!(← Op.equalIn (9998 + 1 + 1) 39 (sv a) (sv b))))) := by rfl
  rw [e]
  simp [eqS 9998 a b _, go_sem]
theorem below_drewN {B : Nat} {a : World} : ∀ {w : World} (_ : Below B a w) (n : Nat), Below B a (w.drewN n)
  | w, h, 0 => h
  | w, h, n + 1 => by
    have := (below_drewN h n).drew
    exact ⟨this.os, this.tape, this.output, this.size, this.block⟩
/-- a step's cells, from p on -/
structure SAt (w : World) (q p : Nat) (s : Sp.St) : Prop where
  c0 : w.cell? ⟨q, p, none⟩ = some (.int .i64 s.op)
  c1 : w.cell? ⟨q, p + 1, none⟩ = some (.int .i64 s.dst)
  c2 : w.cell? ⟨q, p + 2, none⟩ = some (.int .i64 s.src)
  c3 : w.cell? ⟨q, p + 3, none⟩ = some (.int .i64 s.jump)
  c4 : w.cell? ⟨q, p + 4, none⟩ = some (.int .i64 s.count)
  c5 : w.cell? ⟨q, p + 5, none⟩ = some (.int .i64 s.n)
  c6 : w.cell? ⟨q, p + 6, none⟩ = some (.int .i64 s.k)
theorem SAt.below {w w' : World} {q p : Nat} {s : Sp.St} (h : SAt w q p s) (hb : Below w.heap.size w w') : SAt w' q p s :=
  ⟨(hb.cell (cell_lt h.c0)).trans h.c0, (hb.cell (cell_lt h.c1)).trans h.c1, (hb.cell (cell_lt h.c2)).trans h.c2, (hb.cell (cell_lt h.c3)).trans h.c3, (hb.cell (cell_lt h.c4)).trans h.c4, (hb.cell (cell_lt h.c5)).trans h.c5, (hb.cell (cell_lt h.c6)).trans h.c6⟩
/-- a list of steps that can be read -/
def Ss (w : World) (ao : Option Addr) (ss : List Sp.St) : Prop := ∀ i s, ss[i]? = some s → ∃ q o, ao = some ⟨q, o, none⟩ ∧ SAt w q (o + i * 7) s
theorem Ss.below {w w' : World} {ao : Option Addr} {ss : List Sp.St} (h : Ss w ao ss) (hb : Below w.heap.size w w') : Ss w' ao ss := fun i s hi => by
  obtain ⟨q, o, e, hs⟩ := h i s hi
  exact ⟨q, o, e, hs.below hb⟩
def sseq : List Sp.St → List Sp.St → Bool
  | [], [] => true
  | a :: l, b :: m => steq a b && sseq l m
  | _, _ => false
theorem sseq_iff : ∀ {l m : List Sp.St}, sseq l m = true ↔ l = m
  | [], [] => by simp [sseq]
  | [], _ :: _ => by simp [sseq]
  | _ :: _, [] => by simp [sseq]
  | a :: l, b :: m => by simp [sseq, steq_iff, sseq_iff]
theorem sseq_len {l m : List Sp.St} (h : l.length ≠ m.length) : sseq l m = false := by
  cases e : sseq l m with
  | false => rfl
  | true => exact absurd (congrArg List.length (sseq_iff.1 e)) h
theorem drop_get {l : List Sp.St} {i : Nat} {s : Sp.St} (h : l[i]? = some s) : l.drop i = s :: l.drop (i + 1) := by
  obtain ⟨hi, rfl⟩ := List.getElem?_eq_some_iff.1 h
  exact List.drop_eq_getElem_cons hi
end Go.Proofs.YtedfjedmapimnaaDoor
