/-
  Contracts of timbrenum.list and timbrenum.Num over a world that holds the nineteen sentinels.
-/
import Derived.Test.YtbipgkbnhpdmhabDoorErr
import Derived.Outline
import Derived.Laws.CopyOwn
namespace Go.Proofs.YtbipgkbnhpdmhabDoor
open Go.RowKit
theorem ret_intN {k : IntKind} {a b : Int} (h : a = b) : Ending.returned (.int k a) = .returned (.int k b) := by rw [h]
/-- The k-th error's value. -/
def ek (al : List Addr) (k : Nat) : Value := ev (al.getD k ⟨0, 0, none⟩)
/-- The array that timbrenum.list makes. -/
def earr (al : List Addr) : Value := .agg (al.map ev).toArray
theorem cell_alloc {w : World} {a : Addr} {v : Value} (h : w.cell? a = some v) (o : Obj) : (w.alloc o).cell? a = some v := by
  rw [((Below.refl w.heap.size w).alloc (Nat.le_refl _) o).cell (cell_lt h)]; exact h
theorem err_info : ∃ i j, Tryd.prog.info? 82 = some i ∧ i.comparable = true ∧ Tryd.prog.info? 100 = some j ∧ j.size ≠ 0 := by
  have h1 : (Tryd.prog.info? 82).map (·.comparable) = some true := by kernel_rfl
  have h2 : (Tryd.prog.info? 100).map (fun j => j.size != 0) = some true := by kernel_rfl
  obtain ⟨i, hi, ci⟩ := Option.map_eq_some_iff.1 h1
  obtain ⟨j, hj, cj⟩ := Option.map_eq_some_iff.1 h2
  exact ⟨i, j, hi, ci, hj, by simpa using cj⟩
theorem nil_c (al : List Addr) (j : Nat) (w : World) : (binOp .eql 31 (ek al j) .nilIface).run Tryd.prog w = .ok (.bool false) w := by
  unfold ek ev; kernel_rfl
theorem nnil_c (al : List Addr) (j : Nat) (w : World) : (binOp .neq 31 (ek al j) .nilIface).run Tryd.prog w = .ok (.bool true) w := by
  unfold ek ev; kernel_rfl
theorem guard_c (al : List Addr) (j : Nat) (op : BinOp) (t : TypeId) (x y : Operand) (b : Value) (w : World) : (eqGuard op t x y (ek al j) b).run Tryd.prog w = .ok () w := by
  unfold ek ev
  cases op <;> cases b <;> rfl
end Go.Proofs.YtbipgkbnhpdmhabDoor
