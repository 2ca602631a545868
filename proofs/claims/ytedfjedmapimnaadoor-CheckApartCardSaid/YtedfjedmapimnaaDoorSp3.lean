/-
  Package steps: Acts, Name, Op, head, has, numbers, stepOf.
-/
import Derived.Test.YtedfjedmapimnaaDoorSp2
namespace Go.Proofs.YtedfjedmapimnaaDoor
open Flo Go.RowKit
/-- what Acts answers -/
def acv (s : Sp.St) : Int := bif Sp.fm s then s.count else 0
def nmk (x : Int) : ByteArray := bif Sp.kn x then nmb x.toNat else ⟨#[]⟩
/-- the number of a name, or 0 -/
def OpR (t : ByteArray) (r : Nat) (b : Bool) : Prop := (1 ≤ r ∧ r < 12 ∧ nmb r = t ∧ b = true) ∨ (r = 0 ∧ (∀ j, 1 ≤ j → j < 12 → nmb j ≠ t) ∧ b = false)
def OpE (t : ByteArray) (e : Ending) : Prop := ∃ (r : Nat) (b : Bool), e = .returned (.tuple #[.int .i64 (r : Nat), .bool b]) ∧ OpR t r b
theorem bl_eq {a b : ByteArray} (h : a.toList = b.toList) : a = b := by
  rw [ByteArray.toList_eq, ByteArray.toList_eq] at h
  exact ByteArray.ext (Array.toList_inj.1 h)
theorem bl_true {a b : ByteArray} (h : a = b) : (a.toList == b.toList) = true := by rw [h]; exact beq_iff_eq.2 rfl
theorem bl_false {a b : ByteArray} (h : ¬ a = b) : (a.toList == b.toList) = false := beq_eq_false_iff_ne.2 fun e => h (bl_eq e)
def na (l : List Int) : Value := .agg (l.map fun z => Value.int .i64 z).toArray
/-- a program as a value, its steps behind v -/
def pv (p : Sp.Pg) (v : Value) : Value := .agg #[.int .i64 p.len, .int .i64 p.cells, .int .i64 p.inn, .int .i64 p.out, v]
end Go.Proofs.YtedfjedmapimnaaDoor
