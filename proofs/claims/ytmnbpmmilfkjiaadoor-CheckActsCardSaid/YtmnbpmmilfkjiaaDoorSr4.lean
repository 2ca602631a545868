/-
  Package steps, reading: Decode.
-/
import Derived.Test.YtmnbpmmilfkjiaaDoorSr3
namespace Go.Proofs.YtmnbpmmilfkjiaaDoor
open Flo Go.RowKit
/-- what Decode tells -/
def DcE (al : List Addr) (bs : List Nat) (w : World) (e : Ending) (w' : World) : Prop :=
  Below w.heap.size w w' ∧ ((Sp.rw_ bs = none ∧ e = .returned (.tuple #[zp, ek al 8])) ∨
    ∃ (p : Sp.Pg) (v : Value), Sp.rw_ bs = some p ∧ e = .returned (.tuple #[pv p v, .nilIface]) ∧ OwS w' w.heap.size v p.steps)
theorem rw_n1 {bs : List Nat} (h : Sp.rp bs = none) : Sp.rw_ bs = none := by unfold Sp.rw_; rw [h]; rfl
theorem rw_n2 {bs : List Nat} {p : Sp.Pg} {j : Nat} (h : Sp.rp bs = some (p, j)) (hj : ¬ j = bs.length) : Sp.rw_ bs = none := by unfold Sp.rw_; rw [h, Option.bind_some]; simp only; rw [if_neg hj]
theorem rw_s {bs : List Nat} {p : Sp.Pg} {j : Nat} (h : Sp.rp bs = some (p, j)) (hj : j = bs.length) : Sp.rw_ bs = some p := by unfold Sp.rw_; rw [h, Option.bind_some]; simp only; rw [if_pos hj]
theorem ng_new {w : World} {al : List Addr} {g : Nat} (he : E4 w al) (hO : Ops w) (hg : w.heap.size ≤ g) : Ng g := by
  have h0 := cell_lt (hO 0 (by decide)).1
  have h1 := cell_lt he.prog
  have h2 := cell_lt he.short
  have h3 := cell_lt he.varint
  have h4 := cell_lt he.limit
  have h5 := cell_lt he.tail
  simp only at h0 h1 h2 h3 h4 h5
  refine ⟨?_, ?_, ?_, ?_, ?_, ?_⟩ <;> omega
end Go.Proofs.YtmnbpmmilfkjiaaDoor
