/-
  Package steps, reading: readStep.
-/
import Derived.Test.YtedfjedmapimnaaDoorSr1
import Derived.Deep.RegionWith
namespace Go.Proofs.YtedfjedmapimnaaDoor
open Flo Go.RowKit
/-- which fields there are, as a value -/
def hv (o : Nat) : Value := .agg #[.bool true, .bool (Sp.hs o), .bool (Sp.hj o), .bool true, .bool (Sp.hn o), .bool (Sp.hk o)]
theorem hv_index (o k : Nat) (hk : k < 6) (w : World) : (Instr.index 128 (hv o) (.int .i64 (k : Nat))).run Tryd.prog w = .ok (.bool ((Sp.hl o).getD k false)) w :=
  match k, hk with
  | 0, _ => by kernel_rfl
  | 1, _ => by kernel_rfl
  | 2, _ => by kernel_rfl
  | 3, _ => by kernel_rfl
  | 4, _ => by kernel_rfl
  | 5, _ => by kernel_rfl
  | n + 6, h => absurd h (by omega)
/-- what readStep tells -/
def RsE (al : List Addr) (bs : List Nat) (k : Nat) (R : Nat → Prop) (g : Nat) (w : World) (e : Ending) (w' : World) : Prop :=
  Fr (fun k => k = g) w w' ∧ ((Sp.rst bs k = none ∧ ∃ (s : Sp.St) (c : Nat), e = .returned (.tuple #[sv s, ek al c])) ∨
    ∃ (s : Sp.St) (j : Nat), Sp.rst bs k = some (s, j) ∧ e = .returned (.tuple #[sv s, .nilIface]) ∧ Rr R w' g bs j)
theorem rst_n1 {bs : List Nat} {k : Nat} (h : Sp.rn bs 11 k = none) : Sp.rst bs k = none := by unfold Sp.rst; rw [h]; rfl
theorem rst_n2 {bs : List Nat} {k o j : Nat} (h : Sp.rn bs 11 k = some (o, j)) (h2 : Sp.rf bs (Sp.hl o) j = none) : Sp.rst bs k = none := by unfold Sp.rst; rw [h, Option.bind_some]; simp only; rw [h2]; rfl
theorem rst_n3 {bs : List Nat} {k o j i : Nat} {xs : List Nat} (h : Sp.rn bs 11 k = some (o, j)) (h2 : Sp.rf bs (Sp.hl o) j = some (xs, i)) (hf : Sp.fm (Sp.sto o xs) = false) : Sp.rst bs k = none := by
  unfold Sp.rst; rw [h, Option.bind_some]; simp only; rw [h2, Option.bind_some]; simp only; rw [if_neg (by rw [hf]; decide)]
theorem rst_s {bs : List Nat} {k o j i : Nat} {xs : List Nat} (h : Sp.rn bs 11 k = some (o, j)) (h2 : Sp.rf bs (Sp.hl o) j = some (xs, i)) (hf : Sp.fm (Sp.sto o xs) = true) : Sp.rst bs k = some (Sp.sto o xs, i) := by
  unfold Sp.rst; rw [h, Option.bind_some]; simp only; rw [h2, Option.bind_some]; simp only; rw [if_pos hf]
def st0 : Sp.St := ⟨0, 0, 0, 0, 0, 0, 0⟩
end Go.Proofs.YtedfjedmapimnaaDoor
