/-
  Package pack: a Reader's Upto, Int, fixed.
-/
import Derived.Test.YtmnbpmmilfkjiaaDoorQk6
namespace Go.Proofs.YtmnbpmmilfkjiaaDoor
open Flo Go.RowKit
/-- a number of at most so much -/
def upr (most : Int) (r : Except Nat (Nat × Nat)) : Except Nat (Nat × Nat) := match r with | .ok (x, n) => if most < 0 ∨ most < (x : Int) then .error 2 else .ok (x, n) | .error c => .error c
theorem upr_err (most : Int) (c : Nat) : upr most (.error c) = .error c := rfl
theorem upr_lim {most : Int} {x n : Nat} (h : most < 0 ∨ most < (x : Int)) : upr most (.ok (x, n)) = .error 2 := if_pos h
theorem upr_ok {most : Int} {x n : Nat} (h : ¬ (most < 0 ∨ most < (x : Int))) : upr most (.ok (x, n)) = .ok (x, n) := if_neg h
theorem upr_bd {bs : List Nat} (h : ∀ b ∈ bs, b < 256) (k : Nat) (hk : k ≤ bs.length) (most : Int) : k + Pk.ud (upr most (Pk.rv 0 0 (bs.drop k))) ≤ bs.length := by
  have h1 := (Pk.rv_bd h k hk).2
  cases hr : Pk.rv 0 0 (bs.drop k) with
  | error c => exact hk
  | ok p =>
    obtain ⟨x, n⟩ := p
    rw [hr] at h1
    by_cases hl : most < 0 ∨ most < (x : Int)
    · rw [upr_lim hl]; exact hk
    · rw [upr_ok hl]; exact h1
end Go.Proofs.YtmnbpmmilfkjiaaDoor
