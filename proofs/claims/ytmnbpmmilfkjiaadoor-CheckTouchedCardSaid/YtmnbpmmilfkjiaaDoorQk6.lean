/-
  Package pack: a Reader's Uint.
-/
import Derived.Test.YtmnbpmmilfkjiaaDoorQk5
import Derived.Test.YtmnbpmmilfkjiaaDoorPkr
namespace Go.Proofs.YtmnbpmmilfkjiaaDoor
open Flo Go.RowKit
/-- the error that is told -/
def ue {α : Type} (al : List Addr) (r : Except Nat α) : Value := match r with | .ok _ => .nilIface | .error c => ek al c
theorem drop_at {bs : List Nat} {i : Nat} (h : i < bs.length) : bs.drop i = bs.getD i 0 :: bs.drop (i + 1) := by
  rw [List.drop_eq_getElem_cons h]; simp [List.getD, h]
theorem getD_mem {bs : List Nat} {i : Nat} (h : i < bs.length) : bs.getD i 0 ∈ bs := by
  have : bs.getD i 0 = bs[i] := by simp [List.getD, h]
  rw [this]; exact List.getElem_mem h
theorem orsh {X b i : Nat} (hX : X < 128 ^ i) (hi : i ≤ 9) (hb : i = 9 → b ≤ 1) : bits .or .u64 (X : Int) (IntKind.u64.wrap ((b : Int) % 128 * 2 ^ (7 * i))) = ((X + b % 128 * 128 ^ i : Nat) : Int) := by
  have e1 : (128 : Nat) ^ i = 2 ^ (7 * i) := by rw [Nat.pow_mul]
  have e9 : (128 : Nat) ^ 9 = 9223372036854775808 := by decide
  have hlt : b % 128 * 128 ^ i < 18446744073709551616 := by
    by_cases h9 : i = 9
    · subst h9
      have : b % 128 * 128 ^ 9 ≤ 1 * 128 ^ 9 := Nat.mul_le_mul_right _ (by have := hb rfl; omega)
      omega
    · have h4 : 128 ^ (i + 1) ≤ 128 ^ 9 := Nat.pow_le_pow_right (by decide) (by omega)
      have h5 : b % 128 * 128 ^ i ≤ 127 * 128 ^ i := Nat.mul_le_mul_right _ (by omega)
      rw [Nat.pow_succ] at h4
      omega
  have hXl : X < 18446744073709551616 := by
    have h4 : 128 ^ i ≤ 128 ^ 9 := Nat.pow_le_pow_right (by decide) hi
    omega
  have e2 : (b : Int) % 128 * 2 ^ (7 * i) = ((b % 128 * 128 ^ i : Nat) : Int) := by rw [e1]; simp
  have e3 : IntKind.u64.wrap ((b % 128 * 128 ^ i : Nat) : Int) = ((b % 128 * 128 ^ i : Nat) : Int) := wrapId _ hlt
  rw [e2, e3, u64_or_nat _ _ hXl hlt]
  congr 1
  rw [e1] at hX ⊢
  rw [Nat.mul_comm, Nat.or_comm, ← Nat.two_pow_add_eq_or_of_lt hX, Nat.add_comm]
theorem orsh2 {X b i : Nat} (hX : X < 128 ^ i) (hi : i ≤ 9) (hb : i = 9 → b ≤ 1) : bits .or .u64 (X : Int) ((b : Int) % 128 * 2 ^ (7 * i)) = ((X + b % 128 * 128 ^ i : Nat) : Int) := by
  have e1 : (128 : Nat) ^ i = 2 ^ (7 * i) := by rw [Nat.pow_mul]
  have e9 : (128 : Nat) ^ 9 = 9223372036854775808 := by decide
  have hlt : b % 128 * 128 ^ i < 18446744073709551616 := by
    by_cases h9 : i = 9
    · subst h9
      have : b % 128 * 128 ^ 9 ≤ 1 * 128 ^ 9 := Nat.mul_le_mul_right _ (by have := hb rfl; omega)
      omega
    · have h4 : 128 ^ (i + 1) ≤ 128 ^ 9 := Nat.pow_le_pow_right (by decide) (by omega)
      have h5 : b % 128 * 128 ^ i ≤ 127 * 128 ^ i := Nat.mul_le_mul_right _ (by omega)
      rw [Nat.pow_succ] at h4
      omega
  have e2 : (b : Int) % 128 * 2 ^ (7 * i) = ((b % 128 * 128 ^ i : Nat) : Int) := by rw [e1]; simp
  have e3 : IntKind.u64.wrap ((b % 128 * 128 ^ i : Nat) : Int) = ((b % 128 * 128 ^ i : Nat) : Int) := wrapId _ hlt
  have := orsh hX hi hb
  rwa [e2, e3, ← e2] at this
theorem ux_ok (x n : Nat) : Pk.ux (.ok (x, n)) = x := rfl
theorem ud_ok (x n : Nat) : Pk.ud (.ok (x, n)) = n := rfl
/-- behind a refusal -/
theorem RrV.stay {R S : Nat → Prop} {w w' : World} {g k : Nat} {v : Value} {bs : List Nat} (h : RrV R w g v bs k) (hq : Qt w w') : Rr R w' g bs k ∧ Fr S w w' := ⟨⟨v, h.qt hq⟩, hq.fr S⟩
end Go.Proofs.YtmnbpmmilfkjiaaDoor
