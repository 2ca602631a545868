/-
  Lists of factors, of the program and of the document, in one sentence each.
-/
import Derived.Test.YtkgecgkjmikihabDoorPg4
import Derived.Test.YtkgecgkjmikihabDoorFc5
namespace Go.Proofs.YtkgecgkjmikihabDoor
open Flo Go.RowKit
/-- the list of factors, none outside 2 to 2^32 -/
def FacO (n : Int) (zs : List Nat) : Prop := (2 ≤ n ∧ n ≤ 4294967296 ∧ Nt.Fac n.toNat zs) ∨ ((n < 2 ∨ 4294967296 < n) ∧ zs = [])
theorem FacO.eq {n : Int} {xs ys : List Nat} (a : FacO n xs) (b : FacO n ys) : xs = ys := by
  rcases a with ⟨a1, a2, a3⟩ | ⟨a1, a2⟩ <;> rcases b with ⟨b1, b2, b3⟩ | ⟨b1, b2⟩
  · exact a3.eq b3
  · omega
  · omega
  · rw [a2, b2]
theorem FacO.len {n : Int} {xs : List Nat} (a : FacO n xs) : xs.length ≤ 32 := by
  rcases a with ⟨a1, a2, a3⟩ | ⟨a1, a2⟩
  · exact a3.len (by omega)
  · rw [a2]; simp
theorem pFac_o (n : Int) (w : World) :
    Calls Tryd.prog 10 #[.int .i64 n] w fun e w' => ∃ v zs, e = .returned v ∧ FacO n zs ∧ w'.ownsRow w.heap.size 3 1 v zs.length (il zs) ∧ Below w.heap.size w w' := by
  by_cases h : n < 2 ∨ 4294967296 < n
  · refine (pFactors_no n w h).mono ?_
    rintro e w' ⟨rfl, rfl⟩
    exact ⟨_, [], rfl, Or.inr ⟨h, rfl⟩, World.ownsRow_nil _ _ _ _, Below.refl _ _⟩
  · obtain ⟨m, rfl⟩ : ∃ m : Nat, n = (m : Int) := ⟨n.toNat, by omega⟩
    refine (pFactors_n m w (by omega) (by omega)).mono ?_
    rintro e w' ⟨v, zs, rfl, hf, hown, hb⟩
    exact ⟨v, zs, rfl, Or.inl ⟨by omega, by omega, by rw [Int.toNat_natCast]; exact hf⟩, hown, hb⟩
theorem rFac_o (n : Int) (w : World) :
    Calls Tryd.prog 15 #[.int .i64 n] w fun e w' => ∃ v zs, e = .returned v ∧ FacO n zs ∧ w'.ownsRow w.heap.size 3 1 v zs.length (il zs) ∧ Below w.heap.size w w' := by
  by_cases h : n < 2 ∨ 4294967296 < n
  · refine (r5Factors_no n w h).mono ?_
    rintro e w' ⟨rfl, rfl⟩
    exact ⟨_, [], rfl, Or.inr ⟨h, rfl⟩, World.ownsRow_nil _ _ _ _, Below.refl _ _⟩
  · obtain ⟨m, rfl⟩ : ∃ m : Nat, n = (m : Int) := ⟨n.toNat, by omega⟩
    refine (r5Factors_n m w (by omega) (by omega)).mono ?_
    rintro e w' ⟨v, zs, rfl, hf, hown, hb⟩
    exact ⟨v, zs, rfl, Or.inl ⟨by omega, by omega, by rw [Int.toNat_natCast]; exact hf⟩, hown, hb⟩
end Go.Proofs.YtkgecgkjmikihabDoor
