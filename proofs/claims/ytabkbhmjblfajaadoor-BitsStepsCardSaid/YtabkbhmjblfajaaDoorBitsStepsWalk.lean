/-
  The walk of the statement BitsSteps: at all bits it returns true, and nothing that was in memory has turned.
-/
import Derived.Test.YtabkbhmjblfajaaDoorStN
namespace Go.Proofs.YtabkbhmjblfajaaDoor.bitsSteps
open Flo Go.RowKit
theorem ends {a : Nat} (n : Nat) (ha : a < 18446744073709551616) (h : nanB a = false) :
    (decide ((n : Int) % 64 < ((ap (upk a (n % 64)) a : Nat) : Int)) = false ∧ (FloatKind.f64.format.order (upk a (n % 64)) 9218868437227405312 == some Ordering.lt) = true ∧ (((ap (upk a (n % 64)) a : Nat) : Int) == (n : Int) % 64) = true) ∨ (decide ((n : Int) % 64 < ((ap (upk a (n % 64)) a : Nat) : Int)) = false ∧ (FloatKind.f64.format.order (upk a (n % 64)) 9218868437227405312 == some Ordering.lt) = false) := by
  obtain ⟨k1, k2, k3⟩ := upk_pl ha h (n % 64)
  have hr := (pl_range ha h).2.1
  have hi := pl_eq_inf k2 k1
  have hlt := lt_inf k2 k1
  have ea : ap (upk a (n % 64)) a = pl (upk a (n % 64)) - pl a := by
    unfold ap
    split at k3 <;> split <;> omega
  have g1 : decide ((n : Int) % 64 < ((ap (upk a (n % 64)) a : Nat) : Int)) = false := by
    refine decide_eq_false ?_
    rw [ea]
    split at k3 <;> omega
  by_cases e : upk a (n % 64) = 9218868437227405312
  · exact Or.inr ⟨g1, by rw [hlt]; exact decide_eq_false (by simpa using e)⟩
  · refine Or.inl ⟨g1, by rw [hlt]; exact decide_eq_true e, beq_iff_eq.2 ?_⟩
    have : pl (upk a (n % 64)) ≠ 18442240474082181120 := fun q => e (hi.1 q)
    rw [ea]
    split at k3 <;> omega
theorem walk (x0 x1 x2 x3 : Int) (w : World) (l0 : 0 ≤ x0) (u0 : x0 ≤ 18446744073709551615) (l1 : 0 ≤ x1) (u1 : x1 ≤ 18446744073709551615) (l2 : 0 ≤ x2) (u2 : x2 ≤ 18446744073709551615) (l3 : 0 ≤ x3) (u3 : x3 ≤ 18446744073709551615) (hL : laidMetH Tryd.prog Rows.bitsStepsRow.laid w) :
    Calls Tryd.prog 8 #[.int .u64 x0, .int .u64 x1, .int .u64 x2, .int .u64 x3] w fun e w' => e = .returned (.bool true) ∧ Below w.heap.size w w' := by
  obtain ⟨a, rfl⟩ := Int.eq_ofNat_of_zero_le l0
  obtain ⟨b, rfl⟩ := Int.eq_ofNat_of_zero_le l1
  obtain ⟨c, rfl⟩ := Int.eq_ofNat_of_zero_le l2
  obtain ⟨n, rfl⟩ := Int.eq_ofNat_of_zero_le l3
  obtain ⟨al, he⟩ := errs_of (W := w) hL
  cases h1 : nanB a
  · have nr := near (a := a) (by omega) h1
    cases h2 : nanB b
    · cases h3 : nanB c
      · refine (walk_n a b c n w (by omega) (by omega) (by omega) h1 nr (by omega) h2 h3 (ends n (by omega) h1)).mono ?_
        rintro e w' ⟨rfl, rfl⟩
        exact ⟨rfl, Below.refl _ _⟩
      · exact walk_h a b c n w (by omega) (by omega) (by omega) h1 nr al he h2 h3
    · exact walk_g a b c n w (by omega) (by omega) h1 nr al he h2
  · refine (walk_nan a b c n w (by omega) h1).mono ?_
    rintro e w' ⟨rfl, rfl⟩
    exact ⟨rfl, Below.refl _ _⟩
end Go.Proofs.YtabkbhmjblfajaaDoor.bitsSteps
