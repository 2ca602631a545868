/-
  timbreref15: Name, Op.
-/
import Derived.Test.YtmlfichdfeblpaaDoorSd0
namespace Go.Proofs.YtmlfichdfeblpaaDoor
open Flo Go.RowKit
set_option maxHeartbeats 1000000 in
theorem dname_c (x : Int) (w : World) :
    Calls Tryd.prog 46 #[.int .i64 x] w fun e w' => e = .returned (.tuple #[.string (nmk x), .bool (Sp.kn x)]) ∧ Below w.heap.size w w' := by
  by_cases h1 : x < 1
  · have hf : Hid (Sp.kn x = false) := by unfold Sp.kn; rw [decide_eq_false (by omega), Bool.false_and]; rfl
    have hk : Hid (nmk x = ⟨#[]⟩) := by unfold nmk; rw [hf.out]; rfl
    rw [hf.out, hk.out]
    go_enter Tryd.func46, Tryd.ntmps46
    go_wp2
    go_ret2
    exact ⟨rfl, Below.refl _ _⟩
  · have q1 : decide (x < 1) = false := decide_eq_false h1
    by_cases h2 : 11 < x
    · have hf : Hid (Sp.kn x = false) := by unfold Sp.kn; rw [decide_eq_false (by omega : ¬ x ≤ 11), Bool.and_false]; rfl
      have hk : Hid (nmk x = ⟨#[]⟩) := by unfold nmk; rw [hf.out]; rfl
      rw [hf.out, hk.out]
      go_enter Tryd.func46, Tryd.ntmps46
      go_wp2
      go_ret2
      exact ⟨rfl, Below.refl _ _⟩
    · obtain ⟨o, rfl⟩ : ∃ o : Nat, x = (o : Int) := ⟨x.toNat, by omega⟩
      have hf : Hid (Sp.kn (o : Int) = true) := Sp.kn_iff.2 ⟨by omega, by omega⟩
      have hk : Hid (nmk (o : Int) = nmb o) := by unfold nmk; rw [hf.out]; rfl
      rw [hf.out, hk.out]
      have q2 : decide ((11 : Int) < (o : Int)) = false := decide_eq_false h2
      have q3 : (o : Int) < 12 := by omega
      have q4 : o < 12 := by omega
      clear h1 h2
      go_enter Tryd.func46, Tryd.ntmps46
      go_wp2_with fail
      refine (rows2_c _).mono ?_
      rintro e w1 ⟨rfl, R1, B1⟩
      obtain ⟨z0, _⟩ := R1 o q4
      have hB : Hid (Below w.heap.size w w1) := B1
      clear B1 R1
      go_wp2
      go_ret2
      exact ⟨rfl, hB.out⟩
end Go.Proofs.YtmlfichdfeblpaaDoor
