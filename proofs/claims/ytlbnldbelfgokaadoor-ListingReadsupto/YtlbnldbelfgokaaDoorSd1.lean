/-
  timbreref15: Name, Op.
-/
import Derived.Test.YtlbnldbelfgokaaDoorSd0
namespace Go.Proofs.YtlbnldbelfgokaaDoor
open Flo Go.RowKit
set_option maxHeartbeats 1000000 in
theorem dname_c (x : Int) (w : World) :
    Calls Tryd.prog 34 #[.int .i64 x] w fun e w' => e = .returned (.tuple #[.string (nmk x), .bool (Sp.kn x)]) ∧ Below w.heap.size w w' := by
  by_cases h1 : x < 1
  · have hf : Hid (Sp.kn x = false) := by unfold Sp.kn; rw [decide_eq_false (by omega), Bool.false_and]; rfl
    have hk : Hid (nmk x = ⟨#[]⟩) := by unfold nmk; rw [hf.out]; rfl
    rw [hf.out, hk.out]
    go_enter Tryd.func34, Tryd.ntmps34
    go_wp2
    go_ret2
    exact ⟨rfl, Below.refl _ _⟩
  · have q1 : decide (x < 1) = false := decide_eq_false h1
    by_cases h2 : 11 < x
    · have hf : Hid (Sp.kn x = false) := by unfold Sp.kn; rw [decide_eq_false (by omega : ¬ x ≤ 11), Bool.and_false]; rfl
      have hk : Hid (nmk x = ⟨#[]⟩) := by unfold nmk; rw [hf.out]; rfl
      rw [hf.out, hk.out]
      go_enter Tryd.func34, Tryd.ntmps34
      go_wp2
      go_ret2
      exact ⟨rfl, Below.refl _ _⟩
    · obtain ⟨o, rfl⟩ : ∃ o : Nat, x = (o : Int) := ⟨x.toNat, by omega⟩
      have hf : Hid (Sp.kn (o : Int) = true) := Sp.kn_iff.2 ⟨by omega, by omega⟩
      have hk : Hid (nmk (o : Int) = nmb o) := by unfold nmk; rw [hf.out]; rfl
      rw [hf.out, hk.out]
      have q2 : decide ((11 : Int) < (o : Int)) = false := decide_eq_false h2
      have q3 : (o : Int) < 12 := by omega
      have q4 : o < 12 := by omega
      clear h1 h2
      go_enter Tryd.func34, Tryd.ntmps34
      go_wp2_with fail
      refine (rows2_c _).mono ?_
      rintro e w1 ⟨rfl, R1, B1⟩
      obtain ⟨z0, _⟩ := R1 o q4
      have hB : Hid (Below w.heap.size w w1) := B1
      clear B1 R1
      go_wp2
      go_ret2
      exact ⟨rfl, hB.out⟩
set_option maxHeartbeats 1000000 in
theorem dop_c (t : ByteArray) (w : World) :
    Calls Tryd.prog 33 #[.string t] w fun e w' => OpE t e ∧ Below w.heap.size w w' := by
  go_enter Tryd.func33, Tryd.ntmps33
  go_wp2_with fail
  refine (rows2_c _).mono ?_
  rintro e w1 ⟨rfl, R1, B1⟩
  have hB1 : Hid (Below w.heap.size w w1) := B1
  have hR1 : Hid (Rws w1 w.heap.size) := R1
  clear B1 R1
  obtain ⟨G, hG⟩ : ∃ G, Hid (w.heap.size = G) := ⟨_, (rfl : _ = _)⟩
  rw [hG.out] at hR1 ⊢
  go_wp2
  go_loopw [8] (fun i wr => ∃ k : Nat, k ≤ 12 ∧ i = .int .i64 k ∧ Hid (∀ j, 1 ≤ j → j < k → nmb j ≠ t) ∧ Hid (Below w.heap.size w wr) ∧ Hid (Rws wr G)) (fun i _ => 12 - (intOf i).toNat)
  case atStart => exact ⟨0, Nat.zero_le _, rfl, (fun j h1 h2 => absurd h2 (by omega)), hB1, hR1⟩
  case round =>
    obtain ⟨k, hk2, rfl, hne, hB, hR⟩ := hrel
    by_cases hk : k < 12
    · have hlt : (k : Int) < 12 := by omega
      obtain ⟨y0, y1, y2, y3, y4⟩ := hR.out k hk
      have hB2 : Hid (∀ X, Below w.heap.size w (wr.alloc X)) := fun X => hB.out.alloc hB.out.size X
      have hR2 : Hid (∀ X, Rws (wr.alloc X) G) := fun X => hR.out.below ((Below.refl _ _).alloc (Nat.le_refl _) X)
      by_cases h0 : k = 0
      · subst h0
        have e0 : Hid (∀ j, 1 ≤ j → j < 1 → nmb j ≠ t) := fun j h1 h2 => absurd h2 (by omega)
        clear hne
        go_wp2
        go_roundw
        case rel => exact ⟨1, by omega, by go_num, e0, hB2.out _, hR2.out _⟩
        case measure => simp [intOf]
      · have q0 : (0 : Int) < (k : Int) := by omega
        by_cases hq : nmb k = t
        · have hOR : Hid (OpR t k true) := .inl ⟨by omega, hk, hq, rfl⟩
          have q1 : ((nmb k).toList == t.toList) = true := bl_true hq
          clear hq hne
          go_wp2
          go_ret2
          exact ⟨⟨k, true, rfl, hOR.out⟩, hB2.out _⟩
        · have q1 : ((nmb k).toList == t.toList) = false := bl_false hq
          have hne2 : Hid (∀ j, 1 ≤ j → j < k + 1 → nmb j ≠ t) := fun j h1 h2 => by
            by_cases e : j = k
            · rw [e]; exact hq
            · exact hne.out j h1 (by omega)
          clear hq hne
          go_wp2
          go_roundw
          case rel => exact ⟨k + 1, by omega, by go_num, hne2, hB2.out _, hR2.out _⟩
          case measure => simp [intOf]; omega
    · have hlt : decide ((k : Int) < 12) = false := decide_eq_false (by omega)
      have hOR : Hid (OpR t 0 false) := .inr ⟨rfl, fun j h1 h2 => hne.out j h1 (by omega), rfl⟩
      clear hne
      go_wp2
      go_ret2
      exact ⟨⟨0, false, rfl, hOR.out⟩, hB.out⟩
end Go.Proofs.YtlbnldbelfgokaaDoor
