/-
  The program's naturals: trimmed.
-/
import Derived.Test.YtoojjefndkdnpaaGreatDoorNvm
namespace Go.Proofs.YtoojjefndkdnpaaGreatDoor
open Flo Go.RowKit
/-- the base of the program's naturals -/
def W64 : Nat := 18446744073709551616
theorem W64_2 : 2 ≤ W64 := by decide
theorem W64_0 : 0 < W64 := by decide
theorem wd64 (n i : Nat) : Wd.wd W64 n i < 18446744073709551616 := Wd.wd_lt W64_0 n i
set_option maxHeartbeats 1000000 in
theorem trimmed_0 (ao : Option Addr) (cap : Nat) (w : World) :
    Calls Tryz.prog 74 #[.slice ao 0 cap] w fun e w' => e = .returned (.slice ao 0 cap) ∧ w = w' := by
  go_enter Tryz.func74, Tryz.ntmps74
  go_wp2
  refine wp_loop_rounds 1 ?_
  rw [rounds_succ]
  go_wp2
  go_ret
  exact ⟨rfl, rfl⟩
def lenOf : Value → Nat | .slice _ n _ => n | _ => 0
set_option maxHeartbeats 1000000 in
theorem trimmed_n (B g k cap n : Nat) (w : World) (hr : Row 22 .u64 w B (.slice (some ⟨g, 0, none⟩) k cap) k (Wd.wd W64 n)) (hn : Hid (n < W64 ^ k)) :
    Calls Tryz.prog 74 #[.slice (some ⟨g, 0, none⟩) k cap] w fun e w' => e = .returned (.slice (some ⟨g, 0, none⟩) (Wd.nw W64 n) cap) ∧ Row 22 .u64 w B (.slice (some ⟨g, 0, none⟩) (Wd.nw W64 n) cap) (Wd.nw W64 n) (Wd.wd W64 n) ∧ w = w' := by
  have hkm := hr.max
  go_enter Tryz.func74, Tryz.ntmps74
  go_wp2
  go_loop [0] (fun s => ∃ j : Nat, j ≤ k ∧ s = .slice (some ⟨g, 0, none⟩) j cap ∧ Hid (n < W64 ^ j) ∧ Hid (Row 22 .u64 w B (.slice (some ⟨g, 0, none⟩) j cap) j (Wd.wd W64 n))) (fun s => lenOf s)
  case atStart => exact ⟨k, Nat.le_refl _, rfl, hn, hr⟩
  case round =>
    obtain ⟨j, hj, rfl, hnj, hrj⟩ := hrel
    have hcap : j ≤ cap := by
      rcases hrj.out.2 with ⟨h, _⟩ | ⟨g', cap', cur, h, _, _, h2, _⟩
      · cases h
      · cases h; exact h2
    by_cases h0 : j = 0
    · subst h0
      have hz : Hid (Wd.nw W64 n = 0) := by
        have h1 : n < 1 := by have := hnj.out; rwa [Nat.pow_zero] at this
        rw [show n = 0 by omega]; exact Wd.nw_zero _
      go_wp2
      go_ret
      rw [hz.out]
      exact ⟨rfl, hrj.out, rfl⟩
    · obtain ⟨i, rfl⟩ : ∃ i, j = i + 1 := ⟨j - 1, by omega⟩
      have hc := hrj.out.cell i (by omega)
      by_cases hz : Wd.wd W64 n i = 0
      · have hn' : Hid (n < W64 ^ i) := Wd.nw_lt_of_top W64_2 hnj.out hz
        rw [hz] at hc
        go_wp2
        go_round
        case rel => exact ⟨i, by omega, by go_num, hn', hrj.out.pop⟩
        case measure => simp [lenOf]
      · have hw : Hid (Wd.nw W64 n = i + 1) := Wd.nw_of_top W64_2 hnj.out hz
        generalize Wd.wd W64 n i = x at hc hz
        have hz' : ((x : Int) == 0) = false := beq_eq_false_iff_ne.2 (by omega)
        clear hz
        go_wp2
        go_ret
        rw [hw.out]
        exact ⟨rfl, hrj.out, rfl⟩
theorem trimmed_c (B k n : Nat) (v : Value) (w : World) (hr : Row 22 .u64 w B v k (Wd.wd W64 n)) (hn : n < W64 ^ k) :
    Calls Tryz.prog 74 #[v] w fun e w' => ∃ v', e = .returned v' ∧ Row 22 .u64 w B v' (Wd.nw W64 n) (Wd.wd W64 n) ∧ v'.ownBlock = v.ownBlock ∧ w = w' := by
  rcases hr.cases with ⟨rfl, rfl⟩ | ⟨g, cap, rfl, _⟩
  · have hz : Wd.nw W64 n = 0 := by
      have h1 : n < 1 := by rwa [Nat.pow_zero] at hn
      rw [show n = 0 by omega]; exact Wd.nw_zero _
    refine (trimmed_0 _ _ w).mono ?_
    rintro e w' ⟨rfl, rfl⟩
    exact ⟨_, rfl, by rw [hz]; exact hr, rfl, rfl⟩
  · refine (trimmed_n B g k cap n w hr hn).mono ?_
    rintro e w' ⟨rfl, h1, rfl⟩
    exact ⟨_, rfl, h1, rfl, rfl⟩
end Go.Proofs.YtoojjefndkdnpaaGreatDoor
