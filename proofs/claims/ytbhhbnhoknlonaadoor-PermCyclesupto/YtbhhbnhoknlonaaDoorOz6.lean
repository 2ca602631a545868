/-
  timbremem.OwnInts of no lists.
-/
import Derived.Test.YtbhhbnhoknlonaaDoorOwn6
import Derived.Laws.AppendOwnNone
namespace Go.Proofs.YtbhhbnhoknlonaaDoor
open Flo Go.RowKit

set_option maxHeartbeats 2000000 in
theorem ownInts_00 (cap : Nat) (ad : Addr) (w : World) :
    Calls Tryd.prog 25 #[.slice (some ad) 0 cap] w fun e w' => e = .returned (.bool true) ∧ Below w.heap.size w w' := by
  obtain ⟨i0, hi, hz0, hz1, hz2⟩ := info_parts infoLI
  have hE := emptyRow w
  go_enter Tryd.func25, Tryd.ntmps25
  go_wp2
  refine wp_loop_rounds 1 ?_
  rw [rounds_succ]
  go_wp2_with (at_builtin; refine wpList_append_own _ rfl _ _ 42 rfl w.heap.size 22 i0 (.slice none 0 0) 1 24 Tryd.underlying42 hi hz0 hz1 hz2 rfl (by decide) _ _ _ rfl hE ad 0 cap [] rfl rfl (by intro j u hj; simp at hj) (by intro u hu; simp at hu) (by unfold maxLen; omega) (by omega) (by simp) ?_)
  intro v' w3 hown hgrow hnil
  obtain ⟨a', c', rfl⟩ : ∃ a' c', v' = .slice a' 0 c' := by
    rcases hown.2 with ⟨h, _⟩ | ⟨g, c, cur, h, _⟩
    · exact ⟨_, _, h⟩
    · exact ⟨_, _, h⟩
  have hb : Hid (Below w.heap.size w w3) := ((Below.refl _ w).alloc (Nat.le_refl _) _).grown hgrow (by simp) (fun k e => by cases e; exact Nat.le_refl _)
  clear hown hgrow hnil hE
  go_wp2
  go_loopw [7, 8, 9] (fun sk _ _ wx => ∃ k : Nat, k ≤ 80 ∧ sk = .int .i64 (k : Int) ∧ wx = w3) (fun sk _ _ _ => 80 - (intOf sk).toNat)
  case atStart => exact ⟨0, Nat.zero_le _, rfl, rfl⟩
  case round =>
    obtain ⟨k, hk, rfl, rfl⟩ := hrel
    by_cases hlt : k < 80
    · have hlt' : (k : Int) < 80 := by omega
      go_wp2
      refine wp_loop_rounds 1 ?_
      rw [rounds_succ]
      go_wp2
      go_roundw
      case rel => exact ⟨k + 1, by omega, by go_num, trivial⟩
      case measure => simp [intOf]; omega
    · have hlt' : decide ((k : Int) < 80) = false := decide_eq_false (by omega)
      go_wp2
      refine wp_loop_rounds 1 ?_
      rw [rounds_succ]
      go_wp2
      go_ret
      exact ⟨rfl, hb.out⟩
set_option maxHeartbeats 2000000 in
theorem ownInts_0n (w : World) :
    Calls Tryd.prog 25 #[.slice none 0 0] w fun e w' => e = .returned (.bool true) ∧ Below w.heap.size w w' := by
  obtain ⟨i0, hi, hz0, hz1, hz2⟩ := info_parts infoLI
  have hE := emptyRow w
  go_enter Tryd.func25, Tryd.ntmps25
  go_wp2
  refine wp_loop_rounds 1 ?_
  rw [rounds_succ]
  go_wp2_with (at_builtin; refine wpList_append_own_none rfl _ _ 42 rfl w.heap.size 22 i0 1 Tryd.underlying42 hi _ 0 [] rfl hE rfl ?_)
  have hb : Hid (Below w.heap.size w (w.alloc (.cells #[] 22))) := (Below.refl _ w).alloc (Nat.le_refl _) _
  generalize w.alloc (.cells #[] 22) = w3 at hb ⊢
  clear hE
  go_wp2
  go_loopw [7, 8, 9] (fun sk _ _ wx => ∃ k : Nat, k ≤ 80 ∧ sk = .int .i64 (k : Int) ∧ wx = w3) (fun sk _ _ _ => 80 - (intOf sk).toNat)
  case atStart => exact ⟨0, Nat.zero_le _, rfl, rfl⟩
  case round =>
    obtain ⟨k, hk, rfl, rfl⟩ := hrel
    by_cases hlt : k < 80
    · have hlt' : (k : Int) < 80 := by omega
      go_wp2
      refine wp_loop_rounds 1 ?_
      rw [rounds_succ]
      go_wp2
      go_roundw
      case rel => exact ⟨k + 1, by omega, by go_num, trivial⟩
      case measure => simp [intOf]; omega
    · have hlt' : decide ((k : Int) < 80) = false := decide_eq_false (by omega)
      go_wp2
      refine wp_loop_rounds 1 ?_
      rw [rounds_succ]
      go_wp2
      go_ret
      exact ⟨rfl, hb.out⟩
theorem ownInts_0 (v : Value) (w : World) {B : Nat} {W : World} (h : W.ownsRow B 22 1 v 0 []) :
    Calls Tryd.prog 25 #[v] w fun e w' => e = .returned (.bool true) ∧ Below w.heap.size w w' := by
  rcases h.2 with ⟨rfl, _⟩ | ⟨g, c, cur, rfl, _⟩
  · exact ownInts_0n w
  · exact ownInts_00 c _ w
end Go.Proofs.YtbhhbnhoknlonaaDoor
