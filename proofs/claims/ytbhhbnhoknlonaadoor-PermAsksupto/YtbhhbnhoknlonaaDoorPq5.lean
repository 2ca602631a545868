/-
  timbremem.KeptInts answers true where the list and its marks still stand.
-/
import Derived.Test.YtbhhbnhoknlonaaDoorPq4
namespace Go.Proofs.YtbhhbnhoknlonaaDoor
open Flo Go.RowKit

set_option maxHeartbeats 2000000 in
theorem kept_f (F off cf : Nat) (vb : Value) (p : List Int) (fz : Nat → Int) (w : World) (hg1 : Hid (∀ i, i < p.length → fz i = p.getD i 0)) (hg2 : Hid (∀ j, j < 80 → fz (p.length + j) = mkv 7 j)) (hf : Hid (∀ i, i < p.length + 80 → w.cell? ⟨F, off + i, none⟩ = some (.int .i64 (fz i)))) (hR : RdZ w vb p) (hn : p.length ≤ 17592186043904) :
    Calls Tryd.prog 21 #[.slice (some ⟨F, off, none⟩) (p.length + 80) cf, vb] w fun e w' => e = .returned (.bool true) ∧ ∃ k, w' = w.drewN k := by
  obtain ⟨ao, cap, rfl, hrd⟩ := hR
  have hRH : Hid (p ≠ [] → ∃ b off, ao = some ⟨b, off, none⟩ ∧ b < w.heap.size ∧ ∀ i, i < p.length → w.cell? ⟨b, off + i, none⟩ = some (.int .i64 (p.getD i 0))) := hrd
  obtain ⟨n, hnn⟩ : ∃ n, p.length = n := ⟨_, rfl⟩
  have hnH : Hid (p.length = n) := hnn
  rw [hnn] at hn hf ⊢
  have hN80 : (n + 80 : Nat) ≤ 17592186043984 := by omega
  clear hrd hnn
  go_enter Tryd.func21, Tryd.ntmps21
  go_wp2
  go_loopw [5, 15] (fun _ si wx => ∃ i k : Nat, i ≤ n ∧ si = .int .i64 (i : Int) ∧ wx = w.drewN k) (fun _ si _ => n - (intOf si).toNat)
  case atStart => exact ⟨0, 0, Nat.zero_le _, rfl, rfl⟩
  case round =>
    obtain ⟨i, k, hi, rfl, rfl⟩ := hrel
    by_cases hlt : i < n
    · have hlt' : (i : Int) < (n : Int) := by omega
      have hlt2 : (i : Int) < (n : Int) + 80 := by omega
      have hil : i < p.length := by rw [hnH.out]; exact hlt
      obtain ⟨b, o, rfl, hbw, hcell⟩ := hRH.out (fun e => by rw [e] at hil; simp at hil)
      have c1 : (w.drewN k).cell? ⟨b, o + i, none⟩ = some (.int .i64 (p.getD i 0)) := hcell i hil
      have c2 : (w.drewN k).cell? ⟨F, off + i, none⟩ = some (.int .i64 (p.getD i 0)) := (hf.out i (by omega)).trans (by rw [hg1.out i hil])
      generalize p.getD i 0 = z at c1 c2
      generalize hw1 : w.drewN k = w5 at c1 c2 ⊢
      have hw : Hid (w.drewN k = w5) := hw1
      clear hw1 hcell
      go_wp2
      go_quiet (fail)
      go_wp2
      go_roundw
      case rel => exact ⟨i + 1, k + nq, by omega, by go_num, by rw [← hw.out, World.drewN_drewN]⟩
      case measure => simp [intOf]; omega
    · have hlt' : decide ((i : Int) < (n : Int)) = false := decide_eq_false (by omega)
      go_wp2
      clear hlt'
      go_loopw [6] (fun sj wx => ∃ j y : Nat, j ≤ 80 ∧ sj = .int .i64 (j : Int) ∧ wx = w.drewN y) (fun sj _ => 80 - (intOf sj).toNat)
      case atStart => exact ⟨0, k, by omega, rfl, rfl⟩
      case round =>
        obtain ⟨j, y, hj, rfl, rfl⟩ := hrel
        by_cases hl : j < 80
        · have hl' : (j : Int) < 80 := by omega
          have c2 : (w.drewN y).cell? ⟨F, off + (n + j), none⟩ = some (.int .i64 (mkv 7 j)) := (hf.out (n + j) (by omega)).trans (by have := hg2.out j hl; rw [hnH.out] at this; rw [this])
          have hb1 : (n : Int) + (j : Int) < (n : Int) + 80 := by omega
          generalize hmk : mkv 7 j = z at c2
          have hmkH : Hid (mkv 7 j = z) := hmk
          clear hmk
          generalize hw1 : w.drewN y = w5 at c2 ⊢
          have hw : Hid (w.drewN y = w5) := hw1
          clear hw1
          go_wp2
          go_quiet ((go_at_call 26; exact Calls.quiet_of_same ((mark_c 7 j _ (by decide) (by omega)).mono fun _ _ h => ⟨by rw [h.1, hmkH.out], h.2.symm⟩)))
          clear hb1 c2 hN80 hn hlt hi
          go_wp2
          go_roundw
          case rel => exact ⟨j + 1, y + nq, by omega, by go_num, by rw [← hw.out, World.drewN_drewN]⟩
          case measure => simp [intOf]; omega
        · have hl' : decide ((j : Int) < 80) = false := decide_eq_false (by omega)
          go_wp2
          go_ret
          exact ⟨rfl, y, rfl⟩
theorem app_getD (p l : List Int) (j : Nat) : (p ++ l).getD (p.length + j) 0 = l.getD j 0 := by
  rw [List.getD_eq_getElem?_getD, List.getD_eq_getElem?_getD, List.getElem?_append_right (by omega), Nat.add_sub_cancel_left]
theorem app_getL (p l : List Int) (j : Nat) (h : j < p.length) : (p ++ l).getD j 0 = p.getD j 0 := by simp [List.getD, List.getElem?_append_left h]
theorem mk7_getD (n j : Nat) (h : j < n) : (mk7 n).getD j 0 = mkv 7 j := by
  unfold mk7
  rw [List.getD_eq_getElem?_getD, List.getElem?_map, List.getElem?_range h]
  exact Option.getD_some
theorem kept_m (F off cf : Nat) (vb : Value) (p M : List Int) (w : World) (hM : ∀ j, j < 80 → M.getD j 0 = mkv 7 j) (hf : ∀ i, i < p.length + 80 → w.cell? ⟨F, off + i, none⟩ = some (.int .i64 ((p ++ M).getD i 0))) (hR : RdZ w vb p) (hn : p.length ≤ 17592186043904) :
    Calls Tryd.prog 21 #[.slice (some ⟨F, off, none⟩) (p.length + 80) cf, vb] w fun e w' => e = .returned (.bool true) ∧ ∃ k, w' = w.drewN k :=
  kept_f F off cf vb p (fun i => (p ++ M).getD i 0) w (fun i hi => app_getL p M i hi) (fun j hj => (app_getD p M j).trans (hM j hj)) hf hR hn
end Go.Proofs.YtbhhbnhoknlonaaDoor
