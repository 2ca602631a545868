/-
  The contract of the statements' sameInts: are two lists of whole numbers the same?
-/
import Derived.Test.YtmnbpmmilfkjiaaDoorIln
namespace Go.Proofs.YtmnbpmmilfkjiaaDoor
open Flo Go.RowKit

theorem ne18_at {xs ys : List Nat} {k : Nat} (h : xs.getD k 0 ≠ ys.getD k 0) : false = decide (xs = ys) := (decide_eq_false fun e => h (by rw [e])).symm
theorem ne18_len {xs ys : List Nat} (h : xs.length ≠ ys.length) : false = decide (xs = ys) := (decide_eq_false fun e => h (by rw [e])).symm
theorem eq18_all {xs ys : List Nat} {n : Nat} (h1 : xs.length = n) (h2 : ys.length = n) (h : ∀ j, j < n → xs.getD j 0 = ys.getD j 0) : true = decide (xs = ys) := by
  refine (decide_eq_true ?_).symm
  apply List.ext_getElem (by omega)
  intro i hi hj
  have := h i (by omega)
  simpa [List.getD, hi, hj] using this

set_option maxHeartbeats 1000000 in
theorem same18_ne (ao bo : Option Addr) (n m c d : Nat) (w : World) (h : ((n : Int) == (m : Int)) = false) :
    Calls Tryd.prog 21 #[.slice ao n c, .slice bo m d] w fun e w' => e = .returned (.bool false) ∧ ∃ k, w' = w.drewN k := by
  have h2 : ((n : Int) != (m : Int)) = true := by simp [bne, h]
  go_enter Tryd.func21, Tryd.ntmps21
  go_wp2
  go_ret
  exact ⟨rfl, 0, rfl⟩
set_option maxHeartbeats 1000000 in
theorem same18_0 (ao bo : Option Addr) (c d : Nat) (w : World) :
    Calls Tryd.prog 21 #[.slice ao 0 c, .slice bo 0 d] w fun e w' => e = .returned (.bool true) ∧ ∃ k, w' = w.drewN k := by
  go_enter Tryd.func21, Tryd.ntmps21
  go_wp2
  refine wp_loop_rounds 1 ?_
  rw [rounds_succ]
  go_wp2
  go_ret
  exact ⟨rfl, 0, rfl⟩
set_option maxHeartbeats 1000000 in
theorem same18_n (b1 o1 b2 o2 n c d : Nat) (xs ys : List Nat) (w : World) (hn : n < 9223372036854775807) (e1 : Hid (xs.length = n)) (e2 : Hid (ys.length = n))
    (h1 : Hid (∀ i, i < n → w.cell? ⟨b1, o1 + i, none⟩ = some (.int .i64 ((xs.getD i 0 : Nat) : Int)))) (h2 : Hid (∀ i, i < n → w.cell? ⟨b2, o2 + i, none⟩ = some (.int .i64 ((ys.getD i 0 : Nat) : Int)))) :
    Calls Tryd.prog 21 #[.slice (some ⟨b1, o1, none⟩) n c, .slice (some ⟨b2, o2, none⟩) n d] w fun e w' => e = .returned (.bool (decide (xs = ys))) ∧ ∃ q, w' = w.drewN q := by
  go_enter Tryd.func21, Tryd.ntmps21
  go_wp2
  go_loopw [5, 13] (fun _ i wx => ∃ k q : Nat, k ≤ n ∧ i = .int .i64 k ∧ wx = w.drewN q ∧ ∀ j, j < k → xs.getD j 0 = ys.getD j 0) (fun _ i _ => n - (intOf i).toNat)
  case atStart => exact ⟨0, 0, Nat.zero_le _, rfl, rfl, fun j hj => absurd hj (by omega)⟩
  case round =>
    obtain ⟨k, q, hk, rfl, rfl, hj0⟩ := hrel
    have hj : Hid (∀ j, j < k → xs.getD j 0 = ys.getD j 0) := hj0
    clear hj0
    by_cases hlt : k < n
    · have hlt' : (k : Int) < (n : Int) := by omega
      have c1 : (w.drewN q).cell? ⟨b1, o1 + k, none⟩ = some (.int .i64 ((xs.getD k 0 : Nat) : Int)) := h1.out k hlt
      have c2 : (w.drewN q).cell? ⟨b2, o2 + k, none⟩ = some (.int .i64 ((ys.getD k 0 : Nat) : Int)) := h2.out k hlt
      by_cases hq : xs.getD k 0 = ys.getD k 0
      · have hnew : Hid (∀ j, j < k + 1 → xs.getD j 0 = ys.getD j 0) := fun j hjk => if h : j < k then hj.out j h else by rw [show j = k by omega]; exact hq
        rw [← hq] at c2
        clear hq
        generalize xs.getD k 0 = x at c1 c2
        generalize hwx : w.drewN q = wx at c1 c2 ⊢
        have hw : Hid (w.drewN q = wx) := hwx
        clear hwx
        go_wp2
        go_quiet (fail)
        go_wp2
        go_roundw
        case rel => exact ⟨k + 1, q + nq, by omega, by go_num, by rw [← hw.out, World.drewN_drewN], hnew.out⟩
        case measure => simp [intOf]; omega
      · have hfin : Hid (false = decide (xs = ys)) := ne18_at hq
        have q1 : (((xs.getD k 0 : Nat) : Int) == ((ys.getD k 0 : Nat) : Int)) = false := beq_eq_false_iff_ne.2 (by omega)
        clear hq
        generalize xs.getD k 0 = x at c1 q1
        generalize ys.getD k 0 = y at c2 q1
        have q2 : ((x : Int) != (y : Int)) = true := by simp [bne, q1]
        generalize hwx : w.drewN q = wx at c1 c2 ⊢
        have hw : Hid (w.drewN q = wx) := hwx
        clear hwx
        go_wp2
        go_quiet (fail)
        go_wp2
        go_ret
        exact ⟨ret_bool hfin.out, q + nq, by rw [← hw.out, World.drewN_drewN]⟩
    · have hlt' : decide ((k : Int) < (n : Int)) = false := decide_eq_false (by omega)
      have hfin : Hid (true = decide (xs = ys)) := eq18_all e1.out e2.out (fun j hjn => hj.out j (by omega))
      go_wp2
      go_ret
      exact ⟨ret_bool hfin.out, q, rfl⟩
theorem same18_c (va vb : Value) (xs ys : List Nat) (w : World) (ha : RdI w va xs) (hb : RdI w vb ys) (hn : xs.length < 9223372036854775807) :
    Calls Tryd.prog 21 #[va, vb] w fun e w' => e = .returned (.bool (decide (xs = ys))) ∧ ∃ q, w' = w.drewN q := by
  obtain ⟨ao, c, rfl, h1⟩ := ha
  obtain ⟨bo, d, rfl, h2⟩ := hb
  by_cases hl : xs.length = ys.length
  · by_cases hz : xs = []
    · subst hz
      have hy : ys = [] := List.length_eq_zero_iff.1 (by simpa using hl.symm)
      subst hy
      exact same18_0 ao bo c d w
    · have hy : ys ≠ [] := fun e => hz (List.length_eq_zero_iff.1 (by rw [hl, e]; rfl))
      obtain ⟨b1, o1, rfl, _, g1⟩ := h1 hz
      obtain ⟨b2, o2, rfl, _, g2⟩ := h2 hy
      rw [← hl] at g2 ⊢
      exact same18_n b1 o1 b2 o2 xs.length c d xs ys w hn rfl hl.symm g1 g2
  · rw [← ne18_len hl]
    exact same18_ne ao bo _ _ c d w (beq_eq_false_iff_ne.2 (by omega))
end Go.Proofs.YtmnbpmmilfkjiaaDoor
