/-
  The contract of the document's SameList of layer 1.
-/
import Derived.Test.YtabkbhmjblfajaaDoorLst
import Derived.Test.YtabkbhmjblfajaaDoorRef
import Derived.Deep.QuietTactic
import Derived.BigQuiet
import Derived.WalkSmall
namespace Go.Proofs.YtabkbhmjblfajaaDoor
open Flo Go.RowKit
theorem rsame_q (a b : Nat) (w : World) (ha : a < 18446744073709551616) (hb : b < 18446744073709551616) :
    Calls Tryd.prog 31 #[.float .f64 a, .float .f64 b] w fun e w' => e = .returned (.bool ((bt a : Int) == (bt b : Int))) ∧ w' = w :=
  (rsame_c a b w ha hb).mono fun _ _ h => ⟨h.1, h.2.symm⟩
set_option maxHeartbeats 1000000 in
theorem rsameList_ne (ao bo : Option Addr) (n m c d : Nat) (w : World) (h : ((n : Int) == (m : Int)) = false) :
    Calls Tryd.prog 36 #[.slice ao n c, .slice bo m d] w fun e w' => e = .returned (.bool false) ∧ w = w' := by
  have h2 : ((n : Int) != (m : Int)) = true := by simp [bne, h]
  go_enter Tryd.func36, Tryd.ntmps36
  go_wp2
  go_ret
  exact ⟨rfl, rfl⟩
set_option maxHeartbeats 1000000 in
theorem rsameList_0 (ao bo : Option Addr) (c d : Nat) (w : World) :
    Calls Tryd.prog 36 #[.slice ao 0 c, .slice bo 0 d] w fun e w' => e = .returned (.bool true) ∧ w = w' := by
  go_enter Tryd.func36, Tryd.ntmps36
  go_wp2
  refine wp_loop_rounds 1 ?_
  rw [rounds_succ]
  go_wp2
  go_ret
  exact ⟨rfl, rfl⟩
set_option maxHeartbeats 1000000 in
theorem rsameList_n (b1 o1 b2 o2 n c d : Nat) (xs ys : List Nat) (w : World) (hn : n * 8 ≤ 140737488351232) (e1 : Hid (xs.length = n)) (e2 : Hid (ys.length = n))
    (h1 : Hid (∀ i, i < n → w.cell? ⟨b1, o1 + i, none⟩ = some (.float .f64 (xs.getD i 0)))) (h2 : Hid (∀ i, i < n → w.cell? ⟨b2, o2 + i, none⟩ = some (.float .f64 (ys.getD i 0))))
    (l1 : Hid (∀ i, i < n → xs.getD i 0 < 18446744073709551616)) (l2 : Hid (∀ i, i < n → ys.getD i 0 < 18446744073709551616)) :
    Calls Tryd.prog 36 #[.slice (some ⟨b1, o1, none⟩) n c, .slice (some ⟨b2, o2, none⟩) n d] w fun e w' => e = .returned (.bool (sl xs ys)) ∧ ∃ q, w' = w.drewN q := by
  go_enter Tryd.func36, Tryd.ntmps36
  go_wp2
  go_loopw [14] (fun i wx => ∃ k q : Nat, k ≤ n ∧ i = .int .i64 k ∧ wx = w.drewN q ∧ ∀ j, j < k → bt (xs.getD j 0) = bt (ys.getD j 0)) (fun i _ => n - (intOf i).toNat)
  case atStart => exact ⟨0, 0, Nat.zero_le _, rfl, rfl, fun j hj => absurd hj (by omega)⟩
  case round =>
    obtain ⟨k, q, hk, rfl, rfl, hj0⟩ := hrel
    have hj : Hid (∀ j, j < k → bt (xs.getD j 0) = bt (ys.getD j 0)) := hj0
    clear hj0
    by_cases hlt : k < n
    · have hlt' : (k : Int) < (n : Int) := by omega
      have c1 : (w.drewN q).cell? ⟨b1, o1 + k, none⟩ = some (.float .f64 (xs.getD k 0)) := h1.out k hlt
      have c2 : (w.drewN q).cell? ⟨b2, o2 + k, none⟩ = some (.float .f64 (ys.getD k 0)) := h2.out k hlt
      have m1 := l1.out k hlt
      have m2 := l2.out k hlt
      by_cases hq : bt (xs.getD k 0) = bt (ys.getD k 0)
      · have q1 : ((bt (xs.getD k 0) : Int) == (bt (ys.getD k 0) : Int)) = true := beq_iff_eq.2 (by omega)
        have hnew : Hid (∀ j, j < k + 1 → bt (xs.getD j 0) = bt (ys.getD j 0)) := fun j hjk => if h : j < k then hj.out j h else by rw [show j = k by omega]; exact hq
        clear hq
        generalize xs.getD k 0 = x at c1 m1 q1
        generalize ys.getD k 0 = y at c2 m2 q1
        generalize hwx : w.drewN q = wx at c1 c2 ⊢
        have hw : Hid (w.drewN q = wx) := hwx
        clear hwx
        go_wp2
        go_quiet ((go_at_call 31; exact Calls.quiet_of_same (rsame_q _ _ _ m1 m2)))
        go_wp2
        go_roundw
        case rel => exact ⟨k + 1, q + nq, by omega, by go_num, by rw [← hw.out, World.drewN_drewN], hnew.out⟩
        case measure => simp [intOf]; omega
      · have q1 : ((bt (xs.getD k 0) : Int) == (bt (ys.getD k 0) : Int)) = false := beq_eq_false_iff_ne.2 (by omega)
        have hfin : Hid (false = sl xs ys) := sl_at (k := k) (by have := e1.out; omega) hq
        clear hq
        generalize xs.getD k 0 = x at c1 m1 q1
        generalize ys.getD k 0 = y at c2 m2 q1
        generalize hwx : w.drewN q = wx at c1 c2 ⊢
        have hw : Hid (w.drewN q = wx) := hwx
        clear hwx
        go_wp2
        go_quiet ((go_at_call 31; exact Calls.quiet_of_same (rsame_q _ _ _ m1 m2)))
        go_wp2
        go_ret
        exact ⟨ret_bool hfin.out, q + nq, by rw [← hw.out, World.drewN_drewN]⟩
    · have hlt' : decide ((k : Int) < (n : Int)) = false := decide_eq_false (by omega)
      go_wp2
      go_ret
      exact ⟨ret_bool (sl_true (by rw [e1.out, e2.out]) (fun i hi => hj.out i (by have := e1.out; omega))), q, rfl⟩
theorem rsameList_c (v1 v2 : Value) (xs ys : List Nat) (w : World) (r1 : Rd w v1 xs) (r2 : Rd w v2 ys) (m1 : lim xs) (m2 : lim ys) (hr : xs.length * 8 ≤ 140737488351232) :
    Calls Tryd.prog 36 #[v1, v2] w fun e w' => e = .returned (.bool (sl xs ys)) ∧ ∃ q, w' = w.drewN q := by
  obtain ⟨ao, c, rfl, h1⟩ := r1
  obtain ⟨bo, d, rfl, h2⟩ := r2
  by_cases hl : xs.length = ys.length
  · by_cases hz : xs = []
    · have hz2 : ys = [] := List.eq_nil_of_length_eq_zero (by rw [← hl, hz]; rfl)
      subst hz; subst hz2
      exact (rsameList_0 ao bo c d w).mono fun _ _ h => ⟨h.1, 0, h.2.symm⟩
    · have hz2 : ys ≠ [] := fun e => hz (List.eq_nil_of_length_eq_zero (by rw [hl, e]; rfl))
      obtain ⟨b1, o1, rfl, k1⟩ := h1 hz
      obtain ⟨b2, o2, rfl, k2⟩ := h2 hz2
      rw [← hl]
      exact rsameList_n b1 o1 b2 o2 xs.length c d xs ys w hr rfl hl.symm k1 (fun i hi => k2 i (by omega)) (fun i hi => lim_at m1 i hi) (fun i hi => lim_at m2 i (by omega))
  · rw [← sl_len hl]
    exact (rsameList_ne ao bo _ _ c d w (beq_eq_false_iff_ne.2 (by omega))).mono fun _ _ h => ⟨h.1, 0, h.2.symm⟩
end Go.Proofs.YtabkbhmjblfajaaDoor
