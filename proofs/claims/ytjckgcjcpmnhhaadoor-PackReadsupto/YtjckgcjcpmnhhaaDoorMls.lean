/-
  The contract of the statements' own 'floats': a new list of the floats of these bits; nothing that was there has turned.
-/
import Derived.Test.YtjckgcjcpmnhhaaDoorLow
import Derived.Outline
import Derived.Test.YtjckgcjcpmnhhaaDoorRef
import Derived.Deep.QuietTactic
import Derived.BigQuiet
import Derived.WalkSmall
namespace Go.Proofs.YtjckgcjcpmnhhaaDoor
open Flo Go.RowKit
theorem info24 : (Tryd.prog.info? 61).map (fun i => (i.zero, i.size, i.bytes)) = some (some (.float .f64 0), 1, 8) := by kernel_rfl
def fl (zs : List Nat) : List Value := zs.map (Value.float .f64)
theorem fl_len (zs : List Nat) : (fl zs).length = zs.length := by simp [fl]
theorem fl_snoc (zs : List Nat) (k : Nat) (h : k < zs.length) : fl (zs.take (k + 1)) = fl (zs.take k) ++ [.float .f64 (zs.getD k 0)] := by
  unfold fl
  have e : zs.getD k 0 = zs[k] := by simp [List.getD, h]
  rw [List.take_succ_eq_append_getElem h, List.map_append, e]
  rfl
/-- A list of bits that came in. -/
def InS (w : World) (v : Value) (zs : List Nat) : Prop :=
  ∃ ao cap, v = .slice ao zs.length cap ∧ (zs ≠ [] → ∃ b off, ao = some ⟨b, off, none⟩ ∧ b < w.heap.size ∧ ∀ i, i < zs.length → w.cell? ⟨b, off + i, none⟩ = some (.int .u64 ((zs.getD i 0 : Nat) : Int)))
theorem InS.below {w w' : World} {v : Value} {zs : List Nat} (h : InS w v zs) (hb : Below w.heap.size w w') : InS w' v zs := by
  obtain ⟨ao, cap, rfl, h2⟩ := h
  refine ⟨ao, cap, rfl, fun hz => ?_⟩
  obtain ⟨b, off, rfl, h3, h4⟩ := h2 hz
  exact ⟨b, off, rfl, Nat.lt_of_lt_of_le h3 hb.size, fun i hi => (hb.cell (p := ⟨b, off + i, none⟩) h3).trans (h4 i hi)⟩
/-- A list of floats that can be read. -/
def Rd (w : World) (v : Value) (xs : List Nat) : Prop :=
  ∃ ao cap, v = .slice ao xs.length cap ∧ (xs ≠ [] → ∃ b off, ao = some ⟨b, off, none⟩ ∧ ∀ i, i < xs.length → w.cell? ⟨b, off + i, none⟩ = some (.float .f64 (xs.getD i 0)))
/-- Two lists, alike. -/
def sl (xs ys : List Nat) : Bool := decide (xs.length = ys.length ∧ ∀ i, i < xs.length → bt (xs.getD i 0) = bt (ys.getD i 0))
theorem sl_true {xs ys : List Nat} (h : xs.length = ys.length) (h2 : ∀ i, i < xs.length → bt (xs.getD i 0) = bt (ys.getD i 0)) : true = sl xs ys := (decide_eq_true ⟨h, h2⟩).symm
theorem sl_len {xs ys : List Nat} (h : xs.length ≠ ys.length) : false = sl xs ys := (decide_eq_false fun q => h q.1).symm
theorem sl_at {xs ys : List Nat} {k : Nat} (hk : k < xs.length) (h : bt (xs.getD k 0) ≠ bt (ys.getD k 0)) : false = sl xs ys := (decide_eq_false fun q => h (q.2 k hk)).symm
def lim (xs : List Nat) : Prop := ∀ x ∈ xs, x < 18446744073709551616
theorem lim_at {xs : List Nat} (h : lim xs) (i : Nat) (hi : i < xs.length) : xs.getD i 0 < 18446744073709551616 := by
  have e : xs.getD i 0 = xs[i] := by simp [List.getD, hi]
  rw [e]; exact h _ (List.getElem_mem _)
end Go.Proofs.YtjckgcjcpmnhhaaDoor
/-
  The contract of the document's SameList of layer 1.
-/
namespace Go.Proofs.YtjckgcjcpmnhhaaDoor
open Flo Go.RowKit
theorem rsame_q (a b : Nat) (w : World) (ha : a < 18446744073709551616) (hb : b < 18446744073709551616) :
    Calls Tryd.prog 55 #[.float .f64 a, .float .f64 b] w fun e w' => e = .returned (.bool ((bt a : Int) == (bt b : Int))) ∧ w' = w :=
  (rsame_c a b w ha hb).mono fun _ _ h => ⟨h.1, h.2.symm⟩
set_option maxHeartbeats 1000000 in
theorem rsameList_ne (ao bo : Option Addr) (n m c d : Nat) (w : World) (h : ((n : Int) == (m : Int)) = false) :
    Calls Tryd.prog 66 #[.slice ao n c, .slice bo m d] w fun e w' => e = .returned (.bool false) ∧ w = w' := by
  have h2 : ((n : Int) != (m : Int)) = true := by simp [bne, h]
  go_enter Tryd.func66, Tryd.ntmps66
  go_wp2
  go_ret
  exact ⟨rfl, rfl⟩
set_option maxHeartbeats 1000000 in
theorem rsameList_0 (ao bo : Option Addr) (c d : Nat) (w : World) :
    Calls Tryd.prog 66 #[.slice ao 0 c, .slice bo 0 d] w fun e w' => e = .returned (.bool true) ∧ w = w' := by
  go_enter Tryd.func66, Tryd.ntmps66
  go_wp2
  refine wp_loop_rounds 1 ?_
  rw [rounds_succ]
  go_wp2
  go_ret
  exact ⟨rfl, rfl⟩
set_option maxHeartbeats 1000000 in
theorem rsameList_n (b1 o1 b2 o2 n c d : Nat) (xs ys : List Nat) (w : World) (hn : n * 8 ≤ 140737488351232) (e1 : Hid (xs.length = n)) (e2 : Hid (ys.length = n))
    (h1 : Hid (∀ i, i < n → w.cell? ⟨b1, o1 + i, none⟩ = some (.float .f64 (xs.getD i 0)))) (h2 : Hid (∀ i, i < n → w.cell? ⟨b2, o2 + i, none⟩ = some (.float .f64 (ys.getD i 0))))
    (l1 : Hid (∀ i, i < n → xs.getD i 0 < 18446744073709551616)) (l2 : Hid (∀ i, i < n → ys.getD i 0 < 18446744073709551616)) :
    Calls Tryd.prog 66 #[.slice (some ⟨b1, o1, none⟩) n c, .slice (some ⟨b2, o2, none⟩) n d] w fun e w' => e = .returned (.bool (sl xs ys)) ∧ ∃ q, w' = w.drewN q := by
  go_enter Tryd.func66, Tryd.ntmps66
  go_wp2
  go_loopw [14] (fun i wx => ∃ k q : Nat, k ≤ n ∧ i = .int .i64 k ∧ wx = w.drewN q ∧ ∀ j, j < k → bt (xs.getD j 0) = bt (ys.getD j 0)) (fun i _ => n - (intOf i).toNat)
  case atStart => exact ⟨0, 0, Nat.zero_le _, rfl, rfl, fun j hj => absurd hj (by omega)⟩
  case round =>
    obtain ⟨k, q, hk, rfl, rfl, hj0⟩ := hrel
    have hj : Hid (∀ j, j < k → bt (xs.getD j 0) = bt (ys.getD j 0)) := hj0
    clear hj0
    by_cases hlt : k < n
    · have hlt' : (k : Int) < (n : Int) := by omega
      have c1 : (w.drewN q).cell? ⟨b1, o1 + k, none⟩ = some (.float .f64 (xs.getD k 0)) := h1.out k hlt
      have c2 : (w.drewN q).cell? ⟨b2, o2 + k, none⟩ = some (.float .f64 (ys.getD k 0)) := h2.out k hlt
      have m1 := l1.out k hlt
      have m2 := l2.out k hlt
      by_cases hq : bt (xs.getD k 0) = bt (ys.getD k 0)
      · have q1 : ((bt (xs.getD k 0) : Int) == (bt (ys.getD k 0) : Int)) = true := beq_iff_eq.2 (by omega)
        have hnew : Hid (∀ j, j < k + 1 → bt (xs.getD j 0) = bt (ys.getD j 0)) := fun j hjk => if h : j < k then hj.out j h else by rw [show j = k by omega]; exact hq
        clear hq
        generalize xs.getD k 0 = x at c1 m1 q1
        generalize ys.getD k 0 = y at c2 m2 q1
        generalize hwx : w.drewN q = wx at c1 c2 ⊢
        have hw : Hid (w.drewN q = wx) := hwx
        clear hwx
        go_wp2
        go_quiet ((go_at_call 55; exact Calls.quiet_of_same (rsame_q _ _ _ m1 m2)))
        go_wp2
        go_roundw
        case rel => exact ⟨k + 1, q + nq, by omega, by go_num, by rw [← hw.out, World.drewN_drewN], hnew.out⟩
        case measure => simp [intOf]; omega
      · have q1 : ((bt (xs.getD k 0) : Int) == (bt (ys.getD k 0) : Int)) = false := beq_eq_false_iff_ne.2 (by omega)
        have hfin : Hid (false = sl xs ys) := sl_at (k := k) (by have := e1.out; omega) hq
        clear hq
        generalize xs.getD k 0 = x at c1 m1 q1
        generalize ys.getD k 0 = y at c2 m2 q1
        generalize hwx : w.drewN q = wx at c1 c2 ⊢
        have hw : Hid (w.drewN q = wx) := hwx
        clear hwx
        go_wp2
        go_quiet ((go_at_call 55; exact Calls.quiet_of_same (rsame_q _ _ _ m1 m2)))
        go_wp2
        go_ret
        exact ⟨ret_bool hfin.out, q + nq, by rw [← hw.out, World.drewN_drewN]⟩
    · have hlt' : decide ((k : Int) < (n : Int)) = false := decide_eq_false (by omega)
      go_wp2
      go_ret
      exact ⟨ret_bool (sl_true (by rw [e1.out, e2.out]) (fun i hi => hj.out i (by have := e1.out; omega))), q, rfl⟩
theorem rsameList_c (v1 v2 : Value) (xs ys : List Nat) (w : World) (r1 : Rd w v1 xs) (r2 : Rd w v2 ys) (m1 : lim xs) (m2 : lim ys) (hr : xs.length * 8 ≤ 140737488351232) :
    Calls Tryd.prog 66 #[v1, v2] w fun e w' => e = .returned (.bool (sl xs ys)) ∧ ∃ q, w' = w.drewN q := by
  obtain ⟨ao, c, rfl, h1⟩ := r1
  obtain ⟨bo, d, rfl, h2⟩ := r2
  by_cases hl : xs.length = ys.length
  · by_cases hz : xs = []
    · have hz2 : ys = [] := List.eq_nil_of_length_eq_zero (by rw [← hl, hz]; rfl)
      subst hz; subst hz2
      exact (rsameList_0 ao bo c d w).mono fun _ _ h => ⟨h.1, 0, h.2.symm⟩
    · have hz2 : ys ≠ [] := fun e => hz (List.eq_nil_of_length_eq_zero (by rw [hl, e]; rfl))
      obtain ⟨b1, o1, rfl, k1⟩ := h1 hz
      obtain ⟨b2, o2, rfl, k2⟩ := h2 hz2
      rw [← hl]
      exact rsameList_n b1 o1 b2 o2 xs.length c d xs ys w hr rfl hl.symm k1 (fun i hi => k2 i (by omega)) (fun i hi => lim_at m1 i hi) (fun i hi => lim_at m2 i (by omega))
  · rw [← sl_len hl]
    exact (rsameList_ne ao bo _ _ c d w (beq_eq_false_iff_ne.2 (by omega))).mono fun _ _ h => ⟨h.1, 0, h.2.symm⟩
end Go.Proofs.YtjckgcjcpmnhhaaDoor
