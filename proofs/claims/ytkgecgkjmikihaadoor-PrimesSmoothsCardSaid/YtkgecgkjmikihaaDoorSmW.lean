/-
  The statements' own 'smooth'; the walk of the statement PrimesSmooths, out of the contract of Smooth.
-/
import Derived.Test.YtkgecgkjmikihaaDoorLy5
import Derived.Test.YtkgecgkjmikihaaDoorSmo
namespace Go.Proofs.YtkgecgkjmikihaaDoor
open Flo Go.RowKit Go.Lib

/-- a bool comes back that says whether this is so -/
def RB (P : Prop) (e : Ending) : Prop := ∃ r : Bool, e = .returned (.bool r) ∧ (r = true ↔ P)
set_option maxHeartbeats 2000000 in
theorem smooth_c (k M : Nat) (w : World) (h0 : 0 < k) (hk : k ≤ 4194304) (hM2 : 2 ≤ M) (hM : M ≤ 9223372036854775807) :
    Calls Tryd.prog 31 #[.int .i64 k, .int .i64 M] w fun e w' => RB (Nt.Sm k M) e ∧ w = w' := by
  have hst : Hid (Nt.Cut k 2 k 0) := Nt.Cut.start h0
  have hkH : Hid (k ≤ 4194304 ∧ 0 < k) := ⟨hk, h0⟩
  have hMH : Hid (M ≤ 9223372036854775807) := hM
  clear hk h0 hM
  go_enter Tryd.func31, Tryd.ntmps31
  go_wp2
  go_loop [0, 5] (fun sk sd => ∃ K d : Nat, Hid (Nt.Cut k d K 0) ∧ d ≤ 2049 ∧ d ≤ M + 1 ∧ sk = .int .i64 K ∧ sd = .int .i64 d) (fun _ sd => 2050 - (intOf sd).toNat)
  case atStart => exact ⟨k, 2, hst, by omega, by omega, rfl, rfl⟩
  case round =>
    obtain ⟨K, d, hC, hd, hdM, rfl, rfl⟩ := hrel
    have hd2 : 2 ≤ d := hC.out.2.2.2.2
    have hKk : K ≤ k := hC.out.le hkH.out.2
    have hK0 : 0 < K := hC.out.1
    have hkk := hkH.out.1
    have hMM := hMH.out
    obtain ⟨t, ht⟩ : ∃ t : Nat, t = d * d := ⟨_, rfl⟩
    have htl : t ≤ 4198401 := by rw [ht]; exact Nat.mul_le_mul hd hd
    have ed : wrap64 ((d : Int) * (d : Int)) = (t : Int) := by rw [castMul, ← ht]; unfold wrap64; omega
    have hend : Hid ((M < d ∨ K < d * d) → ((K = 1 ∨ K ≤ M) ↔ Nt.Sm k M)) := fun hx => hC.out.done hdM hx
    by_cases c1 : d ≤ M
    · have c1' : (d : Int) ≤ (M : Int) := by omega
      by_cases c2 : t ≤ K
      · have c2' : (t : Int) ≤ (K : Int) := by omega
        have hd' : d < 2049 := by
          apply Nat.lt_of_not_le
          intro h9
          have : 4198401 ≤ d * d := Nat.mul_le_mul h9 h9
          omega
        have dz : ((d : Int) == 0) = false := beq_eq_false_iff_ne.2 (by omega)
        have hC1 : Hid (Nt.Cut k d K 1) := hC.out.loose
        clear ht htl c2 hKk hK0 hkk hMM hC hend
        go_wp2
        clear c2' ed
        go_loop [0] (fun sk => ∃ L : Nat, Hid (Nt.Cut k d L 1) ∧ sk = .int .i64 L) (fun sk => (intOf sk).toNat)
        case atStart => exact ⟨K, hC1, rfl⟩
        case round =>
          clear hC1
          obtain ⟨L, hC, rfl⟩ := hrel
          have hL0 : 0 < L := hC.out.1
          have hLk : L ≤ k := hC.out.le hkH.out.2
          have hkk := hkH.out.1
          by_cases hm : L % d = 0
          · have m1 : ((L : Int) % (d : Int) == 0) = true := by rw [beq_iff_eq]; omega
            have hnew : Hid (Nt.Cut k d (L / d) 1) := hC.out.div hm
            obtain ⟨q, hq⟩ : ∃ q : Nat, q = L / d := ⟨_, rfl⟩
            have hqL : q < L := by rw [hq]; exact Nat.div_lt_self hL0 (by omega)
            have eq1 : wrap64 ((L : Int) / (d : Int)) = (q : Int) := by
              rw [show (L : Int) / (d : Int) = ((L / d : Nat) : Int) from rfl, ← hq]; unfold wrap64; omega
            rw [← hq] at hnew
            clear hm hq hL0 hLk hC
            go_wp2
            rw [eq1]
            clear eq1
            go_round
            case rel => exact ⟨q, hnew, rfl⟩
            case measure => simp [intOf]; exact hqL
          · have m1 : ((L : Int) % (d : Int) == 0) = false := beq_eq_false_iff_ne.2 (by omega)
            have hnew : Hid (Nt.Cut k (d + 1) L 0) := hC.out.next hm
            clear hm hL0 hLk hC
            go_wp2
            go_round
            case rel => exact ⟨L, d + 1, hnew, by omega, by omega, rfl, by go_num⟩
            case measure => simp [intOf]; omega
      · have c2' : decide ((d : Int) * (d : Int) ≤ (K : Int)) = false := decide_eq_false (by rw [castMul, ← ht]; omega)
        have c3' : decide ((t : Int) ≤ (K : Int)) = false := decide_eq_false (by omega)
        have hiff : Hid ((K = 1 ∨ K ≤ M) ↔ Nt.Sm k M) := hend.out (Or.inr (by omega))
        by_cases k1 : K = 1
        · have e1 : ((K : Int) == 1) = true := beq_iff_eq.2 (by omega)
          have hr : Hid (Nt.Sm k M) := hiff.out.1 (Or.inl k1)
          clear k1
          go_wp2
          go_ret
          exact ⟨⟨true, rfl, ⟨fun _ => hr.out, fun _ => rfl⟩⟩, rfl⟩
        · have e1 : ((K : Int) == 1) = false := beq_eq_false_iff_ne.2 (by omega)
          by_cases k2 : K ≤ M
          · have e2 : (K : Int) ≤ (M : Int) := by omega
            have hr : Hid (Nt.Sm k M) := hiff.out.1 (Or.inr k2)
            go_wp2
            go_ret
            exact ⟨⟨true, rfl, ⟨fun _ => hr.out, fun _ => rfl⟩⟩, rfl⟩
          · have e2 : decide ((K : Int) ≤ (M : Int)) = false := decide_eq_false (by omega)
            have hr : Hid (¬ Nt.Sm k M) := fun h => absurd (hiff.out.2 h) (by omega)
            go_wp2
            go_ret
            exact ⟨⟨false, rfl, ⟨fun h => Bool.noConfusion h, fun h => absurd h hr.out⟩⟩, rfl⟩
    · have c1' : decide ((d : Int) ≤ (M : Int)) = false := decide_eq_false (by omega)
      have hiff : Hid ((K = 1 ∨ K ≤ M) ↔ Nt.Sm k M) := hend.out (Or.inl (by omega))
      by_cases k1 : K = 1
      · have e1 : ((K : Int) == 1) = true := beq_iff_eq.2 (by omega)
        have hr : Hid (Nt.Sm k M) := hiff.out.1 (Or.inl k1)
        clear k1
        go_wp2
        go_ret
        exact ⟨⟨true, rfl, ⟨fun _ => hr.out, fun _ => rfl⟩⟩, rfl⟩
      · have e1 : ((K : Int) == 1) = false := beq_eq_false_iff_ne.2 (by omega)
        by_cases k2 : K ≤ M
        · have e2 : (K : Int) ≤ (M : Int) := by omega
          have hr : Hid (Nt.Sm k M) := hiff.out.1 (Or.inr k2)
          go_wp2
          go_ret
          exact ⟨⟨true, rfl, ⟨fun _ => hr.out, fun _ => rfl⟩⟩, rfl⟩
        · have e2 : decide ((K : Int) ≤ (M : Int)) = false := decide_eq_false (by omega)
          have hr : Hid (¬ Nt.Sm k M) := fun h => absurd (hiff.out.2 h) (by omega)
          go_wp2
          go_ret
          exact ⟨⟨false, rfl, ⟨fun h => Bool.noConfusion h, fun h => absurd h hr.out⟩⟩, rfl⟩
/-- the contract of Smooth -/
structure P5s : Prop where
  ok : ∀ (n M : Nat) (w : World), 1 ≤ n → n ≤ 1048576 → 2 ≤ M → M ≤ 9223372036854775807 → Calls Tryd.prog 30 #[.int .i64 n, .int .i64 M] w fun e w' => ∃ x : Nat, e = .returned (.tuple #[.int .i64 x, .nilIface]) ∧ (n ≤ x ∧ (x = n ∨ x < 2 * n) ∧ Nt.Sm x M ∧ ∀ k, n ≤ k → k < x → ¬ Nt.Sm k M) ∧ Below w.heap.size w w'
  no : ∀ (n m : Int) (w : World) (al : List Addr), Errs w al → inI n → inI m → (n < 1 ∨ 1048576 < n ∨ m < 2) → Calls Tryd.prog 30 #[.int .i64 n, .int .i64 m] w fun e w' => e = .returned (.tuple #[.int .i64 0, ek al 4]) ∧ Below w.heap.size w w'
set_option maxHeartbeats 2000000 in
theorem smooths_no (H : P5) (S : P5s) (n m : Int) (w : World) (al : List Addr) (he : Errs w al) (hn : inI n) (hm : inI m) (h : n < 1 ∨ 1048576 < n ∨ m < 2) :
    Calls Tryd.prog 5 #[.int .i64 n, .int .i64 m] w fun e w' => e = .returned (.bool true) ∧ Below w.heap.size w w' := by
  have hi : Hid P5 := H
  have hs : Hid P5s := S
  have h0 : Hid (Errs w al) := he
  have hN : Hid (n < 1 ∨ 1048576 < n ∨ m < 2) := h
  clear H S he h
  go_enter Tryd.func5, Tryd.ntmps5
  go_wp2_with (go_at_call 9; refine (fixed_c hi.out _).mono ?_; rintro e w1 ⟨rfl, b1⟩)
  have h1 : Hid (Errs w1 al) := h0.out.below b1
  have B1 : Hid (Below w.heap.size w w1) := b1
  clear b1 h0
  refine (hs.out.no _ _ _ al h1.out hn hm hN.out).mono ?_
  rintro e w2 ⟨rfl, b2⟩
  have h2 : Hid (Errs w2 al) := h1.out.below b2
  have B2 : Hid (Below w.heap.size w w2) := B1.out.trans (b2.mono B1.out.size)
  clear b2 h1 B1
  by_cases c1 : n < 1
  · go_wp2_with fail
    refine (num_err al 4 (by decide) _ h2.out).mono ?_
    rintro e w4 ⟨rfl, b4⟩
    go_wp2_with fail
    go_ret
    exact ⟨rfl, B2.out.trans (b4.mono B2.out.size)⟩
  · have d1 : decide (n < 1) = false := decide_eq_false c1
    by_cases c2 : 1048576 < n
    · go_wp2_with fail
      refine (num_err al 4 (by decide) _ h2.out).mono ?_
      rintro e w4 ⟨rfl, b4⟩
      go_wp2_with fail
      go_ret
      exact ⟨rfl, B2.out.trans (b4.mono B2.out.size)⟩
    · have d2 : decide (1048576 < n) = false := decide_eq_false c2
      have c3 : m < 2 := by have := hN.out; omega
      go_wp2_with fail
      refine (num_err al 4 (by decide) _ h2.out).mono ?_
      rintro e w4 ⟨rfl, b4⟩
      go_wp2_with fail
      go_ret
      exact ⟨rfl, B2.out.trans (b4.mono B2.out.size)⟩
set_option maxHeartbeats 2000000 in
theorem smooths_ok (H : P5) (S : P5s) (n M : Nat) (w : World) (h1 : 1 ≤ n) (hn : n ≤ 1048576) (hM2 : 2 ≤ M) (hM : M ≤ 9223372036854775807) :
    Calls Tryd.prog 5 #[.int .i64 n, .int .i64 M] w fun e w' => e = .returned (.bool true) ∧ Below w.heap.size w w' := by
  have hi : Hid P5 := H
  have hs : Hid P5s := S
  clear H S
  have d1 : decide ((n : Int) < 1) = false := decide_eq_false (by omega)
  have d2 : decide ((1048576 : Int) < (n : Int)) = false := decide_eq_false (by omega)
  have d3 : decide ((M : Int) < 2) = false := decide_eq_false (by omega)
  go_enter Tryd.func5, Tryd.ntmps5
  go_wp2_with (go_at_call 9; refine (fixed_c hi.out _).mono ?_; rintro e w1 ⟨rfl, b1⟩)
  refine (hs.out.ok _ _ _ h1 hn hM2 hM).mono ?_
  rintro e w2 ⟨x, rfl, hx, b2⟩
  obtain ⟨x1, x2, x3, x4⟩ := hx
  have B2 : Hid (Below w.heap.size w w2) := b1.trans (b2.mono b1.size)
  have hS : Hid (Nt.Sm x M) := x3
  have hO : Hid (∀ k, n ≤ k → k < x → ¬ Nt.Sm k M) := x4
  have xl : x ≤ 2097152 := by omega
  clear b1 b2 x3 x4
  have t1 : decide ((x : Int) < (n : Int)) = false := decide_eq_false (by omega)
  have t0 : ¬ x < n := by omega
  have e2n : wrap64 (2 * (n : Int)) = 2 * (n : Int) := by unfold wrap64; omega
  by_cases hxn : x = n
  · have t2 : ((x : Int) == (n : Int)) = true := beq_iff_eq.2 (by omega)
    have t3 : ((x : Int) != (n : Int)) = false := by simp [bne, t2]
    have hxn' : Hid (x = n) := hxn
    clear hxn x2
    go_wp2_with fail
    refine (smooth_c x M _ (by omega) (by omega) hM2 hM).mono ?_
    rintro e w3 ⟨⟨r, rfl, hr⟩, rfl⟩
    rw [hr.2 hS.out]
    clear hr t1 t0 t2 t3
    go_wp2_with fail
    go_loop [7] (fun sk => ∃ k : Nat, n ≤ k ∧ k ≤ x ∧ sk = .int .i64 k) (fun sk => (x + 1) - (intOf sk).toNat)
    case atStart => exact ⟨n, Nat.le_refl _, by omega, rfl⟩
    case round =>
      obtain ⟨k, k1, k2, rfl⟩ := hrel
      by_cases hlt : k < x
      · have hlt' : (k : Int) < (x : Int) := by omega
        go_wp2_with fail
        refine (smooth_c k M _ (by omega) (by omega) hM2 hM).mono ?_
        rintro e w3 ⟨⟨r, rfl, hr⟩, rfl⟩
        have hf : r = false := by
          cases r
          · rfl
          · exact absurd (hr.1 rfl) (hO.out k k1 hlt)
        subst hf
        clear hr
        go_wp2_with fail
        go_round
        case rel => exact ⟨k + 1, by omega, by omega, by go_num⟩
        case measure => simp [intOf]; omega
      · have hlt' : decide ((k : Int) < (x : Int)) = false := decide_eq_false (by omega)
        go_wp2_with fail
        go_ret
        exact ⟨rfl, B2.out⟩
  · have t2 : ((x : Int) == (n : Int)) = false := beq_eq_false_iff_ne.2 (by omega)
    have t3 : ((x : Int) != (n : Int)) = true := by simp [bne, t2]
    have t4 : decide (2 * (n : Int) ≤ (x : Int)) = false := decide_eq_false (by omega)
    have t5 : ¬ 2 * n ≤ x := by omega
    clear hxn x2
    go_wp2_with fail
    refine (smooth_c x M _ (by omega) (by omega) hM2 hM).mono ?_
    rintro e w3 ⟨⟨r, rfl, hr⟩, rfl⟩
    rw [hr.2 hS.out]
    clear hr t1 t0 t2 t3 t4 t5
    go_wp2_with fail
    go_loop [7] (fun sk => ∃ k : Nat, n ≤ k ∧ k ≤ x ∧ sk = .int .i64 k) (fun sk => (x + 1) - (intOf sk).toNat)
    case atStart => exact ⟨n, Nat.le_refl _, by omega, rfl⟩
    case round =>
      obtain ⟨k, k1, k2, rfl⟩ := hrel
      by_cases hlt : k < x
      · have hlt' : (k : Int) < (x : Int) := by omega
        go_wp2_with fail
        refine (smooth_c k M _ (by omega) (by omega) hM2 hM).mono ?_
        rintro e w3 ⟨⟨r, rfl, hr⟩, rfl⟩
        have hf : r = false := by
          cases r
          · rfl
          · exact absurd (hr.1 rfl) (hO.out k k1 hlt)
        subst hf
        clear hr
        go_wp2_with fail
        go_round
        case rel => exact ⟨k + 1, by omega, by omega, by go_num⟩
        case measure => simp [intOf]; omega
      · have hlt' : decide ((k : Int) < (x : Int)) = false := decide_eq_false (by omega)
        go_wp2_with fail
        go_ret
        exact ⟨rfl, B2.out⟩
theorem smooths_w (H : P5) (S : P5s) (n m : Int) (w : World) (al : List Addr) (he : Errs w al) (hn : inI n) (hm : inI m) :
    Calls Tryd.prog 5 #[.int .i64 n, .int .i64 m] w fun e w' => e = .returned (.bool true) ∧ Below w.heap.size w w' := by
  by_cases h : n < 1 ∨ 1048576 < n ∨ m < 2
  · exact smooths_no H S n m w al he hn hm h
  · have h3 := hm.hi
    obtain ⟨N, rfl⟩ : ∃ N : Nat, n = (N : Int) := ⟨n.toNat, by omega⟩
    obtain ⟨M, rfl⟩ : ∃ M : Nat, m = (M : Int) := ⟨m.toNat, by omega⟩
    exact smooths_ok H S N M w (by omega) (by omega) (by omega) (by omega)
end Go.Proofs.YtkgecgkjmikihaaDoor
