/-
  Contracts of package primes: smooth, Smooth.
-/
import Derived.Test.YtkgecgkjmikihaaDoorPg4
import Derived.Test.YtkgecgkjmikihaaDoorSmW
namespace Go.Proofs.YtkgecgkjmikihaaDoor
open Flo Go.RowKit Go.Lib

theorem Sm_two (j M : Nat) (hM : 2 ≤ M) : Nt.Sm (2 ^ j) M := by
  induction j with
  | zero =>
    intro q hq hd
    have := Nat.le_of_dvd (by decide) hd
    have := hq.1
    omega
  | succ j ih =>
    intro q hq hd
    rw [Nat.pow_succ] at hd
    rcases hq.dvd_mul hd with h | h
    · exact ih q hq h
    · have := Nat.le_of_dvd (by decide) h; omega
theorem two_between (n : Nat) (h : 1 ≤ n) : ∃ j, n ≤ 2 ^ j ∧ 2 ^ j < 2 * n := by
  induction n with
  | zero => omega
  | succ n ih =>
    by_cases h0 : n = 0
    · subst h0; exact ⟨0, by decide, by decide⟩
    · obtain ⟨j, h1, h2⟩ := ih (by omega)
      by_cases c : n + 1 ≤ 2 ^ j
      · exact ⟨j, c, by omega⟩
      · exact ⟨j + 1, by rw [Nat.pow_succ]; omega, by rw [Nat.pow_succ]; omega⟩
set_option maxHeartbeats 2000000 in
theorem psmooth_c (k M : Nat) (w : World) (h0 : 0 < k) (hk : k ≤ 4194304) (hM2 : 2 ≤ M) (hM : M ≤ 9223372036854775807) :
    Calls Tryd.prog 45 #[.int .i64 k, .int .i64 M] w fun e w' => RB (Nt.Sm k M) e ∧ w = w' := by
  have hst : Hid (Nt.Cut k 2 k 0) := Nt.Cut.start h0
  have hkH : Hid (k ≤ 4194304 ∧ 0 < k) := ⟨hk, h0⟩
  have hMH : Hid (M ≤ 9223372036854775807) := hM
  clear hk h0 hM
  go_enter Tryd.func45, Tryd.ntmps45
  go_wp2
  go_loop [0, 5] (fun sk sd => ∃ K d : Nat, Hid (Nt.Cut k d K 0) ∧ d ≤ 2049 ∧ d ≤ M + 1 ∧ sk = .int .i64 K ∧ sd = .int .i64 d) (fun _ sd => 2050 - (intOf sd).toNat)
  case atStart => exact ⟨k, 2, hst, by omega, by omega, rfl, rfl⟩
  case round =>
    obtain ⟨K, d, hC, hd, hdM, rfl, rfl⟩ := hrel
    have hd2 : 2 ≤ d := hC.out.2.2.2.2
    have hKk : K ≤ k := hC.out.le hkH.out.2
    have hK0 : 0 < K := hC.out.1
    have hkk := hkH.out.1
    have hMM := hMH.out
    obtain ⟨t, ht⟩ : ∃ t : Nat, t = d * d := ⟨_, rfl⟩
    have htl : t ≤ 4198401 := by rw [ht]; exact Nat.mul_le_mul hd hd
    have ed : wrap64 ((d : Int) * (d : Int)) = (t : Int) := by rw [castMul, ← ht]; unfold wrap64; omega
    have hend : Hid ((M < d ∨ K < d * d) → ((K = 1 ∨ K ≤ M) ↔ Nt.Sm k M)) := fun hx => hC.out.done hdM hx
    by_cases c1 : d ≤ M
    · have c1' : (d : Int) ≤ (M : Int) := by omega
      by_cases c2 : t ≤ K
      · have c2' : (t : Int) ≤ (K : Int) := by omega
        have hd' : d < 2049 := by
          apply Nat.lt_of_not_le
          intro h9
          have : 4198401 ≤ d * d := Nat.mul_le_mul h9 h9
          omega
        have dz : ((d : Int) == 0) = false := beq_eq_false_iff_ne.2 (by omega)
        have hC1 : Hid (Nt.Cut k d K 1) := hC.out.loose
        clear ht htl c2 hKk hK0 hkk hMM hC hend
        go_wp2
        clear c2' ed
        go_loop [0] (fun sk => ∃ L : Nat, Hid (Nt.Cut k d L 1) ∧ sk = .int .i64 L) (fun sk => (intOf sk).toNat)
        case atStart => exact ⟨K, hC1, rfl⟩
        case round =>
          clear hC1
          obtain ⟨L, hC, rfl⟩ := hrel
          have hL0 : 0 < L := hC.out.1
          have hLk : L ≤ k := hC.out.le hkH.out.2
          have hkk := hkH.out.1
          by_cases hm : L % d = 0
          · have m1 : ((L : Int) % (d : Int) == 0) = true := by rw [beq_iff_eq]; omega
            have hnew : Hid (Nt.Cut k d (L / d) 1) := hC.out.div hm
            obtain ⟨q, hq⟩ : ∃ q : Nat, q = L / d := ⟨_, rfl⟩
            have hqL : q < L := by rw [hq]; exact Nat.div_lt_self hL0 (by omega)
            have eq1 : wrap64 ((L : Int) / (d : Int)) = (q : Int) := by
              rw [show (L : Int) / (d : Int) = ((L / d : Nat) : Int) from rfl, ← hq]; unfold wrap64; omega
            rw [← hq] at hnew
            clear hm hq hL0 hLk hC
            go_wp2
            rw [eq1]
            clear eq1
            go_round
            case rel => exact ⟨q, hnew, rfl⟩
            case measure => simp [intOf]; exact hqL
          · have m1 : ((L : Int) % (d : Int) == 0) = false := beq_eq_false_iff_ne.2 (by omega)
            have hnew : Hid (Nt.Cut k (d + 1) L 0) := hC.out.next hm
            clear hm hL0 hLk hC
            go_wp2
            go_round
            case rel => exact ⟨L, d + 1, hnew, by omega, by omega, rfl, by go_num⟩
            case measure => simp [intOf]; omega
      · have c2' : decide ((d : Int) * (d : Int) ≤ (K : Int)) = false := decide_eq_false (by rw [castMul, ← ht]; omega)
        have c3' : decide ((t : Int) ≤ (K : Int)) = false := decide_eq_false (by omega)
        have hiff : Hid (K ≤ M ↔ Nt.Sm k M) := ⟨fun h => (hend.out (Or.inr (by omega))).1 (Or.inr h), fun h => ((hend.out (Or.inr (by omega))).2 h).elim (fun h => by omega) id⟩
        go_wp2
        go_ret
        exact ⟨⟨_, rfl, by rw [decide_eq_true_eq, ← hiff.out]; try omega⟩, rfl⟩
    · have c1' : decide ((d : Int) ≤ (M : Int)) = false := decide_eq_false (by omega)
      have hiff : Hid (K ≤ M ↔ Nt.Sm k M) := ⟨fun h => (hend.out (Or.inl (by omega))).1 (Or.inr h), fun h => ((hend.out (Or.inl (by omega))).2 h).elim (fun h => by omega) id⟩
      go_wp2
      go_ret
      exact ⟨⟨_, rfl, by rw [decide_eq_true_eq, ← hiff.out]; try omega⟩, rfl⟩
set_option maxHeartbeats 2000000 in
theorem pSmooth_ok (n M : Nat) (w : World) (h1 : 1 ≤ n) (hn : n ≤ 1048576) (hM2 : 2 ≤ M) (hM : M ≤ 9223372036854775807) :
    Calls Tryd.prog 30 #[.int .i64 n, .int .i64 M] w fun e w' => ∃ x : Nat, e = .returned (.tuple #[.int .i64 x, .nilIface]) ∧ (n ≤ x ∧ (x = n ∨ x < 2 * n) ∧ Nt.Sm x M ∧ ∀ k, n ≤ k → k < x → ¬ Nt.Sm k M) ∧ Below w.heap.size w w' := by
  have d1 : decide ((n : Int) < 1) = false := decide_eq_false (by omega)
  have d2 : decide ((1048576 : Int) < (n : Int)) = false := decide_eq_false (by omega)
  have d3 : decide ((M : Int) < 2) = false := decide_eq_false (by omega)
  obtain ⟨j, hj1, hj2⟩ := two_between n h1
  have hS := Sm_two j M hM2
  generalize 2 ^ j = J at hj1 hj2 hS
  have hSH : Hid (Nt.Sm J M) := hS
  clear hS
  go_enter Tryd.func30, Tryd.ntmps30
  go_wp2
  go_loop [0] (fun s0 => ∃ k : Nat, s0 = .int .i64 k ∧ n ≤ k ∧ k ≤ J ∧ Hid (∀ i, n ≤ i → i < k → ¬ Nt.Sm i M)) (fun s0 => (J + 1) - (intOf s0).toNat)
  case atStart => exact ⟨n, rfl, Nat.le_refl _, hj1, fun i i1 i2 => absurd i2 (by omega)⟩
  case round =>
    obtain ⟨k, rfl, k1, k2, hno⟩ := hrel
    go_wp2_with fail
    refine (psmooth_c k M _ (by omega) (by omega) hM2 hM).mono ?_
    rintro e w' ⟨⟨r, rfl, hr⟩, rfl⟩
    cases r
    · have hk : Hid (¬ Nt.Sm k M) := fun h => Bool.noConfusion (hr.2 h)
      have hkJ : k < J := by
        rcases Nat.lt_or_ge k J with c | c
        · exact c
        · have : k = J := by omega
          subst this; exact absurd hSH.out hk.out
      have hno' : Hid (∀ i, n ≤ i → i < k + 1 → ¬ Nt.Sm i M) := fun i i1 i2 => if e : i = k then by rw [e]; exact hk.out else hno.out i i1 (by omega)
      clear hr
      go_wp2
      go_round
      case rel => exact ⟨k + 1, by go_num, by omega, by omega, hno'⟩
      case measure => simp [intOf]; omega
    · have hk : Hid (Nt.Sm k M) := hr.1 rfl
      clear hr
      go_wp2
      go_ret2
      exact ⟨k, rfl, ⟨k1, by omega, hk.out, hno.out⟩, Below.refl _ _⟩
set_option maxHeartbeats 2000000 in
theorem pSmooth_no (n m : Int) (w : World) (al : List Addr) (he : Errs w al) (h : n < 1 ∨ 1048576 < n ∨ m < 2) :
    Calls Tryd.prog 30 #[.int .i64 n, .int .i64 m] w fun e w' => e = .returned (.tuple #[.int .i64 0, ek al 4]) ∧ Below w.heap.size w w' := by
  have hv := errRange_cell he
  clear he
  by_cases c1 : n < 1
  · clear h
    go_enter Tryd.func30, Tryd.ntmps30
    go_wp2
    go_quiet (fail)
    go_wp2
    go_ret2
    exact ⟨rfl, below_drewN (Below.refl _ _) _⟩
  · have d1 : decide (n < 1) = false := decide_eq_false c1
    by_cases c2 : 1048576 < n
    · clear h
      go_enter Tryd.func30, Tryd.ntmps30
      go_wp2
      go_quiet (fail)
      go_wp2
      go_ret2
      exact ⟨rfl, below_drewN (Below.refl _ _) _⟩
    · have d2 : decide (1048576 < n) = false := decide_eq_false c2
      have c3 : m < 2 := by omega
      clear h
      go_enter Tryd.func30, Tryd.ntmps30
      go_wp2
      go_quiet (fail)
      go_wp2
      go_ret2
      exact ⟨rfl, below_drewN (Below.refl _ _) _⟩
theorem p5s : P5s :=
  ⟨fun n M w a b c d => pSmooth_ok n M w a b c d, fun n m w al he _ _ h => pSmooth_no n m w al he h⟩
end Go.Proofs.YtkgecgkjmikihaaDoor
