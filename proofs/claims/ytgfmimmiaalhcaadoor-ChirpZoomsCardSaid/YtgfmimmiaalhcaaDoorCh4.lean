/-
  Contracts of package chirp: the calls that are refused.
-/
import Derived.Test.YtgfmimmiaalhcaaDoorCh3
import Derived.Test.YtgfmimmiaalhcaaDoorPv7
namespace Go.Proofs.YtgfmimmiaalhcaaDoor
open Flo Go.RowKit
set_option maxHeartbeats 1000000 in
theorem chAtNo_c (n j : Int) (w : World) (al : List Addr) (he : Errs w al) (h : inn n = false) :
    Calls Tryd.prog 9 #[.int .i64 n, .int .i64 j] w fun e w' => e = .returned (.tuple #[.complex .f64 0 0, ek al 6]) ∧ Below w.heap.size w w' := by
  have hl := errLength_cell he
  have hcu := chirps_c n w
  rw [h] at hcu
  clear he h
  go_enter Tryd.func9, Tryd.ntmps9
  go_wp2_with fail
  refine hcu.mono ?_
  rintro e w1 ⟨rfl, rfl⟩
  go_wp2_with fail
  go_quiet (fail)
  go_wp2_with fail
  go_ret2
  exact ⟨rfl, below_drewN (Below.refl _ _) _⟩
set_option maxHeartbeats 1000000 in
theorem chListNo_c (n : Int) (w : World) (al : List Addr) (he : Errs w al) (h : inn n = false) :
    Calls Tryd.prog 17 #[.int .i64 n] w fun e w' => e = .returned (.tuple #[.slice none 0 0, ek al 6]) ∧ Below w.heap.size w w' := by
  have hl := errLength_cell he
  have hcu := chirps_c n w
  rw [h] at hcu
  clear he h
  go_enter Tryd.func17, Tryd.ntmps17
  go_wp2_with fail
  refine hcu.mono ?_
  rintro e w1 ⟨rfl, rfl⟩
  go_wp2_with fail
  go_quiet (fail)
  go_wp2_with fail
  go_ret2
  exact ⟨rfl, below_drewN (Below.refl _ _) _⟩
/-- may n and m be those of the other list -/
def may (n m : Int) : Bool := decide (1 ≤ n ∧ m ≤ 16384 ∧ n ≤ 16384 ∧ 2 * n - 1 ≤ m)
set_option maxHeartbeats 1000000 in
theorem otherNo_c (n m : Int) (w : World) (al : List Addr) (he : Errs w al) (h : may n m = false) :
    Calls Tryd.prog 20 #[.int .i64 n, .int .i64 m] w fun e w' => e = .returned (.tuple #[.slice none 0 0, ek al 6]) ∧ Below w.heap.size w w' := by
  have hl := errLength_cell he
  have h' : ¬ (1 ≤ n ∧ m ≤ 16384 ∧ n ≤ 16384 ∧ 2 * n - 1 ≤ m) := of_decide_eq_false h
  clear he h
  cases hi : inn n
  · have hcu := leastNo_c n w hi
    clear h' hi
    go_enter Tryd.func20, Tryd.ntmps20
    go_wp2_with fail
    refine hcu.mono ?_
    rintro e w1 ⟨rfl, rfl⟩
    go_wp2_with fail
    go_quiet (fail)
    go_wp2_with fail
    go_ret2
    exact ⟨rfl, below_drewN (Below.refl _ _) _⟩
  · obtain ⟨i1, i2⟩ := of_decide_eq_true hi
    obtain ⟨k, rfl⟩ := Int.eq_ofNat_of_zero_le (show 0 ≤ n by omega)
    have hcu := leastOk_c k w (by omega) (by omega)
    obtain ⟨K, hK⟩ : ∃ K, 2 * k - 1 = K := ⟨_, rfl⟩
    rw [hK] at hcu
    have hK0 : 0 < K := by omega
    have q1 : ((K : Int) == 0) = false := beq_eq_false_iff_ne.2 (by omega)
    by_cases hm : m < (K : Int)
    · clear h' hi hK
      go_enter Tryd.func20, Tryd.ntmps20
      go_wp2_with fail
      refine hcu.mono ?_
      rintro e w1 ⟨rfl, rfl⟩
      go_wp2_with fail
      go_quiet (fail)
      go_wp2_with fail
      go_ret2
      exact ⟨rfl, below_drewN (Below.refl _ _) _⟩
    · have hm' : decide (m < (K : Int)) = false := decide_eq_false hm
      have hm2 : m > 16384 := by omega
      clear h' hi hK
      go_enter Tryd.func20, Tryd.ntmps20
      go_wp2_with fail
      refine hcu.mono ?_
      rintro e w1 ⟨rfl, rfl⟩
      go_wp2_with fail
      go_quiet (fail)
      go_wp2_with fail
      go_ret2
      exact ⟨rfl, below_drewN (Below.refl _ _) _⟩
set_option maxHeartbeats 1000000 in
theorem sizeNo_c (n : Int) (w : World) (al : List Addr) (he : Errs w al) (h : ¬ (1 ≤ n ∧ n ≤ 8192)) :
    Calls Tryd.prog 15 #[.int .i64 n] w fun e w' => e = .returned (.tuple #[.int .i64 0, ek al 6]) ∧ Below w.heap.size w w' := by
  have hl := errLength_cell he
  clear he
  cases hi : inn n
  · have hcu := leastNo_c n w hi
    clear h hi
    go_enter Tryd.func15, Tryd.ntmps15
    go_wp2_with fail
    refine hcu.mono ?_
    rintro e w1 ⟨rfl, rfl⟩
    go_wp2_with fail
    go_quiet (fail)
    go_wp2_with fail
    go_ret2
    exact ⟨rfl, below_drewN (Below.refl _ _) _⟩
  · obtain ⟨i1, i2⟩ := of_decide_eq_true hi
    obtain ⟨k, rfl⟩ := Int.eq_ofNat_of_zero_le (show 0 ≤ n by omega)
    have hc := leastOk_c k w (by omega) (by omega)
    obtain ⟨K, hK⟩ : ∃ K, 2 * k - 1 = K := ⟨_, rfl⟩
    rw [hK] at hc
    have hK1 : K ≤ 32767 := by omega
    have hK2 : 16385 ≤ K := by omega
    have q1 : ((K : Int) == 0) = false := beq_eq_false_iff_ne.2 (by omega)
    clear hK hi h i1 i2
    go_enter Tryd.func15, Tryd.ntmps15
    go_wp2_with fail
    refine hc.mono ?_
    rintro e w0 ⟨rfl, rfl⟩
    clear hc
    go_wp2_with fail
    go_loopw [5] (fun ss wx => ∃ s : Nat, ss = .int .i64 (s : Int) ∧ s ≤ 65534 ∧ 0 < s ∧ wx = w0) (fun ss _ => K - (intOf ss).toNat)
    case atStart => exact ⟨1, rfl, by decide, by decide, rfl⟩
    case round =>
      obtain ⟨s, rfl, hs1, hs0, rfl⟩ := hrel
      by_cases hlt : s < K
      · have hlt' : (s : Int) < (K : Int) := by omega
        obtain ⟨s2, hs2, hs3⟩ : ∃ s2 : Nat, Hid (s2 = 2 * s) ∧ (s : Int) * 2 = (s2 : Int) := ⟨2 * s, (rfl : _ = _), by omega⟩
        have hs4 : s2 ≤ 65534 := by have := hs2.out; omega
        have hs5 : 0 < s2 := by have := hs2.out; omega
        go_wp2_with fail
        go_roundw
        case rel => exact ⟨s2, rfl, hs4, hs5, by trivial⟩
        case measure => simp [intOf]; have := hs2.out; omega
      · have hlt' : decide ((s : Int) < (K : Int)) = false := decide_eq_false (by omega)
        have q2 : (s : Int) > 16384 := by omega
        go_wp2_with fail
        go_quiet (fail)
        go_wp2_with fail
        go_ret2
        exact ⟨rfl, below_drewN (Below.refl _ _) _⟩
/-- is a zoom refused -/
def nz (L : Nat) (m c : Int) : Prop := L = 0 ∨ m < 1 ∨ 4194304 < m ∨ c < 0 ∨ ((1048576 / L : Nat) : Int) < c
set_option maxHeartbeats 1000000 in
theorem zoomNo_c (ao : Option Addr) (L cap : Nat) (m fr c : Int) (w : World) (al : List Addr) (he : Errs w al) (hL : L ≤ 140737488355328) (h : nz L m c) :
    Calls Tryd.prog 24 #[.slice ao L cap, .int .i64 m, .int .i64 fr, .int .i64 c] w fun e w' => e = .returned (.tuple #[.slice none 0 0, ek al 6]) ∧ Below w.heap.size w w' := by
  have hl := errLength_cell he
  clear he
  unfold nz at h
  by_cases h0 : L = 0
  · subst h0
    clear h
    go_enter Tryd.func24, Tryd.ntmps24
    go_wp2_with fail
    go_quiet (fail)
    go_wp2_with fail
    go_ret2
    exact ⟨rfl, below_drewN (Below.refl _ _) _⟩
  · have q1 : ((L : Int) == 0) = false := beq_eq_false_iff_ne.2 (by omega)
    have q6 : ¬ (L : Int) = 0 := by omega
    by_cases h1 : m < 1
    · clear h
      go_enter Tryd.func24, Tryd.ntmps24
      go_wp2_with fail
      go_quiet (fail)
      go_wp2_with fail
      go_ret2
      exact ⟨rfl, below_drewN (Below.refl _ _) _⟩
    · have q2 : decide (m < 1) = false := decide_eq_false h1
      by_cases h2 : 4194304 < m
      · have h2' : m > 4194304 := h2
        clear h
        go_enter Tryd.func24, Tryd.ntmps24
        go_wp2_with fail
        go_quiet (fail)
        go_wp2_with fail
        go_ret2
        exact ⟨rfl, below_drewN (Below.refl _ _) _⟩
      · have q3 : decide (m > 4194304) = false := decide_eq_false (by omega)
        by_cases h3 : c < 0
        · clear h
          go_enter Tryd.func24, Tryd.ntmps24
          go_wp2_with fail
          go_quiet (fail)
          go_wp2_with fail
          go_ret2
          exact ⟨rfl, below_drewN (Below.refl _ _) _⟩
        · have q4 : decide (c < 0) = false := decide_eq_false h3
          obtain ⟨D, hD, hD1⟩ : ∃ D : Nat, 1048576 / L = D ∧ (1048576 : Int).tdiv (L : Int) = (D : Int) := ⟨1048576 / L, (rfl : _ = _), by rw [Int.tdiv_eq_ediv_of_nonneg (by omega)]; rfl⟩
          have hD2 : D ≤ 1048576 := by rw [← hD]; exact Nat.div_le_self _ _
          rw [hD] at h
          have q5 : c > (D : Int) := by omega
          clear h hD
          go_enter Tryd.func24, Tryd.ntmps24
          go_wp2_with fail
          go_quiet (fail)
          go_wp2_with fail
          go_ret2
          exact ⟨rfl, below_drewN (Below.refl _ _) _⟩
end Go.Proofs.YtgfmimmiaalhcaaDoor
