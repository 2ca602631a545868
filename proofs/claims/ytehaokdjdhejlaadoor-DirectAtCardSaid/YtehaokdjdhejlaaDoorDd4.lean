/-
  The document's layer 10: One, at every place.
-/
import Derived.Test.YtehaokdjdhejlaaDoorDd3
import Derived.Test.YtehaokdjdhejlaaDoorDp5
namespace Go.Proofs.YtehaokdjdhejlaaDoor
open Flo Go.RowKit
theorem at10_c (v : Value) (zs : List (Nat × Nat)) (p jump n : Nat) (k : Int) (w : World) (hx : RdC w v zs) (hl : Lim zs) (hlast : p + (n - 1) * jump < zs.length) (hn : 0 < n) (hn2 : n ≤ 1024) (hlen : zs.length ≤ 140737488355328) :
    Calls Tryd.prog 32 #[v, .int .i64 (p : Int), .int .i64 (jump : Int), .int .i64 (n : Int), .int .i64 k] w (RZ w (dsm n (Rp.md n k) fun j => zs.getD (p + j * jump) (0, 0))) := by
  obtain ⟨ao, cap, rfl, h2⟩ := hx
  obtain ⟨b, off, rfl, hb, h3⟩ := h2 (fun e => by rw [e] at hlast; simp at hlast)
  exact at10_n b off cap zs p jump n _ k w rfl h3 hl hlast hn hn2 hlen
/-- what One answers where it isn't refused -/
def RZi (w : World) (z : Nat × Nat) (j : Int) (e : Ending) (w' : World) : Prop :=
  ∃ x y d, e = .returned (.tuple #[.complex .f64 x y, .int .i64 j]) ∧ w' = w.drewN d ∧ x < 18446744073709551616 ∧ y < 18446744073709551616 ∧ Lk (x, y) z
theorem div_turn {a : Int} {j m : Int} (hj : 0 < j) (hm : 0 < m) : m ≤ a / j ↔ j ≤ a / m := by
  rw [Int.le_ediv_iff_mul_le hj, Int.le_ediv_iff_mul_le hm, Int.mul_comm]
set_option maxHeartbeats 1000000 in
theorem oneL_c (v : Value) (p j n k : Int) (w : World) (h : n < 1 ∨ 1024 < n) :
    Calls Tryd.prog 22 #[v, .int .i64 p, .int .i64 j, .int .i64 n, .int .i64 k] w (RZi w (0, 0) 7) := by
  by_cases h1 : n < 1
  · clear h
    go_enter Tryd.func22, Tryd.ntmps22
    go_wp2_with fail
    go_ret2
    exact ⟨0, 0, 0, rfl, rfl, by decide, by decide, Lk.refl _⟩
  · have h1' : decide (n < 1) = false := decide_eq_false h1
    have h2 : n > 1024 := by omega
    clear h
    go_enter Tryd.func22, Tryd.ntmps22
    go_wp2_with fail
    go_ret2
    exact ⟨0, 0, 0, rfl, rfl, by decide, by decide, Lk.refl _⟩
set_option maxHeartbeats 2000000 in
theorem oneR_c (ao : Option Addr) (L cap n : Nat) (p j k : Int) (w : World) (hL : L ≤ 140737488355328) (hn : 0 < n) (hn2 : n ≤ 1024) (hi : ins L p j n = false) :
    Calls Tryd.prog 22 #[.slice ao L cap, .int .i64 p, .int .i64 j, .int .i64 (n : Int), .int .i64 k] w (RZi w (0, 0) 5) := by
  have g1 : decide ((n : Int) < 1) = false := decide_eq_false (by omega)
  have g2 : decide ((n : Int) > 1024) = false := decide_eq_false (by omega)
  have hi' := of_decide_eq_false hi
  have hend : Hid (∀ d, RZi w (0, 0) 5 (.returned (.tuple #[.complex .f64 0 0, .int .i64 5])) (w.drewN d)) := fun d => ⟨0, 0, d, rfl, rfl, by decide, by decide, Lk.refl _⟩
  by_cases h1 : p < 0
  · clear hi hi'
    go_enter Tryd.func22, Tryd.ntmps22
    go_wp2_with fail
    go_ret2
    exact hend.out 0
  have h1' : decide (p < 0) = false := decide_eq_false h1
  by_cases h2 : j < 1
  · clear hi hi'
    go_enter Tryd.func22, Tryd.ntmps22
    go_wp2_with fail
    go_ret2
    exact hend.out 0
  have h2' : decide (j < 1) = false := decide_eq_false h2
  by_cases h3 : p ≥ L
  · clear hi hi'
    go_enter Tryd.func22, Tryd.ntmps22
    go_wp2_with fail
    go_ret2
    exact hend.out 0
  have h3' : decide (p ≥ (L : Int)) = false := decide_eq_false h3
  have h4 : ¬ ((n : Int) - 1 ≤ ((L : Int) - 1 - p).tdiv j) := fun h => hi' ⟨by omega, by omega, by omega, h⟩
  rw [Int.tdiv_eq_ediv_of_nonneg (by omega)] at h4
  have h5 : 1 < n := by
    apply Nat.lt_of_not_le
    intro c
    apply h4
    have := Int.ediv_nonneg (a := (L : Int) - 1 - p) (b := j) (by omega) (by omega)
    omega
  have h6 : ¬ (j ≤ ((L : Int) - 1 - p) / ((n : Int) - 1)) := fun h => h4 ((div_turn (by omega) (by omega)).2 h)
  have h7 : ((L : Int) - 1 - p).tdiv ((n : Int) - 1) = ((L : Int) - 1 - p) / ((n : Int) - 1) := Int.tdiv_eq_ediv_of_nonneg (by omega)
  have h8 : 0 ≤ ((L : Int) - 1 - p) / ((n : Int) - 1) ∧ ((L : Int) - 1 - p) / ((n : Int) - 1) ≤ 140737488355328 := ⟨Int.ediv_nonneg (by omega) (by omega), by have := Int.ediv_le_self (a := (L : Int) - 1 - p) ((n : Int) - 1) (by omega); omega⟩
  obtain ⟨q, hq⟩ : ∃ q, ((L : Int) - 1 - p) / ((n : Int) - 1) = q := ⟨_, rfl⟩
  rw [hq] at h6 h7 h8
  have h9 : j > q := by omega
  have h10 : (n : Int) > 1 := by omega
  have h11 : ¬ (n : Int) - 1 = 0 := by omega
  clear hi hi' h4 hq h6
  go_enter Tryd.func22, Tryd.ntmps22
  go_wp2_with fail
  go_ret2
  exact hend.out 0
set_option maxHeartbeats 2000000 in
theorem oneOk_c (v : Value) (zs : List (Nat × Nat)) (n : Nat) (p j k : Int) (w : World) (hx : RdC w v zs) (hl : Lim zs) (hL0 : zs.length ≤ 140737488355328) (hn : 0 < n) (hn2 : n ≤ 1024) (hi : ins zs.length p j n = true) :
    Calls Tryd.prog 22 #[v, .int .i64 p, .int .i64 j, .int .i64 (n : Int), .int .i64 k] w (RZi w (dsm n (Rp.md n k) fun i => zs.getD (p.toNat + i * j.toNat) (0, 0)) 0) := by
  have g1 : decide ((n : Int) < 1) = false := decide_eq_false (by omega)
  have g2 : decide ((n : Int) > 1024) = false := decide_eq_false (by omega)
  obtain ⟨p0, p1, j1, hlast⟩ := ins_t hi hn
  have h4 : (n : Int) - 1 ≤ ((zs.length : Int) - 1 - p).tdiv j := (of_decide_eq_true hi).2.2.2
  rw [Int.tdiv_eq_ediv_of_nonneg (by omega)] at h4
  have hA : Hid (∀ W, RdC W v zs → Calls Tryd.prog 32 #[v, .int .i64 p, .int .i64 j, .int .i64 (n : Int), .int .i64 k] W (RZ W (dsm n (Rp.md n k) fun i => zs.getD (p.toNat + i * j.toNat) (0, 0)))) := fun W hW => by
    have := at10_c v zs p.toNat j.toNat n k W hW hl hlast hn hn2 hL0
    rw [Int.toNat_of_nonneg p0, Int.toNat_of_nonneg (by omega)] at this
    exact this
  obtain ⟨L, hL⟩ : ∃ L, Hid (zs.length = L) := ⟨_, (rfl : _ = _)⟩
  rw [hL.out] at h4 p1 hL0
  obtain ⟨ao, cap, rfl⟩ := hx.slice hL.out
  have hX : Hid (RdC w (.slice ao L cap) zs) := hx
  clear hlast hi hx hl
  generalize (dsm n (Rp.md n k) fun i => zs.getD (p.toNat + i * j.toNat) (0, 0)) = Z at *
  have h1' : decide (p < 0) = false := decide_eq_false (by omega)
  have h2' : decide (j < 1) = false := decide_eq_false (by omega)
  have h3' : decide (p ≥ (L : Int)) = false := decide_eq_false (by omega)
  by_cases h5 : n = 1
  · have h5' : decide ((n : Int) > 1) = false := decide_eq_false (by omega)
    have h5H : Hid (n = 1) := h5
    clear h4 h5
    go_enter Tryd.func22, Tryd.ntmps22
    go_wp2_with fail
    refine (hA.out w hX.out).mono ?_
    rintro e w1 ⟨x, y, d, rfl, rfl, lx, ly, lk⟩
    have hlk : Hid (Lk (x, y) Z) := lk
    clear lk
    go_wp2_with fail
    go_ret2
    exact ⟨x, y, d, rfl, rfl, lx, ly, hlk.out⟩
  · have h6 : j ≤ ((L : Int) - 1 - p) / ((n : Int) - 1) := (div_turn (by omega) (by omega)).1 h4
    have h7 : ((L : Int) - 1 - p).tdiv ((n : Int) - 1) = ((L : Int) - 1 - p) / ((n : Int) - 1) := Int.tdiv_eq_ediv_of_nonneg (by omega)
    have h8 : 0 ≤ ((L : Int) - 1 - p) / ((n : Int) - 1) ∧ ((L : Int) - 1 - p) / ((n : Int) - 1) ≤ 140737488355328 := ⟨Int.ediv_nonneg (by omega) (by omega), by have := Int.ediv_le_self (a := (L : Int) - 1 - p) ((n : Int) - 1) (by omega); omega⟩
    obtain ⟨q, hq⟩ : ∃ q, ((L : Int) - 1 - p) / ((n : Int) - 1) = q := ⟨_, rfl⟩
    rw [hq] at h6 h7 h8
    have h9 : decide (j > q) = false := decide_eq_false (by omega)
    have h10 : (n : Int) > 1 := by omega
    have h11 : ¬ (n : Int) - 1 = 0 := by omega
    clear h4 hq h5
    go_enter Tryd.func22, Tryd.ntmps22
    go_wp2_with fail
    refine (hA.out w hX.out).mono ?_
    rintro e w1 ⟨x, y, d, rfl, rfl, lx, ly, lk⟩
    have hlk : Hid (Lk (x, y) Z) := lk
    clear lk
    go_wp2_with fail
    go_ret2
    exact ⟨x, y, d, rfl, rfl, lx, ly, hlk.out⟩
end Go.Proofs.YtehaokdjdhejlaaDoor
