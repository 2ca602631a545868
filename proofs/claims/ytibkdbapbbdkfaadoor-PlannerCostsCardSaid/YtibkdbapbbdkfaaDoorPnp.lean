/-
  The document's sums and products of costs (timbreref14), and timbreref11.Work.
-/
import Derived.Test.YtibkdbapbbdkfaaDoorPn3
namespace Go.Proofs.YtibkdbapbbdkfaaDoor
open Flo Go.RowKit Tr
open Pl (tm)
set_option maxHeartbeats 1000000 in
theorem dsum_c (a b c : Nat) (ha : a ≤ 4611686018427387905) (hb : b ≤ 4611686018427387905) (hc : c = tm (a + b)) (w : World) : Calls Tryd.prog 82 #[.int .i64 (a : Int), .int .i64 (b : Int)] w fun e w' => e = .returned (.int .i64 (c : Int)) ∧ w' = w := by
  obtain ⟨d, hd⟩ : ∃ d : Int, (4611686018427387904 : Int) - (b : Int) = d := ⟨_, rfl⟩
  have w1 : wrap64 d = d := by unfold wrap64; omega
  by_cases h : 4611686018427387904 < a + b
  · have h1 : (a : Int) > d := by omega
    have e : c = 4611686018427387905 := by rw [hc]; unfold tm; omega
    subst e
    clear hc
    clear h ha hb
    go_enter Tryd.func82, Tryd.ntmps82
    go_wp2_with fail
    go_ret
    exact ⟨rfl, rfl⟩
  · have h1 : decide ((a : Int) > d) = false := decide_eq_false (by omega)
    have h2 : ¬ d < (a : Int) := by omega
    have e : c = a + b := by rw [hc]; unfold tm; omega
    have e2 : (a : Int) + (b : Int) = (c : Int) := by rw [e]; omega
    have e3 : wrap64 (c : Int) = (c : Int) := by rw [e]; unfold wrap64; omega
    clear hc e h ha hb
    go_enter Tryd.func82, Tryd.ntmps82
    go_wp2_with fail
    go_ret
    exact ⟨rfl, rfl⟩
set_option maxHeartbeats 1000000 in
theorem dproduct_c (n a c : Nat) (hn : 1 ≤ n) (hn2 : n ≤ 16384) (hc : c = tm (n * a)) (w : World) : Calls Tryd.prog 83 #[.int .i64 (a : Int), .int .i64 (n : Int)] w fun e w' => e = .returned (.int .i64 (c : Int)) ∧ w' = w := by
  obtain ⟨q, hq⟩ : ∃ q : Nat, 4611686018427387904 / n = q := ⟨_, rfl⟩
  have hqi : (4611686018427387904 : Int) / (n : Int) = (q : Int) := by rw [← hq]; rfl
  have hql : q ≤ 4611686018427387904 := by rw [← hq]; exact Nat.div_le_self _ _
  have n0 : (n : Int) > 0 := by omega
  have nz : ((n : Int) == 0) = false := beq_eq_false_iff_ne.2 (by omega)
  have w1 : wrap64 ((4611686018427387904 : Int) / (n : Int)) = (q : Int) := by rw [hqi]; unfold wrap64; omega
  have key : a ≤ q ↔ n * a ≤ 4611686018427387904 := by rw [← hq, Nat.le_div_iff_mul_le (by omega), Nat.mul_comm]
  by_cases h : q < a
  · have h1 : (a : Int) > (q : Int) := by omega
    have e : c = 4611686018427387905 := by
      rw [hc]; unfold tm
      have : ¬ n * a ≤ 4611686018427387904 := fun hh => (by have := key.2 hh; omega)
      omega
    subst e
    clear hc
    clear hq hql key h w1
    go_enter Tryd.func83, Tryd.ntmps83
    go_wp2_with fail
    go_ret
    exact ⟨rfl, rfl⟩
  · have h1 : decide ((a : Int) > (q : Int)) = false := decide_eq_false (by omega)
    have hle := key.1 (by omega)
    have e : c = n * a := by rw [hc]; unfold tm; omega
    have e2 : (a : Int) * (n : Int) = (c : Int) := by rw [castMul, e, Nat.mul_comm]
    have e3 : wrap64 (c : Int) = (c : Int) := by unfold wrap64; omega
    have h2 : ¬ q < a := h
    clear hc e hq hql key hle w1
    go_enter Tryd.func83, Tryd.ntmps83
    go_wp2_with fail
    go_ret
    exact ⟨by rw [e3]; rfl, rfl⟩
set_option maxHeartbeats 2000000 in
set_option maxRecDepth 100000 in
theorem dtimes_c (k : Int) (a b x y : Nat) (ha : 2 ≤ a) (hb : 2 ≤ b) (hab : a * b ≤ 16384) (w : World) :
    Calls Tryd.prog 72 #[.int .i64 k, .int .i64 (x : Int), .int .i64 (a : Int), .int .i64 (y : Int), .int .i64 (b : Int)] w fun e w' => e = .returned (.int .i64 (prc a b x y (k == 2) : Int)) ∧ w' = w := by
  obtain ⟨n, hn⟩ : ∃ n, a * b = n := ⟨_, rfl⟩
  have hn1 : n ≤ 16384 := by rw [← hn]; exact hab
  have ha2 : a ≤ 16384 := by have := Nat.le_mul_of_pos_right a (show 0 < b by omega); omega
  have hb2 : b ≤ 16384 := by have := Nat.le_mul_of_pos_left b (show 0 < a by omega); omega
  obtain ⟨a1, ha1⟩ : ∃ a1 : Nat, (a : Int) - 1 = (a1 : Int) := ⟨a - 1, by omega⟩
  obtain ⟨b1, hb1⟩ : ∃ b1 : Nat, (b : Int) - 1 = (b1 : Int) := ⟨b - 1, by omega⟩
  obtain ⟨a6, ha6⟩ : ∃ a6 : Nat, 6 * (a1 : Int) = (a6 : Int) := ⟨6 * a1, by omega⟩
  have ea6 : a6 = 6 * (a - 1) := by omega
  have eb1 : b1 = b - 1 := by omega
  obtain ⟨tw, htw⟩ : ∃ tw, 6 * (a - 1) * (b - 1) = tw := ⟨_, rfl⟩
  have htl : tw ≤ 98304 := by
    have h1 : (a - 1) * (b - 1) ≤ a * b := Nat.mul_le_mul (by omega) (by omega)
    rw [← htw, Nat.mul_assoc]; omega
  obtain ⟨p1, hp1⟩ : ∃ p1, tm (a * y) = p1 := ⟨_, rfl⟩
  obtain ⟨p2, hp2⟩ : ∃ p2, tm (b * x) = p2 := ⟨_, rfl⟩
  obtain ⟨p3, hp3⟩ : ∃ p3, tm (p1 + p2) = p3 := ⟨_, rfl⟩
  obtain ⟨p4, hp4⟩ : ∃ p4, tm (p3 + tw) = p4 := ⟨_, rfl⟩
  have l1 : p1 ≤ 4611686018427387905 := by rw [← hp1]; exact tm_le _
  have l2 : p2 ≤ 4611686018427387905 := by rw [← hp2]; exact tm_le _
  have l3 : p3 ≤ 4611686018427387905 := by rw [← hp3]; exact tm_le _
  have l4 : p4 ≤ 4611686018427387905 := by rw [← hp4]; exact tm_le _
  have k1 : Hid (∀ w, Calls Tryd.prog 83 #[.int .i64 (y : Int), .int .i64 (a : Int)] w fun e w' => e = .returned (.int .i64 (p1 : Int)) ∧ w' = w) := fun w => dproduct_c a y p1 (by omega) ha2 hp1.symm w
  have k2 : Hid (∀ w, Calls Tryd.prog 83 #[.int .i64 (x : Int), .int .i64 (b : Int)] w fun e w' => e = .returned (.int .i64 (p2 : Int)) ∧ w' = w) := fun w => dproduct_c b x p2 (by omega) hb2 hp2.symm w
  have k3 : Hid (∀ w, Calls Tryd.prog 82 #[.int .i64 (p1 : Int), .int .i64 (p2 : Int)] w fun e w' => e = .returned (.int .i64 (p3 : Int)) ∧ w' = w) := fun w => dsum_c p1 p2 p3 l1 l2 hp3.symm w
  have k4 : Hid (∀ w, Calls Tryd.prog 82 #[.int .i64 (p3 : Int), .int .i64 (tw : Int)] w fun e w' => e = .returned (.int .i64 (p4 : Int)) ∧ w' = w) := fun w => dsum_c p3 tw p4 l3 (by omega) hp4.symm w
  obtain ⟨p5, hp5⟩ : ∃ p5, tm (p4 + n) = p5 := ⟨_, rfl⟩
  have k5 : Hid (∀ w, Calls Tryd.prog 82 #[.int .i64 (p4 : Int), .int .i64 (n : Int)] w fun e w' => e = .returned (.int .i64 (p5 : Int)) ∧ w' = w) := fun w => dsum_c p4 n p5 l4 (by omega) hp5.symm w
  have er : Hid (prc a b x y (k == 2) = if (k == 2) = true then p4 else p5) := by
    show _ = _
    unfold prc
    rw [hp1, hp2, hp3, htw, hp4, hn]
    cases (k == 2)
    · exact hp5
    · show tm (p4 + 0) = p4
      rw [Nat.add_zero, ← hp4, tm_tm]
  rw [er.out]
  have m1 : (a : Int) * (b : Int) = (n : Int) := by rw [castMul, hn]
  have m2 : (a6 : Int) * (b1 : Int) = (tw : Int) := by rw [castMul, ea6, eb1, htw]
  have a6l : a6 ≤ 98304 := by omega
  have wq1 : IntKind.i64.wrap (a1 : Int) = (a1 : Int) := by rw [IntKind.wrap_i64]; omega
  have wq2 : IntKind.i64.wrap (b1 : Int) = (b1 : Int) := by rw [IntKind.wrap_i64]; omega
  have wq3 : IntKind.i64.wrap (a6 : Int) = (a6 : Int) := by rw [IntKind.wrap_i64]; omega
  have wq4 : IntKind.i64.wrap (tw : Int) = (tw : Int) := by rw [IntKind.wrap_i64]; omega
  have wq5 : IntKind.i64.wrap (n : Int) = (n : Int) := by rw [IntKind.wrap_i64]; omega
  clear er hp1 hp2 hp3 hp4 hp5 hn htw hab ea6 eb1 l1 l2 l3 l4
  by_cases hk : k = 2
  · subst hk
    rw [if_pos (show ((2 : Int) == 2) = true from rfl)]
    go_enter Tryd.func72, Tryd.ntmps72
    go_wp2_with fail
    refine (k1.out _).mono ?_
    rintro e w' ⟨rfl, rfl⟩
    go_wp2_with fail
    refine (k2.out _).mono ?_
    rintro e w' ⟨rfl, rfl⟩
    go_wp2_with fail
    refine (k3.out _).mono ?_
    rintro e w' ⟨rfl, rfl⟩
    go_wp2_with fail
    refine (k4.out _).mono ?_
    rintro e w' ⟨rfl, rfl⟩
    go_wp2_with fail
    go_ret
    exact ⟨rfl, rfl⟩
  · have hkb : (k == 2) = false := beq_eq_false_iff_ne.2 hk
    have hkn : (k != 2) = true := by simp [bne, hkb]
    rw [hkb, if_neg (by decide)]
    go_enter Tryd.func72, Tryd.ntmps72
    go_wp2_with fail
    refine (k1.out _).mono ?_
    rintro e w' ⟨rfl, rfl⟩
    go_wp2_with fail
    refine (k2.out _).mono ?_
    rintro e w' ⟨rfl, rfl⟩
    go_wp2_with fail
    refine (k3.out _).mono ?_
    rintro e w' ⟨rfl, rfl⟩
    go_wp2_with fail
    refine (k4.out _).mono ?_
    rintro e w' ⟨rfl, rfl⟩
    go_wp2_with fail
    refine (k5.out _).mono ?_
    rintro e w' ⟨rfl, rfl⟩
    go_wp2_with fail
    go_ret
    exact ⟨rfl, rfl⟩
end Go.Proofs.YtibkdbapbbdkfaaDoor
