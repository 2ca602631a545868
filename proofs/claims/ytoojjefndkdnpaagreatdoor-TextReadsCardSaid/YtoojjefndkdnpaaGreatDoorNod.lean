/-
  The program's naturals: tens, timesTens, naturalOf, length, Clone.
-/
import Derived.Test.YtoojjefndkdnpaaGreatDoorNom
namespace Go.Proofs.YtoojjefndkdnpaaGreatDoor
open Flo Go.RowKit
theorem pow10_le {k m : Nat} (h : k ≤ m) : 10 ^ k ≤ 10 ^ m := Nat.pow_le_pow_right (by decide) h
set_option maxHeartbeats 1000000 in
theorem tens_c (k : Nat) (w : World) (hk : k ≤ 19) :
    Calls Tryz.prog 57 #[.int .i64 k] w fun e w' => ∃ p : Nat, e = .returned (.int .u64 (p : Int)) ∧ Hid (p = 10 ^ k) ∧ w = w' := by
  go_enter Tryz.func57, Tryz.ntmps57
  go_wp2
  go_loop [3, 5] (fun sp si => ∃ i p : Nat, i ≤ k ∧ Hid (p = 10 ^ i) ∧ sp = .int .u64 p ∧ si = .int .i64 i) (fun _ si => k - (intOf si).toNat)
  case atStart => exact ⟨0, 1, by omega, rfl, rfl, rfl⟩
  case round =>
    obtain ⟨i, p, hi, hp, rfl, rfl⟩ := hrel
    by_cases hlt : i < k
    · have hlt' : (i : Int) < (k : Int) := by omega
      have hpl : p ≤ 1000000000000000000 := by rw [hp.out]; exact pow10_le (show i ≤ 18 by omega)
      have e1 : IntKind.u64.wrap ((p : Int) * 10) = ((p * 10 : Nat) : Int) := by rw [show (10 : Int) = ((10 : Nat) : Int) from rfl, castMul]; exact wrapId _ (by omega)
      go_wp2
      go_round
      case rel => exact ⟨i + 1, p * 10, by omega, by rw [hp.out]; exact (Nat.pow_succ _ _).symm, rfl, by go_num⟩
      case measure => simp [intOf]; omega
    · have hlt' : decide ((i : Int) < (k : Int)) = false := decide_eq_false (by omega)
      have hik : i = k := by omega
      subst hik
      go_wp2
      go_ret
      exact ⟨p, rfl, hp, rfl⟩
theorem W64_pow (j : Nat) : W64 ^ j = 2 ^ (64 * j) := by rw [Nat.pow_mul]; rfl
theorem bitLen_top {n : Nat} (h : 0 < n) : bitLen n = 64 * (Wd.nw W64 n - 1) + bitLen (Wd.wd W64 n (Wd.nw W64 n - 1)) := by
  have h1 := Wd.pow_le_of_nw W64_2 h
  have h2 := Wd.lt_pow_nw W64_2 n
  have h3 := Wd.nw_pos W64_2 h
  have e : Wd.wd W64 n (Wd.nw W64 n - 1) = n / 2 ^ (64 * (Wd.nw W64 n - 1)) := by
    unfold Wd.wd
    rw [Nat.mod_eq_of_lt, W64_pow]
    rw [Nat.div_lt_iff_lt_mul (Nat.pow_pos W64_0), ← Nat.pow_succ', show (Wd.nw W64 n - 1).succ = Wd.nw W64 n by omega]
    exact h2
  rw [e]
  apply bitLen_shift
  intro h4
  rw [← W64_pow] at h4
  rcases Nat.div_eq_zero_iff.1 h4 with h5 | h5
  · have := Nat.pow_pos (n := Wd.nw W64 n - 1) W64_0; omega
  · omega
set_option maxRecDepth 100000 in
set_option maxHeartbeats 1000000 in
theorem length_n (B n g cap k : Nat) (w : World) (K : Nat) (hK : (K : Int) - 1 = (k : Int)) (hr : Hid (Row 22 .u64 w B (.slice (some ⟨g, 0, none⟩) K cap) K (Wd.wd W64 n))) (hk : k ≤ 1000000) (h : Hid (bitLen n = 64 * k + bitLen (Wd.wd W64 n k))) :
    Calls Tryz.prog 75 #[.slice (some ⟨g, 0, none⟩) K cap] w fun e w' => e = .returned (.int .i64 (bitLen n : Nat)) ∧ w = w' := by
  have hc := hr.out.cell k (by omega)
  have hx := wd64 n k
  have hb := bitLen_lt (s := Wd.wd W64 n k) (k := 64) hx
  generalize Wd.wd W64 n k = x at hc hx hb h
  generalize bitLen n = r at h
  have hx' : Hid ((x : Int) < 18446744073709551616) := (by omega : (x : Int) < 18446744073709551616)
  have hbH : Hid (bitLen x ≤ 64) := hb
  clear hx hb
  have hK0 : ((K : Int) == 0) = false := beq_eq_false_iff_ne.2 (by omega)
  have hKk : (k : Int) < (K : Int) := by omega
  go_enter Tryz.func75, Tryz.ntmps75
  go_wp2_with (go_at_call 54; refine (len64_c (x : Int) _ (Int.natCast_nonneg x) hx'.out).mono ?_; rintro e w' ⟨rfl, rfl⟩)
  go_ret
  refine ⟨ret_int ?_, rfl⟩
  have := h.out
  have := hbH.out
  unfold wrap64
  omega
set_option maxRecDepth 100000 in
set_option maxHeartbeats 1000000 in
theorem length_c (B n : Nat) (v : Value) (w : World) (hr : Nl w B v n) (hk : Wd.nw W64 n ≤ 1000000) :
    Calls Tryz.prog 75 #[v] w fun e w' => e = .returned (.int .i64 (bitLen n : Nat)) ∧ w = w' := by
  by_cases h0 : n = 0
  · subst h0
    obtain ⟨ao, cap, rfl⟩ := Row.slice hr
    have hz : Wd.nw W64 0 = 0 := Wd.nw_zero _
    go_enter Tryz.func75, Tryz.ntmps75
    go_wp2
    go_ret
    exact ⟨ret_int (by decide), rfl⟩
  · have h2 := Wd.nw_pos W64_2 (show 0 < n by omega)
    have h3 := bitLen_top (show 0 < n by omega)
    unfold Nl at hr
    generalize Wd.nw W64 n = k1 at *
    obtain ⟨k, rfl⟩ : ∃ k, k1 = k + 1 := ⟨k1 - 1, by omega⟩
    rcases Row.cases hr with ⟨rfl, h1⟩ | ⟨g, cap, rfl, _⟩
    · omega
    · exact length_n B n g cap k w (k + 1) (by omega) hr (by omega) h3
set_option maxRecDepth 100000 in
set_option maxHeartbeats 1000000 in
theorem naturalOf_c (x : Nat) (w : World) (hx : x < 18446744073709551616) :
    Calls Tryz.prog 47 #[.int .u64 x] w fun e w' => ∃ v', e = .returned v' ∧ Nl w' w.heap.size v' x ∧ Below w.heap.size w w' := by
  have hrow : Row 22 .u64 (w.alloc (.cells #[.int .u64 (x : Int)] 22)) w.heap.size (.slice (some ⟨w.heap.size, 0, none⟩) 1 1) 1 (Wd.wd W64 x) := by
    have := World.ownsRow_lit (base := w.heap.size) (e := 22) (size := 1) w #[.int .u64 (x : Int)] 1 (Nat.le_refl _) (by decide) rfl
    have h2 : Row 22 .u64 (w.alloc (.cells #[.int .u64 (x : Int)] 22)) w.heap.size (.slice (some ⟨w.heap.size, 0, none⟩) 1 1) 1 (fun _ => x) := this
    exact h2.congr fun j hj => by rw [show j = 0 by omega, wd0 hx]
  go_enter Tryz.func47, Tryz.ntmps47
  go_wp2_with (go_at_call 74; refine (trimmed_c w.heap.size 1 x _ _ hrow (by rw [Nat.pow_one]; exact hx)).mono ?_; rintro e w' ⟨v', rfl, hv, _, rfl⟩)
  go_ret
  exact ⟨_, rfl, hv, (Below.refl _ _).alloc (Nat.le_refl _) _⟩
set_option maxRecDepth 100000 in
set_option maxHeartbeats 1000000 in
theorem timesTens_c (B n k : Nat) (v : Value) (w : World) (hB : B ≤ w.heap.size) (hr : Nl w B v n) (hkk : k ≤ 100000) (hk : Wd.nw W64 (n * 10 ^ k) ≤ 1000000) :
    Calls Tryz.prog 48 #[v, .int .i64 k] w fun e w' => ∃ v', e = .returned v' ∧ Nl w' B v' (n * 10 ^ k) ∧ Below B w w' ∧ Inp w w' v v' := by
  have hkH : Hid (Wd.nw W64 (n * 10 ^ k) ≤ 1000000) := hk
  clear hk
  go_enter Tryz.func48, Tryz.ntmps48
  go_wp2
  go_loopw [0, 1] (fun sv sk wr => ∃ (j : Nat), j ≤ k ∧ sk = .int .i64 j ∧ Hid (∃ q, n * 10 ^ k = q * 10 ^ j ∧ Nl wr B sv q) ∧ Hid (Below B w wr) ∧ Hid (Inp w wr v sv)) (fun _ sk _ => (intOf sk).toNat)
  case atStart => exact ⟨k, Nat.le_refl _, rfl, ⟨n, rfl, hr⟩, Below.refl _ _, Inp.refl _ _⟩
  case round =>
    obtain ⟨j, hj, rfl, hq, hb, hip⟩ := hrel
    obtain ⟨q, hqe, hrow⟩ := hq.out
    have hBr : B ≤ wr.heap.size := Nat.le_trans hB hb.out.size
    have hqw : Hid (Wd.nw W64 q ≤ 1000000) := by
      refine Nat.le_trans (Wd.nw_mono W64_2 ?_) hkH.out
      rw [hqe]; exact Nat.le_mul_of_pos_right _ (Nat.pow_pos (by decide))
    have hqeH : Hid (n * 10 ^ k = q * 10 ^ j) := hqe
    have hrowH : Hid (Nl wr B u0 q) := hrow
    clear hqe hrow hq
    by_cases h : 19 ≤ j
    · have h' : (19 : Int) ≤ (j : Int) := by omega
      obtain ⟨i, rfl⟩ : ∃ i, j = i + 19 := ⟨j - 19, by omega⟩
      go_wp2_with (go_at_call 73; refine (timesPlus_c B q 10000000000000000000 0 u0 wr hBr hrowH.out hqw.out (by decide) (by decide) (by decide)).mono ?_; rintro e w' ⟨v', rfl, hv, hb2, hi2⟩)
      go_roundw
      case rel => exact ⟨i, by omega, by go_num, ⟨_, by rw [hqeH.out, Nat.pow_add, Nat.add_zero, Nat.mul_assoc, Nat.mul_comm (10 ^ i)], hv⟩, hb.out.trans hb2, hip.out.trans hi2⟩
      case measure => simp [intOf]; omega
    · have h' : decide ((19 : Int) ≤ (j : Int)) = false := decide_eq_false (by omega)
      go_wp2_with (go_at_call 57; refine (tens_c j _ (by omega)).mono ?_; rintro e w' ⟨p, rfl, hp, rfl⟩)
      have hp1 : p < 18446744073709551616 := by rw [hp.out]; exact Nat.lt_of_le_of_lt (pow10_le (show j ≤ 19 by omega)) (by decide)
      have hp0 : 0 < p := by rw [hp.out]; exact Nat.pow_pos (by decide)
      go_wp2_with (go_at_call 73; refine (timesPlus_c B q p 0 u0 wr hBr hrowH.out hqw.out hp1 hp0 (by decide)).mono ?_; rintro e w' ⟨v', rfl, hv, hb2, hi2⟩)
      go_ret
      refine ⟨_, rfl, ?_, hb.out.trans hb2, hip.out.trans hi2⟩
      rw [hqeH.out, ← hp.out]
      exact hv
end Go.Proofs.YtoojjefndkdnpaaGreatDoor
