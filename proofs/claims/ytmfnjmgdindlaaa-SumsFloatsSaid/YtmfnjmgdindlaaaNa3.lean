/-
  timbrenat: Compare, Size, digit.
-/
import Derived.Test.YtmfnjmgdindlaaaNa2
import Derived.Test.YtmfnjmgdindlaaaNoh
import Derived.Shelf.Spec.TrailingZeros
namespace Go.Proofs.Ytmfnjmgdindlaaa
open Flo Go.RowKit
/-- -1, 0 or 1 -/
def sgnOf (m n : Nat) : Int := if m < n then -1 else if n < m then 1 else 0
set_option maxRecDepth 100000 in
set_option maxHeartbeats 1000000 in
theorem ncmp_ne (ao bo : Option Addr) (k l c d : Nat) (w : World) (h : ((k : Int) != (l : Int)) = true) :
    Calls Try.prog 38 #[.slice ao k c, .slice bo l d] w fun e w' => e = .returned (.int .i64 (if k < l then -1 else 1)) ∧ w = w' := by
  by_cases hl : k < l
  · have hl' : (k : Int) < (l : Int) := by omega
    rw [if_pos hl]
    go_enter Try.func38, Try.ntmps38
    go_wp2
    go_ret
    exact ⟨rfl, rfl⟩
  · have hl' : ¬ ((k : Int) < (l : Int)) := by omega
    rw [if_neg hl]
    go_enter Try.func38, Try.ntmps38
    go_wp2
    go_ret
    exact ⟨rfl, rfl⟩
set_option maxRecDepth 100000 in
set_option maxHeartbeats 1000000 in
theorem ncmp_n (ao bo : Option Addr) (k c d m n : Nat) (w : World) (hk : k ≤ 1000000) (hm : Hid (m < W32 ^ k)) (hn : Hid (n < W32 ^ k))
    (h1 : Hid (0 < k → ∃ g, ao = some ⟨g, 0, none⟩ ∧ ∀ i, i < k → w.cell? ⟨g, i, none⟩ = some (.int .u32 (Wd.wd W32 m i : Nat))))
    (h2 : Hid (0 < k → ∃ g, bo = some ⟨g, 0, none⟩ ∧ ∀ i, i < k → w.cell? ⟨g, i, none⟩ = some (.int .u32 (Wd.wd W32 n i : Nat)))) :
    Calls Try.prog 38 #[.slice ao k c, .slice bo k d] w fun e w' => e = .returned (.int .i64 (sgnOf m n)) ∧ ∃ q, w' = w.drewN q := by
  go_enter Try.func38, Try.ntmps38
  go_wp2
  go_loopw [5] (fun si wr => ∃ (i q : Nat), i ≤ k ∧ si = .int .i64 ((i : Int) - 1) ∧ wr = w.drewN q ∧ Hid (m / W32 ^ i = n / W32 ^ i)) (fun si _ => (intOf si + 1).toNat)
  case atStart => exact ⟨k, 0, Nat.le_refl _, rfl, rfl, by show m / W32 ^ k = n / W32 ^ k; rw [Nat.div_eq_of_lt hm.out, Nat.div_eq_of_lt hn.out]⟩
  case round =>
    obtain ⟨i, q, hi, rfl, rfl, hd⟩ := hrel
    by_cases h0 : i = 0
    · subst h0
      have hmn : Hid (m = n) := by have h := hd.out; rw [Nat.pow_zero, Nat.div_one, Nat.div_one] at h; exact h
      go_wp2
      go_ret
      refine ⟨ret_int ?_, _, rfl⟩
      rw [hmn.out]; unfold sgnOf; simp
    · obtain ⟨j, rfl⟩ : ∃ j, i = j + 1 := ⟨i - 1, by omega⟩
      obtain ⟨g1, rfl, hc1⟩ := h1.out (by omega)
      obtain ⟨g2, rfl, hc2⟩ := h2.out (by omega)
      have e1 := hc1 j (by omega)
      have e2 := hc2 j (by omega)
      clear hc1 hc2 h1 h2
      have hj : (j : Int) < (k : Int) := by omega
      have hj0 : (((j + 1 : Nat) : Int) - 1) = (j : Int) := by omega
      have hxl := wd32 m j
      have hyl := wd32 n j
      have hlt : Hid (Wd.wd W32 m j < Wd.wd W32 n j → m < n) := fun h => Wd.cmp_lt hd.out h
      have hgt : Hid (Wd.wd W32 n j < Wd.wd W32 m j → n < m) := fun h => Wd.cmp_lt hd.out.symm h
      have heq : Hid (Wd.wd W32 m j = Wd.wd W32 n j → m / W32 ^ j = n / W32 ^ j) := fun h => Wd.cmp_eq hd.out h
      generalize Wd.wd W32 m j = x at e1 hxl hlt hgt heq
      generalize Wd.wd W32 n j = y at e2 hyl hlt hgt heq
      rw [hj0]
      clear hd hj0
      rcases Nat.lt_trichotomy x y with hxy | hxy | hxy
      · have hxy' : (x : Int) < (y : Int) := by omega
        have hmn : Hid (m < n) := hlt.out hxy
        clear hlt hgt heq
        go_wp2_with fail
        go_quiet (fail)
        go_wp2
        go_ret
        refine ⟨ret_int ?_, _, by first | rw [World.drewN_drewN] | rfl⟩
        unfold sgnOf; rw [if_pos hmn.out]
      · subst hxy
        have hnew : Hid (m / W32 ^ j = n / W32 ^ j) := heq.out rfl
        clear hlt hgt heq
        go_wp2_with fail
        go_quiet (fail)
        go_wp2_with fail
        go_quiet (fail)
        go_wp2
        go_roundw
        case rel => exact ⟨j, _, by omega, by go_num, rfl, hnew⟩
        case measure => simp [intOf]
      · have hxy' : ¬ ((x : Int) < (y : Int)) := by omega
        have hxy2 : (y : Int) < (x : Int) := by omega
        have hmn : Hid (n < m) := hgt.out hxy
        clear hlt hgt heq
        go_wp2_with fail
        go_quiet (fail)
        go_wp2_with fail
        go_quiet (fail)
        go_wp2
        go_ret
        refine ⟨ret_int ?_, _, by first | rw [World.drewN_drewN, World.drewN_drewN] | rw [World.drewN_drewN]⟩
        have h9 := hmn.out
        unfold sgnOf; rw [if_neg (by omega), if_pos h9]
theorem ncmp_c (B C m n : Nat) (u v : Value) (w : World) (hu : Nm w B u m) (hv : Nm w C v n) (hk : Wd.nw W32 m ≤ 1000000) :
    Calls Try.prog 38 #[u, v] w fun e w' => e = .returned (.int .i64 (sgnOf m n)) ∧ ∃ q, w' = w.drewN q := by
  obtain ⟨ao, c, rfl⟩ := Row.slice hu
  obtain ⟨bo, d, rfl⟩ := Row.slice hv
  by_cases hl : Wd.nw W32 m = Wd.nw W32 n
  · have h1 := Wd.lt_pow_nw W32_2 m
    have h2 := Wd.lt_pow_nw W32_2 n
    unfold Nm at hu hv
    rw [← hl] at hv h2 ⊢
    exact ncmp_n ao bo _ c d m n w hk h1 h2 (Row.rd hu) (Row.rd hv)
  · refine (ncmp_ne ao bo _ _ c d w ?_).mono ?_
    · simp [bne]; omega
    · rintro e w' ⟨rfl, rfl⟩
      refine ⟨?_, 0, rfl⟩
      unfold sgnOf
      by_cases h : Wd.nw W32 m < Wd.nw W32 n
      · have hmn : m < n := by
          apply Nat.lt_of_not_le
          intro h'
          have := Wd.nw_mono W32_2 h'
          omega
        rw [if_pos h, if_pos hmn]
      · have hnm : n < m := by
          apply Nat.lt_of_not_le
          intro h'
          have := Wd.nw_mono W32_2 h'
          omega
        rw [if_neg h, if_neg (by omega), if_pos hnm]
theorem W32_pow (j : Nat) : W32 ^ j = 2 ^ (32 * j) := by rw [Nat.pow_mul]; rfl
theorem dig_word (n j s : Nat) (hs : s < 32) : Wd.wd W32 n j / 2 ^ s % 2 = n / 2 ^ (32 * j + s) % 2 := by
  unfold Wd.wd
  have e : W32 = 2 ^ s * 2 ^ (32 - s) := by rw [← Nat.pow_add, show s + (32 - s) = 32 by omega]; rfl
  conv => lhs; rw [W32_pow, e]
  rw [Nat.mod_mul_right_div_self, Nat.mod_mod_of_dvd _ (by exact ⟨2 ^ (31 - s), by rw [← Nat.pow_succ', show (31 - s).succ = 32 - s by omega]⟩), Nat.div_div_eq_div_mul, ← Nat.pow_add]
theorem and1_32 (x s : Nat) (hx : x < 4294967296) : bits .and .u32 ((x : Int) / 2 ^ s) 1 = ((x / 2 ^ s % 2 : Nat) : Int) := by
  have e : (x : Int) / 2 ^ s = ((x / 2 ^ s : Nat) : Int) := by simp
  rw [e, show (1 : Int) = ((1 : Nat) : Int) from rfl, bits_and_u32_nat _ _ (Nat.lt_of_le_of_lt (Nat.div_le_self _ _) hx) (by decide)]
  exact congrArg _ (Nat.and_two_pow_sub_one_eq_mod _ 1)
set_option maxRecDepth 100000 in
set_option maxHeartbeats 1000000 in
theorem ndigit_n (B n g cap k i j s : Nat) (w : World) (hr : Hid (Row 64 .u32 w B (.slice (some ⟨g, 0, none⟩) k cap) k (Wd.wd W32 n))) (hi : i ≤ 100000000) (hj : Hid (j = i / 32)) (hs : s = i % 32) (hjk : j < k) (hk : k ≤ 1000000) :
    Calls Try.prog 63 #[.slice (some ⟨g, 0, none⟩) k cap, .int .i64 i] w fun e w' => e = .returned (.int .u32 ((n / 2 ^ i % 2 : Nat) : Int)) ∧ w = w' := by
  have hc := hr.out.cell j hjk
  have hx := wd32 n j
  have hres : Hid (Wd.wd W32 n j / 2 ^ s % 2 = n / 2 ^ i % 2) := by
    show _ = _
    rw [dig_word n j s (by omega), show 32 * j + s = i by have := hj.out; omega]
  generalize Wd.wd W32 n j = x at hc hx hres
  have hand : Hid (bits .and .u32 ((x : Int) / 2 ^ s) 1 = ((x / 2 ^ s % 2 : Nat) : Int)) := and1_32 x s hx
  have e1 : wrap64 ((i : Int) / 32) = (j : Int) := by unfold wrap64; have := hj.out; omega
  have e2 : wrap64 ((i : Int) % 32) = (s : Int) := by unfold wrap64; omega
  have e3 : (i : Int) % 32 = (s : Int) := by omega
  have e4 : (i : Int) / 32 = (j : Int) := by have := hj.out; omega
  have hjk' : (j : Int) < (k : Int) := by omega
  have hs32 : s < 32 := by omega
  clear hs
  go_enter Try.func63, Try.ntmps63
  go_wp2
  go_ret
  exact ⟨by rw [hand.out, hres.out]; rfl, rfl⟩
theorem nw_pos' {n : Nat} (h : 0 < n) : 0 < Wd.nw W32 n := by rw [Wd.nw_pos W32_2 h]; omega
theorem bit_nw32 {n : Nat} : bitLen n ≤ 32 * Wd.nw W32 n := by
  apply bitLen_lt
  rw [← W32_pow]
  exact Wd.lt_pow_nw W32_2 n
theorem nw_bit32 {n k : Nat} (h : n < 2 ^ (32 * k)) : Wd.nw W32 n ≤ k := Wd.nw_le W32_2 (by rw [W32_pow]; exact h)
theorem ndigit_c (B n i : Nat) (v : Value) (w : World) (hr : Nm w B v n) (hk : Wd.nw W32 n ≤ 1000000) (hi : i < bitLen n) :
    Calls Try.prog 63 #[v, .int .i64 i] w fun e w' => e = .returned (.int .u32 ((n / 2 ^ i % 2 : Nat) : Int)) ∧ w = w' := by
  have h1 := bit_nw32 (n := n)
  rcases Row.cases hr with ⟨rfl, h0⟩ | ⟨g, cap, rfl, _⟩
  · omega
  · exact ndigit_n B n g cap _ i (i / 32) (i % 32) w hr (by omega) rfl rfl (by omega) hk
theorem bitLen_eq {x L : Nat} (h1 : 2 ^ (L - 1) ≤ x) (h2 : x < 2 ^ L) (h0 : 0 < L) : bitLen x = L := by
  have hx : 0 < x := Nat.lt_of_lt_of_le (Nat.pow_pos (by decide)) h1
  have a1 := bitLen_lo hx
  have a2 := bitLen_hi x
  have a3 := bitLen_pos hx
  have b1 : L - 1 < bitLen x := (Nat.pow_lt_pow_iff_right (by decide : 1 < 2)).1 (Nat.lt_of_le_of_lt h1 a2)
  have b2 : bitLen x - 1 < L := (Nat.pow_lt_pow_iff_right (by decide : 1 < 2)).1 (Nat.lt_of_le_of_lt a1 h2)
  omega
theorem bitLen_top32 {n : Nat} (h : 0 < n) : bitLen n = 32 * (Wd.nw W32 n - 1) + bitLen (Wd.wd W32 n (Wd.nw W32 n - 1)) := by
  have h1 := Wd.pow_le_of_nw W32_2 h
  have h2 := Wd.lt_pow_nw W32_2 n
  have h3 := Wd.nw_pos W32_2 h
  have e : Wd.wd W32 n (Wd.nw W32 n - 1) = n / 2 ^ (32 * (Wd.nw W32 n - 1)) := by
    unfold Wd.wd
    rw [Nat.mod_eq_of_lt, W32_pow]
    rw [Nat.div_lt_iff_lt_mul (Nat.pow_pos W32_0), ← Nat.pow_succ', show (Wd.nw W32 n - 1).succ = Wd.nw W32 n by omega]
    exact h2
  rw [e]
  apply bitLen_shift
  intro h4
  rw [← W32_pow] at h4
  rcases Nat.div_eq_zero_iff.1 h4 with h5 | h5
  · have := Nat.pow_pos (n := Wd.nw W32 n - 1) W32_0; omega
  · omega
set_option maxRecDepth 100000 in
set_option maxHeartbeats 1000000 in
theorem nsize_n (B n g cap k : Nat) (w : World) (K : Nat) (hK : (K : Int) - 1 = (k : Int)) (hr : Hid (Row 64 .u32 w B (.slice (some ⟨g, 0, none⟩) K cap) K (Wd.wd W32 n))) (hk : k ≤ 1000000) (h : Hid (bitLen n = 32 * k + bitLen (Wd.wd W32 n k))) (h0 : Wd.wd W32 n k ≠ 0) :
    Calls Try.prog 51 #[.slice (some ⟨g, 0, none⟩) K cap] w fun e w' => e = .returned (.int .i64 (bitLen n : Nat)) ∧ w = w' := by
  have hc := hr.out.cell k (by omega)
  have hx := wd32 n k
  generalize Wd.wd W32 n k = x at hc hx h h0
  generalize bitLen n = r at h
  have hKk : (k : Int) < (K : Int) := by omega
  have e1 : wrap64 (32 * (K : Int)) = 32 * (K : Int) := by unfold wrap64; omega
  have e2 : (32 * (K : Int) == 0) = false := beq_eq_false_iff_ne.2 (by omega)
  go_enter Try.func51, Try.ntmps51
  go_wp2
  go_loop [3, 4] (fun sn sw => ∃ t y : Nat, t ≤ 31 ∧ y < 4294967296 ∧ 0 < y ∧ sn = .int .i64 (32 * (K : Int) - (t : Int)) ∧ sw = .int .u32 y ∧ Hid (y = x * 2 ^ t)) (fun _ sw => 4294967296 - (intOf sw).toNat)
  case atStart => exact ⟨0, x, by omega, hx, by omega, by go_num, rfl, by show x = x * 2 ^ 0; omega⟩
  case round =>
    obtain ⟨t, y, ht, hy, hy0, rfl, rfl, hyx⟩ := hrel
    clear hr hc
    by_cases hlt : y < 2147483648
    · have hlt' : (y : Int) < 2147483648 := by omega
      have e3 : IntKind.u32.wrap ((y : Int) * 2) = ((y * 2 : Nat) : Int) := by simp only [IntKind.wrap_u32]; omega
      have ht2 : t + 1 ≤ 31 := by
        apply Nat.le_of_not_lt
        intro hc
        have h3 : t = 31 := by omega
        have h4 := hyx.out
        rw [h3] at h4
        omega
      have hnx : Hid (y * 2 = x * 2 ^ (t + 1)) := by show _ = _; rw [hyx.out, Nat.pow_succ, Nat.mul_assoc]
      clear hyx
      go_wp2
      go_round
      case rel => exact ⟨t + 1, y * 2, ht2, by omega, by omega, by go_num, rfl, hnx⟩
      case measure => simp [intOf]; omega
    · have hlt' : ¬ ((y : Int) < 2147483648) := by omega
      have hb : Hid (bitLen x = 32 - t) := by
        have h1 := hyx.out
        have h2 : 0 < 2 ^ t := Nat.pow_pos (by decide)
        have h3 : 2 ^ (32 - t - 1) * 2 ^ t = 2 ^ 31 := by rw [← Nat.pow_add]; congr 1; omega
        have h4 : 2 ^ (32 - t) * 2 ^ t = 2 ^ 32 := by rw [← Nat.pow_add]; congr 1; omega
        refine bitLen_eq ?_ ?_ (by omega)
        · apply Nat.le_of_mul_le_mul_right _ h2; rw [h3]; omega
        · apply Nat.lt_of_mul_lt_mul_right (a := 2 ^ t); rw [h4]; omega
      clear hyx
      go_wp2
      go_ret
      refine ⟨ret_int ?_, rfl⟩
      have h5 := h.out
      have h6 := hb.out
      omega
set_option maxRecDepth 100000 in
set_option maxHeartbeats 1000000 in
theorem nsize_c (B n : Nat) (v : Value) (w : World) (hr : Nm w B v n) (hk : Wd.nw W32 n ≤ 1000000) :
    Calls Try.prog 51 #[v] w fun e w' => e = .returned (.int .i64 (bitLen n : Nat)) ∧ w = w' := by
  by_cases h0 : n = 0
  · subst h0
    obtain ⟨ao, cap, rfl⟩ := Row.slice hr
    have hz : Wd.nw W32 0 = 0 := Wd.nw_zero _
    go_enter Try.func51, Try.ntmps51
    go_wp2
    go_ret
    exact ⟨ret_int (by decide), rfl⟩
  · have h2 := Wd.nw_pos W32_2 (show 0 < n by omega)
    have h3 := bitLen_top32 (show 0 < n by omega)
    have h4 := Wd.top_ne W32_2 (show 0 < n by omega)
    unfold Nm at hr
    generalize Wd.nw W32 n = k1 at *
    obtain ⟨k, rfl⟩ : ∃ k, k1 = k + 1 := ⟨k1 - 1, by omega⟩
    rcases Row.cases hr with ⟨rfl, h1⟩ | ⟨g, cap, rfl, _⟩
    · omega
    · exact nsize_n B n g cap k w (k + 1) (by omega) hr (by omega) h3 h4
end Go.Proofs.Ytmfnjmgdindlaaa
