/-
  timbrenat: Compare, Size, digit.
-/
import Derived.Test.YtoojjefndkdnpaaGreatDoorNa2
import Derived.Test.YtoojjefndkdnpaaGreatDoorMnp
import Derived.Shelf.Spec.TrailingZeros
namespace Go.Proofs.YtoojjefndkdnpaaGreatDoor
open Flo Go.RowKit
/-- -1, 0 or 1 -/
def sgnOf (m n : Nat) : Int := if m < n then -1 else if n < m then 1 else 0
set_option maxRecDepth 100000 in
set_option maxHeartbeats 1000000 in
theorem ncmp_ne (ao bo : Option Addr) (k l c d : Nat) (w : World) (h : ((k : Int) != (l : Int)) = true) :
    Calls Tryz.prog 105 #[.slice ao k c, .slice bo l d] w fun e w' => e = .returned (.int .i64 (if k < l then -1 else 1)) ∧ w = w' := by
  by_cases hl : k < l
  · have hl' : (k : Int) < (l : Int) := by omega
    rw [if_pos hl]
    go_enter Tryz.func105, Tryz.ntmps105
    go_wp2
    go_ret
    exact ⟨rfl, rfl⟩
  · have hl' : ¬ ((k : Int) < (l : Int)) := by omega
    rw [if_neg hl]
    go_enter Tryz.func105, Tryz.ntmps105
    go_wp2
    go_ret
    exact ⟨rfl, rfl⟩
set_option maxRecDepth 100000 in
set_option maxHeartbeats 1000000 in
theorem ncmp_n (ao bo : Option Addr) (k c d m n : Nat) (w : World) (hk : k ≤ 1000000) (hm : Hid (m < W32 ^ k)) (hn : Hid (n < W32 ^ k))
    (h1 : Hid (0 < k → ∃ g, ao = some ⟨g, 0, none⟩ ∧ ∀ i, i < k → w.cell? ⟨g, i, none⟩ = some (.int .u32 (Wd.wd W32 m i : Nat))))
    (h2 : Hid (0 < k → ∃ g, bo = some ⟨g, 0, none⟩ ∧ ∀ i, i < k → w.cell? ⟨g, i, none⟩ = some (.int .u32 (Wd.wd W32 n i : Nat)))) :
    Calls Tryz.prog 105 #[.slice ao k c, .slice bo k d] w fun e w' => e = .returned (.int .i64 (sgnOf m n)) ∧ ∃ q, w' = w.drewN q := by
  go_enter Tryz.func105, Tryz.ntmps105
  go_wp2
  go_loopw [5] (fun si wr => ∃ (i q : Nat), i ≤ k ∧ si = .int .i64 ((i : Int) - 1) ∧ wr = w.drewN q ∧ Hid (m / W32 ^ i = n / W32 ^ i)) (fun si _ => (intOf si + 1).toNat)
  case atStart => exact ⟨k, 0, Nat.le_refl _, rfl, rfl, by show m / W32 ^ k = n / W32 ^ k; rw [Nat.div_eq_of_lt hm.out, Nat.div_eq_of_lt hn.out]⟩
  case round =>
    obtain ⟨i, q, hi, rfl, rfl, hd⟩ := hrel
    by_cases h0 : i = 0
    · subst h0
      have hmn : Hid (m = n) := by have h := hd.out; rw [Nat.pow_zero, Nat.div_one, Nat.div_one] at h; exact h
      go_wp2
      go_ret
      refine ⟨ret_int ?_, _, rfl⟩
      rw [hmn.out]; unfold sgnOf; simp
    · obtain ⟨j, rfl⟩ : ∃ j, i = j + 1 := ⟨i - 1, by omega⟩
      obtain ⟨g1, rfl, hc1⟩ := h1.out (by omega)
      obtain ⟨g2, rfl, hc2⟩ := h2.out (by omega)
      have e1 := hc1 j (by omega)
      have e2 := hc2 j (by omega)
      clear hc1 hc2 h1 h2
      have hj : (j : Int) < (k : Int) := by omega
      have hj0 : (((j + 1 : Nat) : Int) - 1) = (j : Int) := by omega
      have hxl := wd32 m j
      have hyl := wd32 n j
      have hlt : Hid (Wd.wd W32 m j < Wd.wd W32 n j → m < n) := fun h => Wd.cmp_lt hd.out h
      have hgt : Hid (Wd.wd W32 n j < Wd.wd W32 m j → n < m) := fun h => Wd.cmp_lt hd.out.symm h
      have heq : Hid (Wd.wd W32 m j = Wd.wd W32 n j → m / W32 ^ j = n / W32 ^ j) := fun h => Wd.cmp_eq hd.out h
      generalize Wd.wd W32 m j = x at e1 hxl hlt hgt heq
      generalize Wd.wd W32 n j = y at e2 hyl hlt hgt heq
      rw [hj0]
      clear hd hj0
      rcases Nat.lt_trichotomy x y with hxy | hxy | hxy
      · have hxy' : (x : Int) < (y : Int) := by omega
        have hmn : Hid (m < n) := hlt.out hxy
        clear hlt hgt heq
        go_wp2_with fail
        go_quiet (fail)
        go_wp2
        go_ret
        refine ⟨ret_int ?_, _, by first | rw [World.drewN_drewN] | rfl⟩
        unfold sgnOf; rw [if_pos hmn.out]
      · subst hxy
        have hnew : Hid (m / W32 ^ j = n / W32 ^ j) := heq.out rfl
        clear hlt hgt heq
        go_wp2_with fail
        go_quiet (fail)
        go_wp2_with fail
        go_quiet (fail)
        go_wp2
        go_roundw
        case rel => exact ⟨j, _, by omega, by go_num, rfl, hnew⟩
        case measure => simp [intOf]
      · have hxy' : ¬ ((x : Int) < (y : Int)) := by omega
        have hxy2 : (y : Int) < (x : Int) := by omega
        have hmn : Hid (n < m) := hgt.out hxy
        clear hlt hgt heq
        go_wp2_with fail
        go_quiet (fail)
        go_wp2_with fail
        go_quiet (fail)
        go_wp2
        go_ret
        refine ⟨ret_int ?_, _, by first | rw [World.drewN_drewN, World.drewN_drewN] | rw [World.drewN_drewN]⟩
        have h9 := hmn.out
        unfold sgnOf; rw [if_neg (by omega), if_pos h9]
theorem ncmp_c (B C m n : Nat) (u v : Value) (w : World) (hu : Nm w B u m) (hv : Nm w C v n) (hk : Wd.nw W32 m ≤ 1000000) :
    Calls Tryz.prog 105 #[u, v] w fun e w' => e = .returned (.int .i64 (sgnOf m n)) ∧ ∃ q, w' = w.drewN q := by
  obtain ⟨ao, c, rfl⟩ := Row.slice hu
  obtain ⟨bo, d, rfl⟩ := Row.slice hv
  by_cases hl : Wd.nw W32 m = Wd.nw W32 n
  · have h1 := Wd.lt_pow_nw W32_2 m
    have h2 := Wd.lt_pow_nw W32_2 n
    unfold Nm at hu hv
    rw [← hl] at hv h2 ⊢
    exact ncmp_n ao bo _ c d m n w hk h1 h2 (Row.rd hu) (Row.rd hv)
  · refine (ncmp_ne ao bo _ _ c d w ?_).mono ?_
    · simp [bne]; omega
    · rintro e w' ⟨rfl, rfl⟩
      refine ⟨?_, 0, rfl⟩
      unfold sgnOf
      by_cases h : Wd.nw W32 m < Wd.nw W32 n
      · have hmn : m < n := by
          apply Nat.lt_of_not_le
          intro h'
          have := Wd.nw_mono W32_2 h'
          omega
        rw [if_pos h, if_pos hmn]
      · have hnm : n < m := by
          apply Nat.lt_of_not_le
          intro h'
          have := Wd.nw_mono W32_2 h'
          omega
        rw [if_neg h, if_neg (by omega), if_pos hnm]
theorem W32_pow (j : Nat) : W32 ^ j = 2 ^ (32 * j) := by rw [Nat.pow_mul]; rfl
theorem dig_word (n j s : Nat) (hs : s < 32) : Wd.wd W32 n j / 2 ^ s % 2 = n / 2 ^ (32 * j + s) % 2 := by
  unfold Wd.wd
  have e : W32 = 2 ^ s * 2 ^ (32 - s) := by rw [← Nat.pow_add, show s + (32 - s) = 32 by omega]; rfl
  conv => lhs; rw [W32_pow, e]
  rw [Nat.mod_mul_right_div_self, Nat.mod_mod_of_dvd _ (by exact ⟨2 ^ (31 - s), by rw [← Nat.pow_succ', show (31 - s).succ = 32 - s by omega]⟩), Nat.div_div_eq_div_mul, ← Nat.pow_add]
theorem and1_32 (x s : Nat) (hx : x < 4294967296) : bits .and .u32 ((x : Int) / 2 ^ s) 1 = ((x / 2 ^ s % 2 : Nat) : Int) := by
  have e : (x : Int) / 2 ^ s = ((x / 2 ^ s : Nat) : Int) := by simp
  rw [e, show (1 : Int) = ((1 : Nat) : Int) from rfl, bits_and_u32_nat _ _ (Nat.lt_of_le_of_lt (Nat.div_le_self _ _) hx) (by decide)]
  exact congrArg _ (Nat.and_two_pow_sub_one_eq_mod _ 1)
set_option maxRecDepth 100000 in
set_option maxHeartbeats 1000000 in
theorem ndigit_n (B n g cap k i j s : Nat) (w : World) (hr : Hid (Row 81 .u32 w B (.slice (some ⟨g, 0, none⟩) k cap) k (Wd.wd W32 n))) (hi : i ≤ 100000000) (hj : Hid (j = i / 32)) (hs : s = i % 32) (hjk : j < k) (hk : k ≤ 1000000) :
    Calls Tryz.prog 104 #[.slice (some ⟨g, 0, none⟩) k cap, .int .i64 i] w fun e w' => e = .returned (.int .u32 ((n / 2 ^ i % 2 : Nat) : Int)) ∧ w = w' := by
  have hc := hr.out.cell j hjk
  have hx := wd32 n j
  have hres : Hid (Wd.wd W32 n j / 2 ^ s % 2 = n / 2 ^ i % 2) := by
    show _ = _
    rw [dig_word n j s (by omega), show 32 * j + s = i by have := hj.out; omega]
  generalize Wd.wd W32 n j = x at hc hx hres
  have hand : Hid (bits .and .u32 ((x : Int) / 2 ^ s) 1 = ((x / 2 ^ s % 2 : Nat) : Int)) := and1_32 x s hx
  have e1 : wrap64 ((i : Int) / 32) = (j : Int) := by unfold wrap64; have := hj.out; omega
  have e2 : wrap64 ((i : Int) % 32) = (s : Int) := by unfold wrap64; omega
  have e3 : (i : Int) % 32 = (s : Int) := by omega
  have e4 : (i : Int) / 32 = (j : Int) := by have := hj.out; omega
  have hjk' : (j : Int) < (k : Int) := by omega
  have hs32 : s < 32 := by omega
  clear hs
  go_enter Tryz.func104, Tryz.ntmps104
  go_wp2
  go_ret
  exact ⟨by rw [hand.out, hres.out]; rfl, rfl⟩
theorem nw_pos' {n : Nat} (h : 0 < n) : 0 < Wd.nw W32 n := by rw [Wd.nw_pos W32_2 h]; omega
theorem bit_nw32 {n : Nat} : bitLen n ≤ 32 * Wd.nw W32 n := by
  apply bitLen_lt
  rw [← W32_pow]
  exact Wd.lt_pow_nw W32_2 n
theorem nw_bit32 {n k : Nat} (h : n < 2 ^ (32 * k)) : Wd.nw W32 n ≤ k := Wd.nw_le W32_2 (by rw [W32_pow]; exact h)
theorem ndigit_c (B n i : Nat) (v : Value) (w : World) (hr : Nm w B v n) (hk : Wd.nw W32 n ≤ 1000000) (hi : i < bitLen n) :
    Calls Tryz.prog 104 #[v, .int .i64 i] w fun e w' => e = .returned (.int .u32 ((n / 2 ^ i % 2 : Nat) : Int)) ∧ w = w' := by
  have h1 := bit_nw32 (n := n)
  rcases Row.cases hr with ⟨rfl, h0⟩ | ⟨g, cap, rfl, _⟩
  · omega
  · exact ndigit_n B n g cap _ i (i / 32) (i % 32) w hr (by omega) rfl rfl (by omega) hk
theorem bitLen_eq {x L : Nat} (h1 : 2 ^ (L - 1) ≤ x) (h2 : x < 2 ^ L) (h0 : 0 < L) : bitLen x = L := by
  have hx : 0 < x := Nat.lt_of_lt_of_le (Nat.pow_pos (by decide)) h1
  have a1 := bitLen_lo hx
  have a2 := bitLen_hi x
  have a3 := bitLen_pos hx
  have b1 : L - 1 < bitLen x := (Nat.pow_lt_pow_iff_right (by decide : 1 < 2)).1 (Nat.lt_of_le_of_lt h1 a2)
  have b2 : bitLen x - 1 < L := (Nat.pow_lt_pow_iff_right (by decide : 1 < 2)).1 (Nat.lt_of_le_of_lt a1 h2)
  omega
theorem bitLen_top32 {n : Nat} (h : 0 < n) : bitLen n = 32 * (Wd.nw W32 n - 1) + bitLen (Wd.wd W32 n (Wd.nw W32 n - 1)) := by
  have h1 := Wd.pow_le_of_nw W32_2 h
  have h2 := Wd.lt_pow_nw W32_2 n
  have h3 := Wd.nw_pos W32_2 h
  have e : Wd.wd W32 n (Wd.nw W32 n - 1) = n / 2 ^ (32 * (Wd.nw W32 n - 1)) := by
    unfold Wd.wd
    rw [Nat.mod_eq_of_lt, W32_pow]
    rw [Nat.div_lt_iff_lt_mul (Nat.pow_pos W32_0), ← Nat.pow_succ', show (Wd.nw W32 n - 1).succ = Wd.nw W32 n by omega]
    exact h2
  rw [e]
  apply bitLen_shift
  intro h4
  rw [← W32_pow] at h4
  rcases Nat.div_eq_zero_iff.1 h4 with h5 | h5
  · have := Nat.pow_pos (n := Wd.nw W32 n - 1) W32_0; omega
  · omega
set_option maxRecDepth 100000 in
set_option maxHeartbeats 1000000 in
theorem nsize_n (B n g cap k : Nat) (w : World) (K : Nat) (hK : (K : Int) - 1 = (k : Int)) (hr : Hid (Row 81 .u32 w B (.slice (some ⟨g, 0, none⟩) K cap) K (Wd.wd W32 n))) (hk : k ≤ 1000000) (h : Hid (bitLen n = 32 * k + bitLen (Wd.wd W32 n k))) (h0 : Wd.wd W32 n k ≠ 0) :
    Calls Tryz.prog 79 #[.slice (some ⟨g, 0, none⟩) K cap] w fun e w' => e = .returned (.int .i64 (bitLen n : Nat)) ∧ w = w' := by
  have hc := hr.out.cell k (by omega)
  have hx := wd32 n k
  generalize Wd.wd W32 n k = x at hc hx h h0
  generalize bitLen n = r at h
  have hKk : (k : Int) < (K : Int) := by omega
  have e1 : wrap64 (32 * (K : Int)) = 32 * (K : Int) := by unfold wrap64; omega
  have e2 : (32 * (K : Int) == 0) = false := beq_eq_false_iff_ne.2 (by omega)
  go_enter Tryz.func79, Tryz.ntmps79
  go_wp2
  go_loop [3, 4] (fun sn sw => ∃ t y : Nat, t ≤ 31 ∧ y < 4294967296 ∧ 0 < y ∧ sn = .int .i64 (32 * (K : Int) - (t : Int)) ∧ sw = .int .u32 y ∧ Hid (y = x * 2 ^ t)) (fun _ sw => 4294967296 - (intOf sw).toNat)
  case atStart => exact ⟨0, x, by omega, hx, by omega, by go_num, rfl, by show x = x * 2 ^ 0; omega⟩
  case round =>
    obtain ⟨t, y, ht, hy, hy0, rfl, rfl, hyx⟩ := hrel
    clear hr hc
    by_cases hlt : y < 2147483648
    · have hlt' : (y : Int) < 2147483648 := by omega
      have e3 : IntKind.u32.wrap ((y : Int) * 2) = ((y * 2 : Nat) : Int) := by simp only [IntKind.wrap_u32]; omega
      have ht2 : t + 1 ≤ 31 := by
        apply Nat.le_of_not_lt
        intro hc
        have h3 : t = 31 := by omega
        have h4 := hyx.out
        rw [h3] at h4
        omega
      have hnx : Hid (y * 2 = x * 2 ^ (t + 1)) := by show _ = _; rw [hyx.out, Nat.pow_succ, Nat.mul_assoc]
      clear hyx
      go_wp2
      go_round
      case rel => exact ⟨t + 1, y * 2, ht2, by omega, by omega, by go_num, rfl, hnx⟩
      case measure => simp [intOf]; omega
    · have hlt' : ¬ ((y : Int) < 2147483648) := by omega
      have hb : Hid (bitLen x = 32 - t) := by
        have h1 := hyx.out
        have h2 : 0 < 2 ^ t := Nat.pow_pos (by decide)
        have h3 : 2 ^ (32 - t - 1) * 2 ^ t = 2 ^ 31 := by rw [← Nat.pow_add]; congr 1; omega
        have h4 : 2 ^ (32 - t) * 2 ^ t = 2 ^ 32 := by rw [← Nat.pow_add]; congr 1; omega
        refine bitLen_eq ?_ ?_ (by omega)
        · apply Nat.le_of_mul_le_mul_right _ h2; rw [h3]; omega
        · apply Nat.lt_of_mul_lt_mul_right (a := 2 ^ t); rw [h4]; omega
      clear hyx
      go_wp2
      go_ret
      refine ⟨ret_int ?_, rfl⟩
      have h5 := h.out
      have h6 := hb.out
      omega
set_option maxRecDepth 100000 in
set_option maxHeartbeats 1000000 in
theorem nsize_c (B n : Nat) (v : Value) (w : World) (hr : Nm w B v n) (hk : Wd.nw W32 n ≤ 1000000) :
    Calls Tryz.prog 79 #[v] w fun e w' => e = .returned (.int .i64 (bitLen n : Nat)) ∧ w = w' := by
  by_cases h0 : n = 0
  · subst h0
    obtain ⟨ao, cap, rfl⟩ := Row.slice hr
    have hz : Wd.nw W32 0 = 0 := Wd.nw_zero _
    go_enter Tryz.func79, Tryz.ntmps79
    go_wp2
    go_ret
    exact ⟨ret_int (by decide), rfl⟩
  · have h2 := Wd.nw_pos W32_2 (show 0 < n by omega)
    have h3 := bitLen_top32 (show 0 < n by omega)
    have h4 := Wd.top_ne W32_2 (show 0 < n by omega)
    unfold Nm at hr
    generalize Wd.nw W32 n = k1 at *
    obtain ⟨k, rfl⟩ : ∃ k, k1 = k + 1 := ⟨k1 - 1, by omega⟩
    rcases Row.cases hr with ⟨rfl, h1⟩ | ⟨g, cap, rfl, _⟩
    · omega
    · exact nsize_n B n g cap k w (k + 1) (by omega) hr (by omega) h3 h4
end Go.Proofs.YtoojjefndkdnpaaGreatDoor
/-
  timbrenat: Sub.
-/
namespace Go.Proofs.YtoojjefndkdnpaaGreatDoor
open Flo Go.RowKit
theorem sub_step {m n i : Nat} (hnm : n ≤ m) : ∃ d c1, Wd.wd W32 (m - n) i = d ∧ Wd.br W32 m n (i + 1) = c1 ∧ d < 4294967296 ∧ c1 ≤ 1 ∧ d + Wd.wd W32 n i + Wd.br W32 m n i = Wd.wd W32 m i + 4294967296 * c1 :=
  ⟨_, _, rfl, rfl, wd32 _ _, Wd.br_le _ _ _ _, Wd.br_key W32_0 m n i hnm⟩
set_option maxRecDepth 100000 in
set_option maxHeartbeats 1000000 in
theorem nsub_n (B C k l m n : Nat) (ao bo : Option Addr) (cap cbp : Nat) (w : World) (hr : Hid (Row 81 .u32 w B (.slice ao k cap) k (Wd.wd W32 m))) (hr2 : Hid (Row 81 .u32 w C (.slice bo l cbp) l (Wd.wd W32 n))) (hk : k ≤ 100000) (hm : Hid (m < W32 ^ k)) (hn : Hid (n < W32 ^ l)) (hlk : l ≤ 100000) (hnm : Hid (n ≤ m)) :
    Calls Tryz.prog 106 #[.slice ao k cap, .slice bo l cbp] w fun e w' => ∃ v', e = .returned v' ∧ Nm w' w.heap.size v' (m - n) ∧ Below w.heap.size w w' := by
  obtain ⟨w1, hmk, hmr, hmb⟩ := make32 w 0 k (by omega) (by omega)
  have hrow0 : Hid (Row 81 .u32 w1 w.heap.size (.slice (some ⟨w.heap.size, 0, none⟩) 0 k) 0 (Wd.wd W32 (m - n))) := hmr.out.congr (fun j hj => by omega)
  have hmk' : (Instr.makeSlice 66 (.int .i64 0) (.int .i64 (k : Int))).run Tryz.prog w = .ok (.slice (some ⟨w.heap.size, 0, none⟩) 0 k) w1 := hmk
  clear hmr hmk
  go_enter Tryz.func106, Tryz.ntmps106
  go_wp2
  clear hmk'
  go_loopw [5, 6, 15] (fun so sc si wr => ∃ i : Nat, i ≤ k ∧ si = .int .i64 i ∧ sc = .int .u64 (Wd.br W32 m n i : Nat) ∧ Hid (Row 81 .u32 wr w.heap.size so i (Wd.wd W32 (m - n))) ∧ Hid (Below w.heap.size w wr)) (fun _ _ si _ => k - (intOf si).toNat)
  case atStart => exact ⟨0, Nat.zero_le _, rfl, by rw [Wd.br_zero]; rfl, hrow0, hmb⟩
  case round =>
    clear hrow0 hmb
    obtain ⟨i, hi, rfl, rfl, hrow, hb⟩ := hrel
    have hsz := hb.out.size
    by_cases hlt : i < k
    · have hlt' : (i : Int) < (k : Int) := by omega
      obtain ⟨g, rfl, hcells⟩ := Row.rd hr.out (by omega)
      have hcell := (hr.out.under hb.out).cell i hlt
      obtain ⟨d, c1, hd, hc1', hd32, hc1l, hkey⟩ := sub_step (i := i) hnm.out
      have hx := wd32 m i
      have hy := wd32 n i
      have hbr := Wd.br_le W32 m n i
      have hdw : Hid (Wd.wd W32 (m - n) i = d) := hd
      have hc1 : Hid (Wd.br W32 m n (i + 1) = c1) := hc1'
      have hynil : Hid (l ≤ i → Wd.wd W32 n i = 0) := fun h => Wd.wd_big' W32_0 hn.out h
      have hycell : Hid (i < l → ∃ g2, bo = some ⟨g2, 0, none⟩ ∧ wr.cell? ⟨g2, i, none⟩ = some (.int .u32 (Wd.wd W32 n i : Nat))) := fun h => by
        obtain ⟨g2, rfl, _⟩ := Row.rd hr2.out (by omega)
        exact ⟨g2, rfl, (hr2.out.under hb.out).cell i h⟩
      generalize Wd.wd W32 m i = x at hcell hx hkey
      generalize Wd.wd W32 n i = y at hy hkey hynil hycell
      generalize Wd.br W32 m n i = cc at hbr hkey ⊢
      clear hcells hd hc1'
      obtain ⟨p, hp⟩ : ∃ p : Nat, IntKind.u64.wrap ((x : Int) - (cc : Int)) = (p : Int) := ⟨((x : Int) - (cc : Int)).toNat + (if x < cc then 18446744073709551615 else 0), by simp only [IntKind.wrap_u64]; split <;> omega⟩
      have hpv : Hid ((p : Int) = ((x : Int) - (cc : Int)) % 18446744073709551616) := by have h := hp; simp only [IntKind.wrap_u64] at h; exact h.symm
      by_cases hil : i < l
      · have hil' : (i : Int) < (l : Int) := by omega
        obtain ⟨g2, rfl, hyc⟩ := hycell.out hil
        obtain ⟨q, hq⟩ : ∃ q : Nat, q = d + 18446744069414584320 * c1 := ⟨_, rfl⟩
        have e2 : IntKind.u64.wrap ((p : Int) - (y : Int)) = (q : Int) := by have := hpv.out; simp only [IntKind.wrap_u64]; omega
        have e3 : IntKind.u32.wrap (q : Int) = (d : Int) := by simp only [IntKind.wrap_u32]; omega
        have e4 : Hid (q / 9223372036854775808 = c1) := (by omega : q / 9223372036854775808 = c1)
        have e1 := hp
        have hql : q < 18446744073709551616 := by omega
        clear hpv hp hq hkey hynil hycell
        go_wp2_with (at_builtin; refine app32 _ rfl _ _ rfl w.heap.size i d wr.heap.size (Wd.wd W32 (m - n)) _ rfl rfl (hrow.out.allocs _) (by simp) hdw.out (by omega) (by simp; omega) ?_)
        intro v' w2 hr3 hb2
        have hr3H : Hid (Row 81 .u32 w2 w.heap.size v' (i + 1) (Wd.wd W32 (m - n))) := hr3
        have hb2H : Hid (Below w.heap.size w w2) := (hb.out.alloc hsz _).trans hb2
        clear hr3 hb2 hb hrow e1 e3 hdw
        go_wp2
        go_roundw
        case rel => exact ⟨i + 1, by omega, by go_num, by rw [hc1.out, ← e4.out]; go_num, hr3H, hb2H⟩
        case measure => simp [intOf]; omega
      · have hil' : ¬ ((i : Int) < (l : Int)) := by omega
        have hy0 := hynil.out (by omega)
        have e3 : IntKind.u32.wrap (p : Int) = (d : Int) := by have := hpv.out; simp only [IntKind.wrap_u32]; omega
        have e4 : Hid (p / 9223372036854775808 = c1) := by have := hpv.out; show _ = _; omega
        have e1 := hp
        have hql : p < 18446744073709551616 := by have := hpv.out; omega
        clear hpv hp hkey hynil hycell
        go_wp2_with (at_builtin; refine app32 _ rfl _ _ rfl w.heap.size i d wr.heap.size (Wd.wd W32 (m - n)) _ rfl rfl (hrow.out.allocs _) (by simp) hdw.out (by omega) (by simp; omega) ?_)
        intro v' w2 hr3 hb2
        have hr3H : Hid (Row 81 .u32 w2 w.heap.size v' (i + 1) (Wd.wd W32 (m - n))) := hr3
        have hb2H : Hid (Below w.heap.size w w2) := (hb.out.alloc hsz _).trans hb2
        clear hr3 hb2 hb hrow e1 e3 hdw
        go_wp2
        go_roundw
        case rel => exact ⟨i + 1, by omega, by go_num, by rw [hc1.out, ← e4.out]; go_num, hr3H, hb2H⟩
        case measure => simp [intOf]; omega
    · have hlt' : decide ((i : Int) < (k : Int)) = false := decide_eq_false (by omega)
      have hik : i = k := by omega
      subst hik
      have hlt2 : Hid (m - n < W32 ^ i) := Nat.lt_of_le_of_lt (Nat.sub_le _ _) hm.out
      clear hn hr hr2 hm hnm
      have hi2 : i ≤ 1000000 := by omega
      have hrH := hrow
      go_wp2_with fail
      refine (ntrim_c w.heap.size i (m - n) u5 wr hrH.out hlt2.out hi2).mono ?_
      rintro e w' ⟨v3, rfl, hv3, rfl⟩
      have hv3H : Hid (Nm wr w.heap.size v3 (m - n)) := hv3
      clear hv3
      go_wp2
      go_ret
      exact ⟨_, rfl, hv3H.out, hb.out⟩
theorem nsub_c (B C m n : Nat) (u v : Value) (w : World) (hu : Nm w B u m) (hv : Nm w C v n) (hk : Wd.nw W32 m ≤ 100000) (hnm : n ≤ m) :
    Calls Tryz.prog 106 #[u, v] w fun e w' => ∃ v', e = .returned v' ∧ Nm w' w.heap.size v' (m - n) ∧ Below w.heap.size w w' := by
  obtain ⟨ao, c, rfl⟩ := Row.slice hu
  obtain ⟨bo, d, rfl⟩ := Row.slice hv
  have h2 := Wd.nw_mono W32_2 hnm
  exact nsub_n B C _ _ m n ao bo c d w hu hv hk (Wd.lt_pow_nw W32_2 m) (Wd.lt_pow_nw W32_2 n) (by omega) hnm
end Go.Proofs.YtoojjefndkdnpaaGreatDoor
/-
  timbrenat: Shift.
-/
namespace Go.Proofs.YtoojjefndkdnpaaGreatDoor
open Flo Go.RowKit
theorem cm_sh_lt (n rs i : Nat) : Wd.cm W32 n (2 ^ rs) 0 i < 2 ^ rs := by
  unfold Wd.cm
  rw [Nat.add_zero, Nat.div_lt_iff_lt_mul (Nat.pow_pos W32_0), Nat.mul_comm]
  exact Nat.mul_lt_mul_of_pos_left (Nat.mod_lt _ (Nat.pow_pos W32_0)) (Nat.pow_pos (by decide))
theorem or_hi (cc x rs : Nat) (hc : cc < 2 ^ rs) (hs : x * 2 ^ rs + cc < 18446744073709551616) : bits .or .u64 (cc : Int) ((x * 2 ^ rs : Nat) : Int) = ((x * 2 ^ rs + cc : Nat) : Int) := by
  have h := bits_or_u64_nat cc (x * 2 ^ rs) (by omega) (by omega)
  rw [h, Nat.or_comm, Nat.mul_comm x, ← Nat.two_pow_add_eq_or_of_lt hc]
theorem sh_split (n t ws rs : Nat) (h : t = 32 * ws + rs) : n * 2 ^ t = n * 2 ^ rs * W32 ^ ws := by
  rw [h, W32_pow, Nat.pow_add, Nat.mul_comm (2 ^ (32 * ws)), Nat.mul_assoc]
theorem sh_lt {n k t ws rs : Nat} (h : t = 32 * ws + rs) (hn : n < W32 ^ k) (hrs : rs < 32) : n * 2 ^ t < W32 ^ (ws + k + 1) := by
  have h1 : 2 ^ (32 * ws + rs) < 2 ^ (32 * (ws + 1)) := Nat.pow_lt_pow_right (by decide) (by omega)
  rw [← W32_pow] at h1
  have e : W32 ^ (ws + k + 1) = W32 ^ k * W32 ^ (ws + 1) := by rw [← Nat.pow_add]; congr 1; omega
  rw [e, h]
  exact Nat.mul_lt_mul'' hn h1
set_option maxRecDepth 100000 in
set_option maxHeartbeats 1000000 in
theorem nshift_n (B k n t ws rs K : Nat) (g cap : Nat) (w : World) (hr : Hid (Row 81 .u32 w B (.slice (some ⟨g, 0, none⟩) k cap) k (Wd.wd W32 n))) (hk : k ≤ 100000) (hk0 : 0 < k) (hn : Hid (n < W32 ^ k)) (ht : t ≤ 1000000) (hws : (t : Int) / 32 = (ws : Int)) (hrs : (t : Int) % 32 = (rs : Int)) (hK : (ws : Int) + (k : Int) + 1 = (K : Int)) :
    Calls Tryz.prog 66 #[.slice (some ⟨g, 0, none⟩) k cap, .int .i64 t] w fun e w' => ∃ v', e = .returned v' ∧ Nm w' w.heap.size v' (n * 2 ^ t) ∧ Below w.heap.size w w' := by
  obtain ⟨w1, hmk, hmr, hmb⟩ := make32 w ws K (by omega) (by omega)
  have hk0' : ((k : Int) == 0) = false := beq_eq_false_iff_ne.2 (by omega)
  go_enter Tryz.func66, Tryz.ntmps66
  go_wp2
  clear hmk
  have htI : Hid (t = 32 * ws + rs) := (by omega : t = 32 * ws + rs)
  have hrs32 : rs < 32 := by omega
  have hwsl : ws ≤ 40000 := by omega
  have hrow0 : Hid (Row 81 .u32 w1 w.heap.size (.slice (some ⟨w.heap.size, 0, none⟩) ws K) ws (Wd.wd W32 (n * 2 ^ t))) := hmr.out.congr (fun j hj => by rw [sh_split n t ws rs htI.out, Wd.wd_shift_low W32_0 _ _ _ hj])
  clear hmr hK hws
  go_loopw [5, 6, 23] (fun so sc si wr => ∃ i : Nat, i ≤ k ∧ si = .int .i64 i ∧ sc = .int .u64 (Wd.cm W32 n (2 ^ rs) 0 i : Nat) ∧ Hid (Row 81 .u32 wr w.heap.size so (ws + i) (Wd.wd W32 (n * 2 ^ t))) ∧ Hid (Below w.heap.size w wr)) (fun _ _ si _ => k - (intOf si).toNat)
  case atStart => exact ⟨0, Nat.zero_le _, rfl, by rw [Wd.cm_zero]; rfl, hrow0, hmb⟩
  case round =>
    clear hrow0 hmb
    obtain ⟨i, hi, rfl, rfl, hrow, hb⟩ := hrel
    have hcm := cm_sh_lt n rs i
    have hsz := hb.out.size
    have hp32 : 2 ^ rs ≤ 2147483648 := Nat.pow_le_pow_right (n := 2) (by decide) (show rs ≤ 31 by omega)
    by_cases hlt : i < k
    · have hlt' : (i : Int) < (k : Int) := by omega
      have hcell := (hr.out.under hb.out).cell i hlt
      have hx := wd32 n i
      have h1 : Hid (Wd.cm W32 n (2 ^ rs) 0 (i + 1) = (Wd.wd W32 n i * 2 ^ rs + Wd.cm W32 n (2 ^ rs) 0 i) / W32) := Wd.cm_succ W32_0 n (2 ^ rs) 0 i
      have h2 : Hid (Wd.wd W32 (n * 2 ^ t) (ws + i) = (Wd.wd W32 n i * 2 ^ rs + Wd.cm W32 n (2 ^ rs) 0 i) % W32) := by
        have := Wd.cm_word W32_0 n (2 ^ rs) 0 i
        rw [Nat.add_zero] at this
        show _ = _
        rw [sh_split n t ws rs htI.out, Wd.wd_shift W32_0, this]
      generalize Wd.wd W32 n i = x at hcell hx h1 h2
      generalize Wd.cm W32 n (2 ^ rs) 0 i = cc at hcm h1 h2 ⊢
      have hxm : x * 2 ^ rs ≤ 4294967295 * 2147483648 := Nat.mul_le_mul (show x ≤ 4294967295 by omega) hp32
      have hor := or_hi cc x rs hcm (by omega)
      have e1 : IntKind.u64.wrap ((x : Int) * 2 ^ rs) = ((x * 2 ^ rs : Nat) : Int) := by
        rw [show (x : Int) * 2 ^ rs = ((x * 2 ^ rs : Nat) : Int) by simp]; exact wrapId _ (by omega)
      obtain ⟨S, hS⟩ : ∃ S, S = x * 2 ^ rs + cc := ⟨_, rfl⟩
      rw [← hS] at h1 h2 hor
      have hSl : S < 18446744073709551616 := by omega
      generalize x * 2 ^ rs = y at *
      clear hS hcm hp32 hxm
      have e3 : IntKind.u32.wrap (S : Int) = ((S % 4294967296 : Nat) : Int) := by simp only [IntKind.wrap_u32]; omega
      go_wp2_with (at_builtin; refine app32 _ rfl _ _ rfl w.heap.size (ws + i) (S % 4294967296) wr.heap.size (Wd.wd W32 (n * 2 ^ t)) _ rfl rfl (hrow.out.allocs _) (by simp) h2.out (by omega) (by simp; omega) ?_)
      intro v' w2 hr2 hb2
      have hr2H : Hid (Row 81 .u32 w2 w.heap.size v' (ws + (i + 1)) (Wd.wd W32 (n * 2 ^ t))) := hr2
      have hb2H : Hid (Below w.heap.size w w2) := (hb.out.alloc hsz _).trans hb2
      have h1' : Hid (Wd.cm W32 n (2 ^ rs) 0 (i + 1) = S / 4294967296) := h1.out
      clear hr2 hb2 hb hrow h1 h2 e1 e3 hor
      go_wp2
      go_roundw
      case rel => exact ⟨i + 1, by omega, by go_num, by rw [h1'.out]; go_num, hr2H, hb2H⟩
      case measure => simp [intOf]; omega
    · have hlt' : decide ((i : Int) < (k : Int)) = false := decide_eq_false (by omega)
      have hik : i = k := by omega
      subst hik
      have htop : Hid (Wd.wd W32 (n * 2 ^ t) (ws + i) = Wd.cm W32 n (2 ^ rs) 0 i) := by
        have h1 := Wd.cm_end (f := 2 ^ rs) (c := 0) hn.out
        rw [Nat.add_zero] at h1
        show _ = _
        rw [sh_split n t ws rs htI.out, Wd.wd_shift W32_0, h1]
        show n * 2 ^ rs / W32 ^ i % W32 = _
        rw [← h1]
        exact Nat.mod_eq_of_lt (show _ < 4294967296 by omega)
      have hlt2 : Hid (n * 2 ^ t < W32 ^ (ws + i + 1)) := sh_lt htI.out hn.out hrs32
      clear hn hr
      generalize Wd.cm W32 n (2 ^ rs) 0 i = cc at hcm htop ⊢
      have hc32 : cc < 4294967296 := by omega
      clear hcm hp32
      have e3 : IntKind.u32.wrap (cc : Int) = (cc : Int) := by simp only [IntKind.wrap_u32]; omega
      go_wp2_with (first | (at_builtin; refine app32 _ rfl _ _ rfl w.heap.size (ws + i) cc wr.heap.size (Wd.wd W32 (n * 2 ^ t)) _ rfl rfl (hrow.out.allocs _) (by simp) htop.out (by omega) (by simp; omega) ?_) | fail)
      intro v' w2 hr2 hb2
      have hr2H : Hid (Row 81 .u32 w2 w.heap.size v' (ws + i + 1) (Wd.wd W32 (n * 2 ^ t))) := hr2
      have hb2H : Hid (Below w.heap.size w w2) := (hb.out.alloc hsz _).trans hb2
      clear hr2 hb2 hb hrow e3 htop
      go_wp2_with fail
      refine (ntrim_c w.heap.size (ws + i + 1) (n * 2 ^ t) v' w2 hr2H.out hlt2.out (by omega)).mono ?_
      rintro e w' ⟨v3, rfl, hv3, rfl⟩
      have hv3H : Hid (Nm w2 w.heap.size v3 (n * 2 ^ t)) := hv3
      clear hv3
      go_wp2
      go_ret
      exact ⟨_, rfl, hv3H.out, hb2H.out⟩
set_option maxRecDepth 100000 in
theorem nshift_0 (ao : Option Addr) (cap t : Nat) (w : World) :
    Calls Tryz.prog 66 #[.slice ao 0 cap, .int .i64 t] w fun e w' => e = .returned (.slice none 0 0) ∧ w = w' := by
  go_enter Tryz.func66, Tryz.ntmps66
  go_wp2
  go_ret
  exact ⟨rfl, rfl⟩
theorem nshift_c (B n t : Nat) (v : Value) (w : World) (hr : Nm w B v n) (hk : Wd.nw W32 n ≤ 100000) (ht : t ≤ 1000000) :
    Calls Tryz.prog 66 #[v, .int .i64 t] w fun e w' => ∃ v', e = .returned v' ∧ Nm w' w.heap.size v' (n * 2 ^ t) ∧ Below w.heap.size w w' := by
  by_cases h0 : n = 0
  · subst h0
    obtain ⟨ao, cap, rfl⟩ := Row.slice hr
    rw [Wd.nw_zero]
    refine (nshift_0 ao cap t w).mono ?_
    rintro e w' ⟨rfl, rfl⟩
    refine ⟨_, rfl, ?_, Below.refl _ _⟩
    unfold Nm; rw [Nat.zero_mul, Wd.nw_zero]; exact Row.nil _ _ _ _ _
  · have h2 := nw_pos' (show 0 < n by omega)
    rcases Row.cases hr with ⟨rfl, h1⟩ | ⟨g, cap, rfl, _⟩
    · omega
    · exact nshift_n B _ n t (t / 32) (t % 32) (t / 32 + Wd.nw W32 n + 1) g cap w hr hk h2 (Wd.lt_pow_nw W32_2 n) ht (by omega) (by omega) (by omega)
end Go.Proofs.YtoojjefndkdnpaaGreatDoor
/-
  timbrenat: top.
-/
namespace Go.Proofs.YtoojjefndkdnpaaGreatDoor
open Flo Go.RowKit
theorem top_word (n ws rs j : Nat) (hrs : rs < 32) : Wd.wd W32 (n / 2 ^ (32 * ws + rs)) j = (Wd.wd W32 n (ws + j) + 4294967296 * Wd.wd W32 n (ws + j + 1)) / 2 ^ rs % 4294967296 := by
  have e1 : ∀ M : Nat, M % W32 + 4294967296 * (M / W32 % W32) = M % (W32 * W32) := fun M => (Nat.mod_mul (x := M) (a := W32) (b := W32)).symm
  have e2 : Wd.wd W32 n (ws + j) + 4294967296 * Wd.wd W32 n (ws + j + 1) = n / W32 ^ (ws + j) % (W32 * W32) := by
    rw [← e1]
    unfold Wd.wd
    rw [Wd.div_step]
  rw [e2]
  have e3 : W32 * W32 = 2 ^ rs * (2 ^ (32 - rs) * W32) := by
    rw [← Nat.mul_assoc, ← Nat.pow_add, show rs + (32 - rs) = 32 by omega]; rfl
  rw [e3, Nat.mod_mul_right_div_self]
  show _ = _ % W32
  rw [Nat.mod_mod_of_dvd _ (Nat.dvd_mul_left _ _)]
  unfold Wd.wd
  congr 1
  rw [Nat.div_div_eq_div_mul, Nat.div_div_eq_div_mul, W32_pow, W32_pow, ← Nat.pow_add, ← Nat.pow_add]
  congr 2
  omega
theorem or_sh (x y : Nat) (hx : x < 4294967296) (hy : y < 4294967296) : bits .or .u64 (x : Int) ((y * 4294967296 : Nat) : Int) = ((x + 4294967296 * y : Nat) : Int) := by
  have h := bits_or_u64_nat x (y * 4294967296) (by omega) (by omega)
  rw [h, Nat.or_comm, Nat.mul_comm y, show (4294967296 : Nat) = 2 ^ 32 from rfl, ← Nat.two_pow_add_eq_or_of_lt (show x < 2 ^ 32 by omega), Nat.add_comm]
set_option maxRecDepth 100000 in
set_option maxHeartbeats 1000000 in
theorem ntop_n (B k n t ws rs : Nat) (ao : Option Addr) (cap : Nat) (w : World) (hr : Hid (Row 81 .u32 w B (.slice ao k cap) k (Wd.wd W32 n))) (hk : k ≤ 100000) (hn : Hid (n < W32 ^ k)) (ht : t ≤ 1000000) (hws : (t : Int) / 32 = (ws : Int)) (hrs : (t : Int) % 32 = (rs : Int)) :
    Calls Tryz.prog 102 #[.slice ao k cap, .int .i64 t] w fun e w' => ∃ v', e = .returned v' ∧ Nm w' w.heap.size v' (n / 2 ^ t) ∧ Below w.heap.size w w' := by
  have htI : Hid (t = 32 * ws + rs) := (by omega : t = 32 * ws + rs)
  have hrs32 : rs < 32 := by omega
  have hwsl : ws ≤ 40000 := by omega
  have hmade : Hid (Row 81 .u32 (w.alloc (.cells #[] 81)) w.heap.size (.slice (some ⟨w.heap.size, 0, none⟩) 0 0) 0 (Wd.wd W32 (n / 2 ^ t))) := World.ownsRow_made w #[] 0 (Nat.le_refl _) (by decide) rfl
  go_enter Tryz.func102, Tryz.ntmps102
  go_wp2
  clear hws
  go_loopw [5, 6] (fun so si wr => ∃ j I : Nat, (j = 0 ∨ I ≤ k) ∧ si = .int .i64 I ∧ Hid (I = ws + j) ∧ Hid (Row 81 .u32 wr w.heap.size so j (Wd.wd W32 (n / 2 ^ t))) ∧ Hid (Below w.heap.size w wr)) (fun _ si _ => k - (intOf si).toNat)
  case atStart => exact ⟨0, ws, .inl rfl, rfl, rfl, hmade, (Below.refl _ _).alloc (Nat.le_refl _) _⟩
  case round =>
    clear hmade
    obtain ⟨j, I, hj, rfl, hI, hrow, hb⟩ := hrel
    have hsz := hb.out.size
    by_cases hlt : I < k
    · have hlt' : (I : Int) < (k : Int) := by omega
      have hjl : j ≤ 100000 := by have := hI.out; omega
      obtain ⟨g, rfl, hcells⟩ := Row.rd hr.out (by omega)
      have hcell := (hr.out.under hb.out).cell I hlt
      obtain ⟨J, hJ⟩ : ∃ J, Hid (J = I + 1) := ⟨_, rfl⟩
      have hJI : (I : Int) + 1 = (J : Int) := by have := hJ.out; omega
      have hx := wd32 n I
      have hy := wd32 n J
      have hw0 : Hid (Wd.wd W32 (n / 2 ^ t) j = (Wd.wd W32 n I + 4294967296 * Wd.wd W32 n J) / 2 ^ rs % 4294967296) := by
        show _ = _
        rw [htI.out, top_word n ws rs j hrs32, hJ.out, hI.out]
      have hyc : Hid (J < k → wr.cell? ⟨g, J, none⟩ = some (.int .u32 (Wd.wd W32 n J : Nat))) := fun h => (hr.out.under hb.out).cell J h
      have hy0 : Hid (k ≤ J → Wd.wd W32 n J = 0) := fun h => Wd.wd_big' W32_0 hn.out h
      generalize Wd.wd W32 n I = x at hcell hx hw0
      generalize Wd.wd W32 n J = y at hy hw0 hyc hy0
      clear hcells
      by_cases hJk : J < k
      · have hJk' : (J : Int) < (k : Int) := by omega
        have hcy := hyc.out hJk
        have hor := or_sh x y hx hy
        have e1 : IntKind.u64.wrap ((y : Int) * 4294967296) = ((y * 4294967296 : Nat) : Int) := by rw [show (y : Int) * 4294967296 = ((y * 4294967296 : Nat) : Int) by omega]; exact wrapId _ (by omega)
        obtain ⟨T, hT⟩ : ∃ T, T = x + 4294967296 * y := ⟨_, rfl⟩
        rw [← hT] at hor hw0
        have hTl : T < 18446744073709551616 := by omega
        obtain ⟨S, hS⟩ : ∃ S, S = T / 2 ^ rs := ⟨_, rfl⟩
        have hSl : S < 18446744073709551616 := by rw [hS]; exact Nat.lt_of_le_of_lt (Nat.div_le_self _ _) hTl
        have hSI : (T : Int) / 2 ^ rs = (S : Int) := by rw [hS]; simp
        have hw : Hid (Wd.wd W32 (n / 2 ^ t) j = S % 4294967296) := by rw [hS]; exact hw0.out
        have e3 : IntKind.u32.wrap (S : Int) = ((S % 4294967296 : Nat) : Int) := by simp only [IntKind.wrap_u32]; omega
        generalize y * 4294967296 = yy at hor e1
        clear hyc hy0 hw0 hT hS
        go_wp2_with (at_builtin; refine app32 _ rfl _ _ rfl w.heap.size j (S % 4294967296) wr.heap.size (Wd.wd W32 (n / 2 ^ t)) _ rfl rfl (hrow.out.allocs _) (by simp) hw.out (by omega) (by simp; omega) ?_)
        intro v' w2 hr2 hb2
        have hr2H : Hid (Row 81 .u32 w2 w.heap.size v' (j + 1) (Wd.wd W32 (n / 2 ^ t))) := hr2
        have hb2H : Hid (Below w.heap.size w w2) := (hb.out.alloc hsz _).trans hb2
        clear hr2 hb2 hb hrow hw e3
        go_wp2
        go_roundw
        case rel => exact ⟨j + 1, J, by have := hJ.out; omega, by go_num, by have := hI.out; have := hJ.out; show J = ws + (j + 1); omega, hr2H, hb2H⟩
        case measure => have := hJ.out; simp [intOf]; omega
      · have hJk' : ¬ ((J : Int) < (k : Int)) := by omega
        have hyz := hy0.out (by omega)
        obtain ⟨S, hS⟩ : ∃ S, S = x / 2 ^ rs := ⟨_, rfl⟩
        have hSl : S < 18446744073709551616 := by rw [hS]; exact Nat.lt_of_le_of_lt (Nat.div_le_self _ _) (by omega)
        have hSI : (x : Int) / 2 ^ rs = (S : Int) := by rw [hS]; simp
        have hw : Hid (Wd.wd W32 (n / 2 ^ t) j = S % 4294967296) := by
          have h := hw0.out
          rw [hyz, Nat.mul_zero, Nat.add_zero] at h
          rw [hS]; exact h
        have e3 : IntKind.u32.wrap (S : Int) = ((S % 4294967296 : Nat) : Int) := by simp only [IntKind.wrap_u32]; omega
        clear hyc hy0 hw0 hS
        go_wp2_with (at_builtin; refine app32 _ rfl _ _ rfl w.heap.size j (S % 4294967296) wr.heap.size (Wd.wd W32 (n / 2 ^ t)) _ rfl rfl (hrow.out.allocs _) (by simp) hw.out (by omega) (by simp; omega) ?_)
        intro v' w2 hr2 hb2
        have hr2H : Hid (Row 81 .u32 w2 w.heap.size v' (j + 1) (Wd.wd W32 (n / 2 ^ t))) := hr2
        have hb2H : Hid (Below w.heap.size w w2) := (hb.out.alloc hsz _).trans hb2
        clear hr2 hb2 hb hrow hw e3
        go_wp2
        go_roundw
        case rel => exact ⟨j + 1, J, by have := hJ.out; omega, by go_num, by have := hI.out; have := hJ.out; show J = ws + (j + 1); omega, hr2H, hb2H⟩
        case measure => have := hJ.out; simp [intOf]; omega
    · have hlt' : ¬ ((I : Int) < (k : Int)) := by omega
      have hlt2 : Hid (n / 2 ^ t < W32 ^ j) := by
        show _ < _
        rw [Nat.div_lt_iff_lt_mul (Nat.pow_pos (by decide))]
        refine Nat.lt_of_lt_of_le hn.out ?_
        refine Nat.le_trans (Nat.pow_le_pow_right W32_0 (show k ≤ j + ws by have := hI.out; omega)) ?_
        rw [Nat.pow_add]
        refine Nat.mul_le_mul_left _ ?_
        rw [W32_pow]
        exact Nat.pow_le_pow_right (by decide) (by have := htI.out; omega)
      have hjl : j ≤ 1000000 := by have := hI.out; omega
      clear hn hr
      go_wp2_with fail
      refine (ntrim_c w.heap.size j (n / 2 ^ t) u5 wr hrow.out hlt2.out hjl).mono ?_
      rintro e w' ⟨v3, rfl, hv3, rfl⟩
      have hv3H : Hid (Nm wr w.heap.size v3 (n / 2 ^ t)) := hv3
      clear hv3
      go_wp2
      go_ret
      exact ⟨_, rfl, hv3H.out, hb.out⟩
theorem ntop_c (B n t : Nat) (v : Value) (w : World) (hr : Nm w B v n) (hk : Wd.nw W32 n ≤ 100000) (ht : t ≤ 1000000) :
    Calls Tryz.prog 102 #[v, .int .i64 t] w fun e w' => ∃ v', e = .returned v' ∧ Nm w' w.heap.size v' (n / 2 ^ t) ∧ Below w.heap.size w w' := by
  obtain ⟨ao, cap, rfl⟩ := Row.slice hr
  exact ntop_n B _ n t (t / 32) (t % 32) ao cap w hr hk (Wd.lt_pow_nw W32_2 n) ht (by omega) (by omega)
end Go.Proofs.YtoojjefndkdnpaaGreatDoor
/-
  timbrenat: push, Div.
-/
namespace Go.Proofs.YtoojjefndkdnpaaGreatDoor
open Flo Go.RowKit
set_option maxRecDepth 100000 in
set_option maxHeartbeats 1000000 in
theorem npush_c (B n d : Nat) (v : Value) (w : World) (hr : Nm w B v n) (hk : Wd.nw W32 n ≤ 100000) (hd : d < 4294967296) :
    Calls Tryz.prog 103 #[v, .int .u32 d] w fun e w' => ∃ v', e = .returned v' ∧ Nm w' w.heap.size v' (n * 2 + d) ∧ Below w.heap.size w w' := by
  have hm : Hid (Calls Tryz.prog 50 #[v, .int .u32 2, .int .u32 d] w fun e w' => ∃ v', e = .returned v' ∧ Nm w' w.heap.size v' (n * 2 + d) ∧ Below w.heap.size w w') := nmul_c B 2 d n v w hr hk (by decide) hd
  obtain ⟨ao, cap, rfl⟩ := Row.slice hr
  clear hr
  go_enter Tryz.func103, Tryz.ntmps103
  go_wp2_with fail
  refine hm.out.mono ?_
  rintro e w' ⟨v', rfl, hv, hb⟩
  have hvH : Hid (Nm w' w.heap.size v' (n * 2 + d)) := hv
  have hbH : Hid (Below w.heap.size w w') := hb
  clear hm hv hb
  go_wp2
  go_ret
  exact ⟨_, rfl, hvH.out, hbH.out⟩
theorem div_bit {N D i : Nat} (hD : 0 < D) : N / 2 ^ i / D = N / 2 ^ (i + 1) / D * 2 + (if D ≤ N / 2 ^ (i + 1) % D * 2 + N / 2 ^ i % 2 then 1 else 0) ∧
    N / 2 ^ i % D = (if D ≤ N / 2 ^ (i + 1) % D * 2 + N / 2 ^ i % 2 then N / 2 ^ (i + 1) % D * 2 + N / 2 ^ i % 2 - D else N / 2 ^ (i + 1) % D * 2 + N / 2 ^ i % 2) := by
  have e : N / 2 ^ (i + 1) = N / 2 ^ i / 2 := by rw [Nat.pow_succ, Nat.div_div_eq_div_mul]
  rw [e]
  generalize N / 2 ^ i = M
  have h1 := Nat.div_add_mod (M / 2) D
  have h2 := Nat.mod_lt (M / 2) hD
  generalize M / 2 / D = Q at *
  generalize hR : M / 2 % D = R at *
  have h3 : M = D * (Q * 2) + (R * 2 + M % 2) := by
    have : M = M / 2 * 2 + M % 2 := by omega
    have h4 : D * (Q * 2) = D * Q * 2 := by rw [Nat.mul_assoc]
    rw [h4]
    omega
  have h5 : M % 2 < 2 := by omega
  clear hR
  generalize M % 2 = d at *
  split
  · rename_i hc
    have h4 : M = D * (Q * 2 + 1) + (R * 2 + d - D) := by rw [Nat.mul_add, Nat.mul_one]; omega
    have hlt : R * 2 + d - D < D := by omega
    exact ⟨by rw [h4, Nat.mul_add_div hD, Nat.div_eq_of_lt hlt, Nat.add_zero], by rw [h4, Nat.mul_add_mod, Nat.mod_eq_of_lt hlt]⟩
  · rename_i hc
    have hlt : R * 2 + d < D := by omega
    exact ⟨by rw [h3, Nat.mul_add_div hD, Nat.div_eq_of_lt hlt, Nat.add_zero], by rw [h3, Nat.mul_add_mod, Nat.mod_eq_of_lt hlt]⟩
theorem div_top {N D F : Nat} (hD : 0 < D) (h : bitLen N + 1 - bitLen D ≤ F) : N / 2 ^ F < D := by
  have h1 := bitLen_hi N
  have h2 := bitLen_lo hD
  have h3 := bitLen_pos hD
  rw [Nat.div_lt_iff_lt_mul (Nat.pow_pos (by decide))]
  refine Nat.lt_of_lt_of_le h1 ?_
  refine Nat.le_trans ?_ (Nat.mul_le_mul_right _ h2)
  rw [← Nat.pow_add]
  exact Nat.pow_le_pow_right (by decide) (by omega)
set_option maxRecDepth 100000 in
set_option maxHeartbeats 1000000 in
theorem ndiv_b (B C N D n d k l : Nat) (ao bo : Option Addr) (cap cbp : Nat) (w : World) (huH : Hid (Nm w B (.slice ao k cap) N)) (hvH : Hid (Nm w C (.slice bo l cbp) D)) (hk : k ≤ 10000) (hl : l ≤ 10000) (hkN : Hid (k = Wd.nw W32 N)) (hlD : Hid (l = Wd.nw W32 D))
    (hn : Hid (n = bitLen N)) (hd : Hid (d = bitLen D)) (hnl : n ≤ 320000) (hdl : d ≤ 320000) (hX : (n : Int) - (d : Int) + 1 < 0) (hlt : Hid (N < D)) :
    Calls Tryz.prog 80 #[.slice ao k cap, .slice bo l cbp] w fun e w' => ∃ v', e = .returned (.tuple #[.int .u64 ((N / D : Nat) : Int), v']) ∧ Nm w' w.heap.size v' (N % D) ∧ Below w.heap.size w w' := by
  have hs1 : Hid (Calls Tryz.prog 79 #[.slice ao k cap] w fun e w'' => e = .returned (.int .i64 (n : Nat)) ∧ w = w'') := by rw [hn.out]; exact nsize_c B N _ w huH.out (by have := hkN.out; omega)
  have hs2 : Hid (Calls Tryz.prog 79 #[.slice bo l cbp] w fun e w'' => e = .returned (.int .i64 (d : Nat)) ∧ w = w'') := by rw [hd.out]; exact nsize_c C D _ w hvH.out (by have := hlD.out; omega)
  have hkk : Hid (Wd.nw W32 N ≤ 100000) := by have := hkN.out; show _ ≤ _; omega
  go_enter Tryz.func80, Tryz.ntmps80
  go_wp2_with fail
  refine hs1.out.mono ?_
  rintro e w' ⟨rfl, rfl⟩
  go_wp2_with fail
  refine hs2.out.mono ?_
  rintro e w' ⟨rfl, rfl⟩
  clear hs1 hs2
  go_wp2_with fail
  refine (ntop_c B N 0 _ w huH.out hkk.out (by omega)).mono ?_
  rintro e w1 ⟨v1, rfl, hv1, hb1⟩
  have hv1H : Hid (Nm w1 w.heap.size v1 (N % D)) := by rw [Nat.mod_eq_of_lt hlt.out]; rw [Nat.pow_zero, Nat.div_one] at hv1; exact hv1
  have hq0 : Hid (N / D = 0) := Nat.div_eq_of_lt hlt.out
  have hb1H : Hid (Below w.heap.size w w1) := hb1
  have hn0 : (0 : Int) ≤ (n : Int) := by omega
  clear hv1 hb1
  go_wp2_with fail
  refine wp_loop_rounds 1 ?_
  rw [rounds_succ]
  go_wp2
  go_ret2
  refine ⟨v1, ?_, hv1H.out, hb1H.out⟩
  rw [hq0.out]; rfl
set_option maxRecDepth 100000 in
set_option maxHeartbeats 1000000 in
theorem ndiv_a (B C N D n d F k l : Nat) (ao bo : Option Addr) (cap cbp : Nat) (w : World) (huH : Hid (Nm w B (.slice ao k cap) N)) (hvH : Hid (Nm w C (.slice bo l cbp) D)) (hk : k ≤ 10000) (hl : l ≤ 10000) (hkN : Hid (k = Wd.nw W32 N)) (hlD : Hid (l = Wd.nw W32 D)) (hDH : Hid (0 < D)) (hq : Hid (N / D < 18446744073709551616))
    (hn : Hid (n = bitLen N)) (hd : Hid (d = bitLen D)) (hdl : d ≤ 320000) (hX : (n : Int) - (d : Int) + 1 = (F : Int)) (hFn : (F : Int) ≤ (n : Int)) (hF : Hid (N / 2 ^ F < D)) (hFl : F ≤ 320000) :
    Calls Tryz.prog 80 #[.slice ao k cap, .slice bo l cbp] w fun e w' => ∃ v', e = .returned (.tuple #[.int .u64 ((N / D : Nat) : Int), v']) ∧ Nm w' w.heap.size v' (N % D) ∧ Below w.heap.size w w' := by
  have hs1 : Hid (Calls Tryz.prog 79 #[.slice ao k cap] w fun e w'' => e = .returned (.int .i64 (n : Nat)) ∧ w = w'') := by rw [hn.out]; exact nsize_c B N _ w huH.out (by have := hkN.out; omega)
  have hs2 : Hid (Calls Tryz.prog 79 #[.slice bo l cbp] w fun e w'' => e = .returned (.int .i64 (d : Nat)) ∧ w = w'') := by rw [hd.out]; exact nsize_c C D _ w hvH.out (by have := hlD.out; omega)
  have hkk : Hid (Wd.nw W32 N ≤ 100000) := by have := hkN.out; show _ ≤ _; omega
  go_enter Tryz.func80, Tryz.ntmps80
  go_wp2_with fail
  refine hs1.out.mono ?_
  rintro e w' ⟨rfl, rfl⟩
  go_wp2_with fail
  refine hs2.out.mono ?_
  rintro e w' ⟨rfl, rfl⟩
  clear hs1 hs2
  go_wp2_with fail
  refine (ntop_c B N F _ w huH.out hkk.out (by omega)).mono ?_
  rintro e w1 ⟨v1, rfl, hv1, hb1⟩
  have hv1H : Hid (Nm w1 w.heap.size v1 (N / 2 ^ F % D)) := by rw [Nat.mod_eq_of_lt hF.out]; exact hv1
  have hb1H : Hid (Below w.heap.size w w1) := hb1
  clear hv1 hb1
  go_wp2_with fail
  go_loopw [8, 9, 10] (fun sr sq si wr => ∃ j : Nat, j ≤ F ∧ si = .int .i64 ((j : Int) - 1) ∧ sq = .int .u64 ((N / 2 ^ j / D : Nat) : Int) ∧ Hid (Nm wr w.heap.size sr (N / 2 ^ j % D)) ∧ Hid (Below w.heap.size w wr)) (fun _ _ si _ => (intOf si + 1).toNat)
  case atStart => exact ⟨F, Nat.le_refl _, rfl, by rw [Nat.div_eq_of_lt hF.out]; rfl, hv1H, hb1H⟩
  case round =>
    clear hv1H hb1H
    obtain ⟨j, hj, rfl, rfl, hrow, hb⟩ := hrel
    have hsz := hb.out.size
    by_cases h0 : j = 0
    · subst h0
      have hq1 : Hid (N / 2 ^ 0 / D = N / D) := by show _ = _; rw [Nat.pow_zero, Nat.div_one]
      have hr1 : Hid (Nm wr w.heap.size u8 (N % D)) := by have := hrow.out; rw [Nat.pow_zero, Nat.div_one] at this; exact this
      clear hrow
      go_wp2
      go_ret2
      refine ⟨u8, ?_, hr1.out, hb.out⟩
      rw [← hq1.out]; rfl
    · obtain ⟨i, rfl⟩ : ∃ i, j = i + 1 := ⟨j - 1, by omega⟩
      have hi0 : (((i + 1 : Nat) : Int) - 1) = (i : Int) := by omega
      rw [hi0]
      clear hi0
      have hst := div_bit (N := N) (i := i) hDH.out
      have hqN : N / 2 ^ i / D ≤ N / D := Nat.div_le_div_right (Nat.div_le_self _ _)
      have hRD : N / 2 ^ (i + 1) % D < D := Nat.mod_lt _ hDH.out
      have hdig : Hid (Calls Tryz.prog 104 #[.slice ao k cap, .int .i64 i] wr fun e w' => e = .returned (.int .u32 ((N / 2 ^ i % 2 : Nat) : Int)) ∧ wr = w') := ndigit_c B N i _ wr (huH.out.under hb.out) (by have := hkN.out; omega) (by have := hn.out; omega)
      have hbt : N / 2 ^ i % 2 < 2 := Nat.mod_lt _ (by decide)
      have hN64 := hq.out
      have hnwD : Wd.nw W32 (N / 2 ^ (i + 1) % D) ≤ l := by rw [hlD.out]; exact Wd.nw_mono W32_2 (by omega)
      have hq1 : Hid (N / 2 ^ i / D = _) := hst.1
      have hr1 : Hid (N / 2 ^ i % D = _) := hst.2
      have hRDH : Hid (N / 2 ^ (i + 1) % D < D) := hRD
      clear hst hRD
      generalize N / 2 ^ (i + 1) % D = R at hrow hq1 hr1 hnwD hRDH
      generalize N / 2 ^ (i + 1) / D = Q at hq1 ⊢
      generalize N / 2 ^ i % 2 = b at hdig hbt hq1 hr1
      have hQ : Hid (Q * 2 + 1 < 18446744073709551616 ∨ ¬ D ≤ R * 2 + b) := by
        by_cases hc : D ≤ R * 2 + b
        · left
          have := hq1.out
          rw [if_pos hc] at this
          omega
        · exact .inr hc
      have hQ2 : Q * 2 < 18446744073709551616 := by
        have := hq1.out
        split at this <;> omega
      have eQ : IntKind.u64.wrap ((Q : Int) * 2) = ((Q * 2 : Nat) : Int) := by rw [show (Q : Int) * 2 = ((Q * 2 : Nat) : Int) by omega]; exact wrapId _ (by omega)
      have hnw2 : Hid (Wd.nw W32 (R * 2 + b) ≤ 100000) := by
        have h1 : R * 2 + b < W32 ^ (l + 1) := by
          have h2 := Wd.lt_pow_nw W32_2 R
          have h3 : W32 ^ Wd.nw W32 R ≤ W32 ^ l := Nat.pow_le_pow_right W32_0 hnwD
          rw [Nat.pow_succ]
          have h4 : (R + 1) * 4294967296 ≤ W32 ^ l * 4294967296 := Nat.mul_le_mul_right _ (by omega)
          show _ < W32 ^ l * 4294967296
          omega
        have := Wd.nw_le W32_2 h1
        show _ ≤ _
        omega
      clear hqN hN64
      go_wp2_with fail
      refine hdig.out.mono ?_
      rintro e w' ⟨rfl, rfl⟩
      clear hdig
      go_wp2_with fail
      refine (npush_c w.heap.size R b u8 wr hrow.out (by omega) (by omega)).mono ?_
      rintro e w2 ⟨v2, rfl, hv2, hb2⟩
      have hv2H : Hid (Nm w2 w.heap.size v2 (R * 2 + b)) := hv2.mono hsz
      have hb2H : Hid (Below w.heap.size w w2) := hb.out.trans (hb2.mono hsz)
      clear hv2 hb2 hrow hb
      have hsz2 := hb2H.out.size
      go_wp2_with fail
      have hcp : Hid (Calls Tryz.prog 105 #[v2, .slice bo l cbp] w2 fun e w' => e = .returned (.int .i64 (sgnOf (R * 2 + b) D)) ∧ ∃ q, w' = w2.drewN q) := ncmp_c w.heap.size C (R * 2 + b) D _ _ w2 hv2H.out (hvH.out.under hb2H.out) (by have := hnw2.out; omega)
      refine hcp.out.mono ?_
      rintro e w' ⟨rfl, q, rfl⟩
      clear hcp
      by_cases hc : D ≤ R * 2 + b
      · have hsg : (0 : Int) ≤ sgnOf (R * 2 + b) D := by unfold sgnOf; rw [if_neg (by omega)]; split <;> omega
        have hQ1 : Q * 2 + 1 < 18446744073709551616 := by rcases hQ.out with h | h; exact h; exact absurd hc h
        have hq2 : Hid (N / 2 ^ i / D = Q * 2 + 1) := by rw [hq1.out]; show _ = _; rw [if_pos hc]
        have hr2 : Hid (N / 2 ^ i % D = R * 2 + b - D) := by rw [hr1.out]; show _ = _; rw [if_pos hc]
        have hcH : Hid (D ≤ R * 2 + b) := hc
        have hbq : Hid (Below w.heap.size w (w2.drewN q)) := below_drewN hb2H.out q
        generalize sgnOf (R * 2 + b) D = sg1 at hsg
        clear hq1 hr1 hQ hc eQ
        go_wp2_with fail
        refine (nsub_c w.heap.size C (R * 2 + b) D v2 _ (w2.drewN q) hv2H.out (hvH.out.under hbq.out) hnw2.out hcH.out).mono ?_
        rintro e w3 ⟨v3, rfl, hv3, hb3⟩
        have hv3H : Hid (Nm w3 w.heap.size v3 (N / 2 ^ i % D)) := by rw [hr2.out]; exact hv3.mono hsz2
        have hb3H : Hid (Below w.heap.size w w3) := hbq.out.trans (hb3.mono hsz2)
        clear hv3 hb3 hv2H hb2H hbq
        go_wp2
        go_roundw
        case rel => exact ⟨i, by omega, by go_num, by rw [hq2.out]; go_num, hv3H, hb3H⟩
        case measure => simp [intOf]
      · have hsg : ¬ ((0 : Int) ≤ sgnOf (R * 2 + b) D) := by unfold sgnOf; rw [if_pos (by omega)]; omega
        have hq2 : Hid (N / 2 ^ i / D = Q * 2) := by rw [hq1.out]; show _ = _; rw [if_neg hc]; rfl
        have hr2 : Hid (N / 2 ^ i % D = R * 2 + b) := by rw [hr1.out]; show _ = _; rw [if_neg hc]
        have hbq : Hid (Below w.heap.size w (w2.drewN q)) := below_drewN hb2H.out q
        have hv3H : Hid (Nm (w2.drewN q) w.heap.size v2 (N / 2 ^ i % D)) := by rw [hr2.out]; exact hv2H.out
        generalize sgnOf (R * 2 + b) D = sg1 at hsg
        clear hq1 hr1 hQ hc eQ
        go_wp2
        go_roundw
        case rel => exact ⟨i, by omega, by go_num, by rw [hq2.out]; go_num, hv3H, hbq⟩
        case measure => simp [intOf]
theorem ndiv_c (B C N D : Nat) (u v : Value) (w : World) (hu : Nm w B u N) (hv : Nm w C v D) (hN : Wd.nw W32 N ≤ 10000) (hD1 : Wd.nw W32 D ≤ 10000) (hD : 0 < D) (hq : Hid (N / D < 18446744073709551616)) :
    Calls Tryz.prog 80 #[u, v] w fun e w' => ∃ v', e = .returned (.tuple #[.int .u64 ((N / D : Nat) : Int), v']) ∧ Nm w' w.heap.size v' (N % D) ∧ Below w.heap.size w w' := by
  have l1 := bit_nw32 (n := N)
  have l2 := bit_nw32 (n := D)
  have l3 := bitLen_pos hD
  obtain ⟨ao, cap, rfl⟩ := Row.slice hu
  obtain ⟨bo, cbp, rfl⟩ := Row.slice hv
  by_cases hc : bitLen N + 1 < bitLen D
  · refine ndiv_b B C N D (bitLen N) (bitLen D) _ _ ao bo cap cbp w hu hv hN hD1 rfl rfl rfl rfl (by omega) (by omega) (by omega) ?_
    have h := div_top (N := N) (F := 0) hD (by omega)
    rw [Nat.pow_zero, Nat.div_one] at h
    exact h
  · exact ndiv_a B C N D (bitLen N) (bitLen D) (bitLen N + 1 - bitLen D) _ _ ao bo cap cbp w hu hv hN hD1 rfl rfl hD hq rfl rfl (by omega) (by omega) (by omega) (div_top hD (Nat.le_refl _)) (by omega)
end Go.Proofs.YtoojjefndkdnpaaGreatDoor
