/-
  Plain mathematics of the roots: every step of the series lies between 0 and its coefficient, so each part of an eighth lies from 0 to 1 and is no nought below. No condition; nothing of the program.
-/
import Derived.Test.YtgfmimmiaalhcaaDoorRts
namespace Go.Proofs.YtgfmimmiaalhcaaDoor.Rp
open Flo Ieee Ari

theorem sg_word {c : Nat} (h : c < 9223372036854775808) : sg c = false := by unfold sg; exact decide_eq_false (by omega)
theorem vl_word {c : Nat} (h : c < 9223372036854775808) : vl c = vr c := by unfold vl; rw [Nat.mod_eq_of_lt h]
theorem fz_word {c : Nat} (h : c < 9223372036854775808) : fz c = (vr c : Int) := by unfold fz; rw [sg_word h, vl_word h]; rfl
theorem fin_word {c : Nat} (h : c < 9218868437227405312) : fin c := ⟨by omega, by rw [Nat.mod_eq_of_lt (by omega)]; omega⟩
theorem vr_one : vr one = 2 ^ ul := by
  have w := rg_whole (A := 1) (by decide)
  rw [← one_word, Nat.one_mul] at w
  exact w.2
theorem one_lt : one < 9218868437227405312 := by decide
/-- a finite word that is not below 0 is kept as it is -/
theorem rg_word {c : Nat} (h : c < 9218868437227405312) : rg (vr c) (-1074) = c := by
  have hb : mg c * 2 ^ ex c < 2 ^ tp := by
    have h1 := mg_lt c
    have h2 : ex c ≤ 2045 := by unfold ex; omega
    calc mg c * 2 ^ ex c < 2 ^ 53 * 2 ^ ex c := Nat.mul_lt_mul_of_pos_right h1 (Nat.two_pow_pos _)
      _ = 2 ^ (53 + ex c) := (Nat.pow_add ..).symm
      _ ≤ 2 ^ tp := Nat.pow_le_pow_right (by omega) (by have := tp_eq; omega)
  have := rg_rep (a := mg c) (k := ex c) (mg_lt c) hb
  exact vr_inj.1 this.2
theorem mul_word {x y c : Nat} (hx : x ≤ one) (hy : y ≤ c) (hc : c < 9218868437227405312) : co .mul x y ≤ c := by
  have ho := one_lt
  rw [co_mul, mul_fin (fin_word (by omega)) (fin_word (by omega)), Option.getD_some, sg_word (by omega), sg_word (by omega), vl_word (by omega), vl_word (by omega), nearest_eq, word_eq, if_neg (by decide)]
  have hp : vr x * vr y ≤ vr c * 2 ^ ul := by
    rw [Nat.mul_comm, ← vr_one]
    exact Nat.mul_le_mul (vr_le hy) (vr_le hx)
  have hm := rg_mono_at hp (-2148)
  rw [rg_scale, show (-2148 : Int) + ((ul : Nat) : Int) = -1074 by have := ul_eq; omega, rg_word hc] at hm
  omega
theorem sub_word {c z : Nat} (hz : z ≤ c) (hc : c < 9218868437227405312) : co .sub c z ≤ c := by
  rw [co_sub, sub_eq c (by omega), add_fin (fin_word hc) (fin_ng (fin_word (by omega))), Option.getD_some, fz_ng (by omega), fz_word (by omega), fz_word (by omega)]
  have hv := vr_le hz
  have hs : (if (vr c : Int) + -(vr z : Int) = 0 then sg c && sg (ng z) else decide ((vr c : Int) + -(vr z : Int) < 0)) = false := by
    split
    · rw [sg_word (by omega)]; rfl
    · exact decide_eq_false (by omega)
  rw [hs]
  have e : ((vr c : Int) + -(vr z : Int)).natAbs = vr c - vr z := by omega
  rw [e, nearest_eq, word_eq, if_neg (by decide)]
  have hm := rg_mono_at (Nat.sub_le (vr c) (vr z)) (-1074)
  rw [rg_word hc] at hm
  omega
theorem cf_falls {odd k : Nat} (ho : odd < 2) (hk : k < 8) : cf odd (k + 1) ≤ cf odd k := by
  have key : ∀ o, o < 2 → ∀ j, j < 8 → cf o (j + 1) ≤ cf o j := by decide
  exact key odd ho k hk
theorem ser_le {y odd : Nat} (ho : odd < 2) (hy : y ≤ one) : ∀ i, i ≤ 8 → ser y odd i ≤ cf odd (8 - i) := by
  intro i
  induction i with
  | zero => intro _; exact Nat.le_refl _
  | succ i ih =>
    intro hi
    have o := one_lt
    have c0 := cf_le odd (7 - i) ho (by omega)
    have c1 := cf_le odd (8 - i) ho (by omega)
    have cd := cf_falls (k := 7 - i) ho (by omega)
    rw [show 7 - i + 1 = 8 - i by omega] at cd
    have hz := mul_word hy (ih (by omega)) (by omega)
    rw [show 8 - (i + 1) = 7 - i by omega]
    exact sub_word (by omega) (by omega)
theorem cf_zero (odd : Nat) (ho : odd < 2) : cf odd 0 = one := by
  have key : ∀ o, o < 2 → cf o 0 = one := by decide
  exact key odd ho
theorem ser_le_one {y odd : Nat} (ho : odd < 2) (hy : y ≤ one) : ser y odd 8 ≤ one := by
  have := ser_le ho hy 8 (Nat.le_refl _)
  rw [show 8 - 8 = 0 from rfl, cf_zero odd ho] at this
  exact this
theorem eiC_le {r n : Nat} (h : 8 * r ≤ n) (hn : n < 33554432) : eiC r n ≤ one := by
  unfold eiC
  split
  · exact Nat.le_refl _
  · split
    · decide
    · have ha := ang_le (r := r) (by omega) h hn
      exact ser_le_one (by omega) (mul_word ha ha one_lt)
theorem eiS_le {r n : Nat} (h : 8 * r ≤ n) (hn : n < 33554432) : eiS r n ≤ one := by
  unfold eiS
  split
  · decide
  · split
    · decide
    · have ha := ang_le (r := r) (by omega) h hn
      exact mul_word ha (ser_le_one (by omega) (mul_word ha ha one_lt)) one_lt
theorem zp_word {x : Nat} (h : x < 9223372036854775808) : zp x = x := by
  unfold zp
  split
  · omega
  · rfl
theorem bc_le {n r : Nat} (h : r < n) (hn : n ≤ 4194304) : bc n r ≤ one := by
  unfold bc; split
  · exact eiC_le (by omega) (by omega)
  · exact eiS_le (by omega) (by omega)
theorem bs_le {n r : Nat} (h : r < n) (hn : n ≤ 4194304) : bs n r ≤ one := by
  unfold bs; split
  · exact eiS_le (by omega) (by omega)
  · exact eiC_le (by omega) (by omega)
end Go.Proofs.YtgfmimmiaalhcaaDoor.Rp
