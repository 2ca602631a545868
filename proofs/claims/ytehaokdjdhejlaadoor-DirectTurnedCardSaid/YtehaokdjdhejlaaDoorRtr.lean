/-
  The eighth and the whole turn as the document reckons them, as plain functions of words; that none of it is a NaN; that it hangs on r/n alone. No condition; nothing of the program.
-/
import Derived.Test.YtehaokdjdhejlaaDoorRtq
namespace Go.Proofs.YtehaokdjdhejlaaDoor.Rp
open Flo Ieee Ari

def ffac : Nat → Nat
  | 0 => one
  | 1 => one
  | n + 2 => co .mul (ffac (n + 1)) (fl ((n + 2 : Nat) : Int))
def cf (odd k : Nat) : Nat := co .quo one (ffac (2 * k + odd))
def ser (y odd : Nat) : Nat → Nat
  | 0 => cf odd 8
  | i + 1 => co .sub (cf odd (7 - i)) (co .mul y (ser y odd i))
def ang (r n : Nat) : Nat := co .quo (co .mul turn (fl r)) (fl n)
def eiC (r n : Nat) : Nat := if r = 0 then one else if 8 * r = n then half else ser (co .mul (ang r n) (ang r n)) 0 8
def eiS (r n : Nat) : Nat := if r = 0 then 0 else if 8 * r = n then half else co .mul (ang r n) (ser (co .mul (ang r n) (ang r n)) 1 8)

theorem cf_le (odd k : Nat) (ho : odd < 2) (hk : k < 9) : cf odd k ≤ one := by
  have key : ∀ o, o < 2 → ∀ j, j < 9 → cf o j ≤ one := by decide
  exact key odd ho k hk
theorem ser_bd {y odd : Nat} (ho : odd < 2) (hy : bd y 1) : ∀ i, i ≤ 8 → bd (ser y odd i) (i + 1) := by
  intro i
  induction i with
  | zero => intro _; exact bd_le (cf_le odd 8 ho (by omega))
  | succ i ih =>
    intro hi
    have h1 := bd_co_mul hy (ih (by omega)) (by omega)
    have h2 := bd_co_sub (bd_le (cf_le odd (7 - i) ho (by omega))) h1 (by omega)
    have e : 1 + (i + 1) = i + 1 + 1 := by omega
    rw [e] at h2
    exact h2
theorem fl_pos {n : Nat} (h0 : 0 < n) (h : n < 33554432) : 0 < fl n ∧ fl n < 9218868437227405312 := by
  obtain ⟨e, hl⟩ := fl_word h0 (by omega)
  rw [e]
  refine ⟨?_, hl⟩
  have h1 := rg_mono_at (show 1 ≤ n from h0) 0
  have e2 : rg 1 0 = one := by
    have := one_word
    rw [rg_scale, show (-1074 : Int) + ((ul : Nat) : Int) = 0 by have := ul_eq; omega] at this
    exact this.symm
  have : 0 < one := by decide
  omega
theorem ang_le {r n : Nat} (h0 : 0 < r) (h : 8 * r ≤ n) (hn : n < 33554432) : ang r n ≤ one := by
  have hr : r < 33554432 := by omega
  have m2 : co .mul turn (fl r) = tw r := by rw [co_mul, mul_turn h0 hr, Option.getD_some]
  unfold ang
  rw [m2]
  have tb := tw_bounds h0 hr
  have fp := fl_pos (n := n) (by omega) hn
  refine div_word (by omega) ?_ fp.2
  obtain ⟨e, hl⟩ := fl_word (n := n) (by omega) (by omega)
  rw [e]
  have hle : vl turn * r ≤ n * 2 ^ ul := by
    rw [vl_turn, show ul = 50 + te from by decide, Nat.pow_add, Nat.mul_right_comm, ← Nat.mul_assoc n]
    apply Nat.mul_le_mul_right
    omega
  have hm := rg_mono_at hle (-1074)
  rw [rg_scale, show (-1074 : Int) + ((ul : Nat) : Int) = 0 by have := ul_eq; omega] at hm
  exact hm
theorem ang_bd {r n : Nat} (h0 : 0 < r) (h : 8 * r ≤ n) (hn : n < 33554432) : bd (ang r n) 1 := bd_le (ang_le h0 h hn)
theorem eiC_bd {r n : Nat} (h : 8 * r ≤ n) (hn : n < 33554432) : bd (eiC r n) 9 := by
  unfold eiC
  split
  · have := bd_le (c := one) (Nat.le_refl _); exact ⟨this.1, Nat.le_trans this.2 (Nat.mul_le_mul_right _ (by omega))⟩
  · split
    · have := bd_le (c := half) (by decide); exact ⟨this.1, Nat.le_trans this.2 (Nat.mul_le_mul_right _ (by omega))⟩
    · have ha := ang_bd (r := r) (by omega) h hn
      exact ser_bd (by omega) (bd_co_mul ha ha (by omega)) 8 (Nat.le_refl _)
theorem eiS_bd {r n : Nat} (h : 8 * r ≤ n) (hn : n < 33554432) : bd (eiS r n) 9 := by
  unfold eiS
  split
  · have := bd_le (c := 0) (by decide); exact ⟨this.1, Nat.le_trans this.2 (Nat.mul_le_mul_right _ (by omega))⟩
  · split
    · have := bd_le (c := half) (by decide); exact ⟨this.1, Nat.le_trans this.2 (Nat.mul_le_mul_right _ (by omega))⟩
    · have ha := ang_bd (r := r) (by omega) h hn
      exact bd_co_mul ha (ser_bd (by omega) (bd_co_mul ha ha (by omega)) 8 (Nat.le_refl _)) (by omega)
theorem ei_scale {r n j : Nat} (h : 8 * r ≤ n) (hn : n * 2 ^ j < 33554432) : eiC (r * 2 ^ j) (n * 2 ^ j) = eiC r n ∧ eiS (r * 2 ^ j) (n * 2 ^ j) = eiS r n := by
  have hj := Nat.two_pow_pos j
  unfold eiC eiS
  by_cases h0 : r = 0
  · subst h0
    rw [Nat.zero_mul]
    simp
  · have h1 : ¬ r * 2 ^ j = 0 := Nat.mul_ne_zero h0 (by omega)
    have e8 : (8 * (r * 2 ^ j) = n * 2 ^ j) = (8 * r = n) := by
      apply propext
      rw [← Nat.mul_assoc]
      exact ⟨fun hh => Nat.eq_of_mul_eq_mul_right hj hh, fun hh => by rw [hh]⟩
    have hr : r * 2 ^ j < 33554432 := by
      have : 8 * r * 2 ^ j ≤ n * 2 ^ j := Nat.mul_le_mul_right _ h
      rw [Nat.mul_assoc] at this
      omega
    have ea : ang (r * 2 ^ j) (n * 2 ^ j) = ang r n := by
      unfold ang
      exact angle_scale (by omega) (by omega) hr hn
    simp only [if_neg h0, if_neg h1, e8, ea]
    exact ⟨trivial, trivial⟩
end Go.Proofs.YtehaokdjdhejlaaDoor.Rp
