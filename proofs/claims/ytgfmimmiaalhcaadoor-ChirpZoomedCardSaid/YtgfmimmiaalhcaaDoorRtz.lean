/-
  Plain mathematics of the roots: what a root is at k + n, at minus k, at k and n times a power of two, half and a quarter turn on. No condition; nothing of the program.
-/
import Derived.Test.YtgfmimmiaalhcaaDoorRtv
namespace Go.Proofs.YtgfmimmiaalhcaaDoor.Rp
open Flo Ieee Ari

theorem md_add (n : Nat) (k : Int) : md n (k + n) = md n k := by unfold md; rw [Int.add_emod_right]
theorem md_uniq {n m : Nat} {k : Int} (hm : m < n) (h : ∃ c : Int, k = c * n + m) : md n k = m := by
  obtain ⟨c, rfl⟩ := h
  unfold md
  rw [Int.add_comm, Int.add_mul_emod_self_right, Int.emod_eq_of_lt (by omega) (by omega)]
  omega
theorem md_form {n : Nat} (h : 0 < n) (k : Int) : ∃ c : Int, k = c * n + md n k := by
  refine ⟨k / n, ?_⟩
  rw [md_eq h]
  have := Int.mul_ediv_add_emod k n
  rw [Int.mul_comm] at this
  exact this.symm
theorem md_neg {n : Nat} (h : 0 < n) (k : Int) : md n (-k) = if md n k = 0 then 0 else n - md n k := by
  have hl := md_lt h k
  obtain ⟨c, hc⟩ := md_form h k
  generalize md n k = m at *
  by_cases h0 : m = 0
  · rw [if_pos h0]
    refine md_uniq h ⟨-c, ?_⟩
    rw [hc, h0, Int.neg_mul]; omega
  · rw [if_neg h0]
    refine md_uniq (by omega) ⟨-c - 1, ?_⟩
    rw [hc, Int.sub_mul, Int.neg_mul]; omega
theorem md_mul {n : Nat} (h : 0 < n) (k : Int) (j : Nat) : md (n * 2 ^ j) (k * ((2 ^ j : Nat) : Int)) = md n k * 2 ^ j := by
  have hl := md_lt h k
  obtain ⟨c, hc⟩ := md_form h k
  generalize md n k = m at *
  refine md_uniq (Nat.mul_lt_mul_of_pos_right hl (Nat.two_pow_pos j)) ⟨c, ?_⟩
  rw [hc, Int.add_mul, Int.natCast_mul, Int.natCast_mul, Int.mul_assoc]
theorem md_on {n t : Nat} (h : 0 < n) (k : Int) : md n (k + t) = (md n k + t) % n := by
  obtain ⟨c, hc⟩ := md_form h k
  generalize md n k = m at *
  have hd := Nat.div_add_mod (m + t) n
  refine md_uniq (Nat.mod_lt _ h) ⟨c + ((m + t) / n : Nat), ?_⟩
  have : (((m + t) % n : Nat) : Int) = (m : Int) + t - n * ((m + t) / n : Nat) := by
    have e : ((n * ((m + t) / n) + (m + t) % n : Nat) : Int) = ((m + t : Nat) : Int) := by rw [hd]
    rw [Int.natCast_add, Int.natCast_mul, Int.natCast_add] at e
    omega
  rw [this, hc, Int.add_mul, Int.mul_comm ((((m + t) / n : Nat)) : Int)]
  omega
/-- the way back -/
theorem root_back {n : Nat} (h : 0 < n) (hn : n ≤ 4194304) (k : Int) : pc n (md n (-k)) = zp (pc n (md n k)) ∧ pim n (md n (-k)) = zp (ng (pim n (md n k))) := by
  have hl := md_lt h k
  rw [md_neg h, zp_pc]
  unfold pim
  by_cases h0 : md n k = 0
  · rw [if_pos h0, h0]
    refine ⟨rfl, ?_⟩
    rw [(pair_zero n).2]; decide
  · rw [if_neg h0]
    have b := pair_back (n := n) (m := md n k) (by omega) hl hn
    exact ⟨b.1, by rw [b.2]⟩
theorem root_scale {n : Nat} (h : 0 < n) (k : Int) (j : Nat) (hn : n * 2 ^ j ≤ 4194304) : pc (n * 2 ^ j) (md (n * 2 ^ j) (k * ((2 ^ j : Nat) : Int))) = pc n (md n k) ∧ pim (n * 2 ^ j) (md (n * 2 ^ j) (k * ((2 ^ j : Nat) : Int))) = pim n (md n k) := by
  rw [md_mul h]
  have s := pair_scale (md_lt h k) hn
  unfold pim
  rw [s.1, s.2]
  exact ⟨rfl, rfl⟩
theorem root_half {n t : Nat} (h : 0 < n) (hn : n ≤ 4194304) (ht : n = 2 * t) (k : Int) : pc n (md n (k + t)) = zp (ng (pc n (md n k))) ∧ pim n (md n (k + t)) = zp (ng (pim n (md n k))) := by
  rw [md_on h]
  have s := pair_half (md_lt h k) hn ht
  unfold pim
  exact ⟨s.1, by rw [s.2]⟩
theorem root_quarter {n t : Nat} (h : 0 < n) (hn : n ≤ 4194304) (ht : n = 4 * t) (k : Int) : pc n (md n (k + t)) = zp (pim n (md n k)) ∧ pim n (md n (k + t)) = zp (ng (pc n (md n k))) := by
  rw [md_on h, zp_pim]
  have s := pair_quarter (md_lt h k) hn ht
  unfold pim
  exact ⟨s.1, by rw [s.2]⟩
/-- the sine is minus the imaginary part -/
theorem root_sine {n : Nat} (h : 0 < n) (hn : n ≤ 4194304) (k : Int) : ps n (md n k) = zp (ng (pim n (md n k))) := by
  unfold pim
  rw [zp_ng_ng (ps_fin _ h hn).1, zp_ps]
theorem fz_zp (x : Nat) : fz (zp x) = fz x := by
  unfold zp
  split
  · rename_i h
    have : vl x = 0 := by unfold vl; rw [h]; exact vr_zero
    unfold fz
    rw [this]
    have : vl 0 = 0 := by decide
    rw [this]
    cases sg x <;> cases sg 0 <;> rfl
  · rfl
end Go.Proofs.YtgfmimmiaalhcaaDoor.Rp
