/-
  Layer 13, plain: the chirps' places among the roots; the zoomed sums. Nothing of the program.
-/
import Derived.Test.YtgfmimmiaalhcaaDoorDs0
import Derived.Test.YtgfmimmiaalhcaaDoorRtz
namespace Go.Proofs.YtgfmimmiaalhcaaDoor
open Flo Go.RowKit

theorem md_shift {n : Nat} (k c : Int) : Rp.md n (k + c * n) = Rp.md n k := by unfold Rp.md; rw [Int.add_mul_emod_self_right]
theorem md_tm {n : Nat} (k t : Int) : Rp.md n (k.tmod n + t) = Rp.md n (k + t) := by
  have h := Int.mul_tdiv_add_tmod k n
  have e : k + t = (k.tmod n + t) + (k.tdiv n) * n := by rw [Int.mul_comm] at h; omega
  rw [e, md_shift]
theorem md_mulr {n : Nat} (h : 0 < n) (j : Nat) (k : Int) : Rp.md n ((j : Int) * k) = j * Rp.md n k % n := by
  have e : ((j * Rp.md n k % n : Nat) : Int) = (j : Int) * k % n := by
    rw [Int.natCast_emod, Int.natCast_mul, Rp.md_eq h, Int.mul_emod (j : Int) (k % n), Int.emod_emod, ← Int.mul_emod]
  unfold Rp.md at *
  rw [← e]; rfl
/-- the place of the chirp j of n among the roots of M = 2n -/
def chm (M : Nat) (j : Int) : Nat := Rp.md M (j * j)
theorem chm_rest (M : Nat) (j : Int) : Rp.md M (j.tmod M * j.tmod M) = chm M j := by
  have h := Int.mul_tdiv_add_tmod j M
  obtain ⟨q, hq⟩ : ∃ q, j.tdiv M = q := ⟨_, rfl⟩
  obtain ⟨r, hr⟩ : ∃ r, j.tmod M = r := ⟨_, rfl⟩
  rw [hq, hr] at h
  rw [hr]
  have e : j * j = r * r + (q * (r + j)) * M := by
    subst h
    grind
  unfold chm
  rw [e, md_shift]
theorem chm_sq {M : Nat} (h : 0 < M) (j : Int) : Rp.md M j * Rp.md M j % M = chm M j := by
  have e : ((Rp.md M j * Rp.md M j % M : Nat) : Int) = j * j % M := by
    rw [Int.natCast_emod, Int.natCast_mul, Rp.md_eq h, ← Int.mul_emod]
  unfold chm
  have e2 : Rp.md M (j * j) = (j * j % (M : Int)).toNat := rfl
  rw [e2, ← e]; rfl
theorem chm_lt {M : Nat} (h : 0 < M) (j : Int) : chm M j < M := Rp.md_lt h _
theorem chm_neg (M : Nat) (j : Int) : chm M (-j) = chm M j := by unfold chm; rw [Int.neg_mul_neg]
theorem chm_on (M : Nat) (j : Int) : chm M (j + M) = chm M j := by
  unfold chm
  have e : (j + M) * (j + M) = j * j + (j + j + M) * M := by grind
  rw [e, md_shift]
theorem chm_zero (M : Nat) : chm M 0 = 0 := by unfold chm Rp.md; simp
/-- the chirp j, M = 2n -/
def chp (M : Nat) (j : Int) : Nat × Nat := (Rp.pc M (chm M j), Rp.pim M (chm M j))
theorem chp_fin {M : Nat} (h : 0 < M) (hM : M ≤ 4194304) (j : Int) : Ari.fin (chp M j).1 ∧ Ari.fin (chp M j).2 := ⟨Rp.pc_fin _ h hM, Rp.pim_fin _ h hM⟩
/-- the zoomed sum k of L elements -/
def zme (m L : Nat) (fr : Int) (f : Nat → Nat × Nat) (k : Nat) : Nat × Nat := dst m (Rp.md m (fr + k)) f (L - 1)
theorem zme_fwd (n : Nat) (f : Nat → Nat × Nat) (k : Nat) (h : k < n) : zme n n 0 f k = dsm n k f := by
  unfold zme dsm
  have e : Rp.md n (0 + (k : Int)) = k := by
    unfold Rp.md
    rw [Int.zero_add, Int.emod_eq_of_lt (by omega) (by omega)]; omega
  rw [e]
theorem zme_part (m L : Nat) (fr : Int) (f : Nat → Nat × Nat) (c k : Nat) : zme m L (fr + c) f k = zme m L fr f (c + k) := by
  unfold zme
  rw [Int.natCast_add, Int.add_assoc]
theorem zme_far (m L : Nat) (fr : Int) (f : Nat → Nat × Nat) (k : Nat) : zme m L (fr + 3 * m) f k = zme m L fr f k := by
  unfold zme
  have e : fr + 3 * (m : Int) + k = (fr + k) + 3 * m := by omega
  rw [e, md_shift]
/-- the other list's element i of m, as far as j chirps are laid -/
def otu (M m j i : Nat) : Nat × Nat := if i < j then cjp (chp M (i : Int)) else if 0 < i ∧ m - i < j then cjp (chp M ((m - i : Nat) : Int)) else (0, 0)
end Go.Proofs.YtgfmimmiaalhcaaDoor
