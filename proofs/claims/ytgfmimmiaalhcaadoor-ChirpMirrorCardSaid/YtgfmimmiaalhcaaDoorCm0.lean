/-
  Layer 13, plain: the other list is the same from its end; which of its elements are nought.
-/
import Derived.Test.YtgfmimmiaalhcaaDoorCh2
import Derived.Test.YtgfmimmiaalhcaaDoorRty
namespace Go.Proofs.YtgfmimmiaalhcaaDoor
open Flo Go.RowKit
theorem otu_mirror {M m n i : Nat} (h1 : 1 ≤ i) (him : i < m) (hm : 2 * n - 1 ≤ m) : otu M m n (m - i) = otu M m n i := by
  unfold otu
  have e : m - (m - i) = i := by omega
  rw [e]
  by_cases a : i < n
  · rw [if_neg (by omega : ¬ m - i < n), if_pos (by omega), if_pos a]
  · rw [if_neg a]
    by_cases b : m - i < n
    · rw [if_pos b, if_pos (by omega)]
    · rw [if_neg b, if_neg (by omega), if_neg (by omega)]
theorem otu_zero {M m n i : Nat} (h : n ≤ i ∧ n ≤ m - i) : otu M m n i = (0, 0) := by
  unfold otu
  rw [if_neg (by omega), if_neg (by omega)]
theorem otu_chirp {M m n i : Nat} (h1 : 1 ≤ i) (him : i < m) (h : ¬ (n ≤ i ∧ n ≤ m - i)) : ∃ k : Int, otu M m n i = cjp (chp M k) := by
  unfold otu
  by_cases a : i < n
  · exact ⟨_, by rw [if_pos a]⟩
  · exact ⟨_, by rw [if_neg a, if_pos (by omega)]⟩
theorem fz_zero : Ari.fz 0 = 0 := by decide +kernel
theorem chp_ne {M : Nat} (h0 : 0 < M) (hM : M ≤ 4194304) (j : Int) : (FloatKind.f64.format.order (cjp (chp M j)).1 0 == some .eq) = false ∨ (FloatKind.f64.format.order (cjp (chp M j)).2 0 == some .eq) = false := by
  obtain ⟨fa, fb⟩ := chp_fin h0 hM j
  have f0 : Ari.fin 0 := ⟨by decide, by decide⟩
  have e1 := Ari.eq_fin fa f0
  have e2 := Ari.eq_fin (Ari.fin_ng fb) f0
  change (FloatKind.f64.format.order (cjp (chp M j)).1 0 == some .eq) = _ at e1
  change (FloatKind.f64.format.order (cjp (chp M j)).2 0 == some .eq) = _ at e2
  rw [e1, e2, fz_zero]
  by_cases c1 : Ari.fz (chp M j).1 = 0
  · right
    refine decide_eq_false (fun c2 => ?_)
    obtain ⟨_, _, hc⟩ := Rp.root_circle (chm_lt h0 j) hM
    have v1 : Rp.V (Rp.pc M (chm M j)) = 0 := by unfold Rp.V; rw [show Ari.fz (Rp.pc M (chm M j)) = 0 from c1]; grind
    have v2 : Rp.V (Ari.ng (Rp.pim M (chm M j))) = 0 := by unfold Rp.V; rw [show Ari.fz (Ari.ng (Rp.pim M (chm M j))) = 0 from c2]; grind
    rw [Rp.V_ng (show Rp.pim M (chm M j) < 18446744073709551616 from fb.1)] at v2
    have v3 : Rp.V (Rp.pim M (chm M j)) = 0 := by grind
    rw [v1, v3] at hc
    have he := Rp.eps_eq
    have h1 := hc.1
    have h2 := hc.2
    grind
  · left; exact decide_eq_false c1
/-- how many noughts lie ahead of place i -/
def cnt (m n i : Nat) : Nat := min i (m - n + 1) - n
theorem cnt_one {m n : Nat} (h : 0 < n) : cnt m n 1 = 0 := by unfold cnt; omega
theorem cnt_step_t {m n i : Nat} (h : n ≤ i ∧ n ≤ m - i) (him : i < m) : cnt m n (i + 1) = cnt m n i + 1 := by unfold cnt; omega
theorem cnt_step_f {m n i : Nat} (h : ¬ (n ≤ i ∧ n ≤ m - i)) (him : i < m) : cnt m n (i + 1) = cnt m n i := by unfold cnt; omega
theorem cnt_end {m n : Nat} (h : 0 < n) (hm : 2 * n - 1 ≤ m) : cnt m n m = m - (2 * n - 1) := by unfold cnt; omega
theorem chp_zero (M : Nat) : chp M 0 = (4607182418800017408, 0) := by
  unfold chp
  rw [chm_zero]
  have h := Rp.pair_zero M
  unfold Rp.pim
  rw [h.1, h.2]
  decide +kernel
theorem sz_and {K s : Nat} (h : Sz K s) : s &&& (s - 1) = 0 := by
  obtain ⟨t, rfl, _⟩ := h
  rw [Nat.and_two_pow_sub_one_eq_mod, Nat.mod_self]
theorem sz_pos {K s : Nat} (h : Sz K s) : 0 < s := by obtain ⟨t, rfl, _⟩ := h; exact Nat.two_pow_pos t
end Go.Proofs.YtgfmimmiaalhcaaDoor
