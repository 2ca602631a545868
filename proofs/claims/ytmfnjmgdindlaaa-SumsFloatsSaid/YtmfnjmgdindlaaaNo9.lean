/-
  Plain mathematics: the exact sum with numbers and their negatives put in is equal.
-/
import Derived.Test.YtmfnjmgdindlaaaWn9
namespace Go.Proofs.Ytmfnjmgdindlaaa.Sm
open Ieee Go.Proofs.Ytmfnjmgdindlaaa.Ari
open Go.Proofs.Ytmfnjmgdindlaaa.Flo (nanB sv)
/-- numbers and their negatives were put in -/
structure Rel (xs zs : List Nat) : Prop where
  n : anyN zs = anyN xs
  i : anyI zs = anyI xs
  j : anyJ zs = anyJ xs
  ud : ∃ K, up zs = up xs + K ∧ dn zs = dn xs + K
theorem Rel.refl (xs : List Nat) : Rel xs xs := ⟨rfl, rfl, rfl, 0, rfl, rfl⟩
theorem Rel.perm {xs zs : List Nat} (h : zs.Perm xs) : Rel xs zs := ⟨h.any_eq, h.any_eq, h.any_eq, 0, (h.map uq).sum_nat, (h.map dq).sum_nat⟩
theorem ud_ng {f : Nat} (h : f < 18446744073709551616) : uq (ng f) + uq f = vl f ∧ dq (ng f) + dq f = vl f := by
  unfold uq dq ng vl
  by_cases c : f < 9223372036854775808
  · have h1 : ¬ f + 9223372036854775808 < 9223372036854775808 := by omega
    have h2 : (f + 9223372036854775808) % 9223372036854775808 = f := by omega
    have h3 : f % 9223372036854775808 = f := by omega
    simp only [c, if_true, h1, if_false, h2, h3]
    omega
  · have h1 : f - 9223372036854775808 < 9223372036854775808 := by omega
    have h3 : f % 9223372036854775808 = f - 9223372036854775808 := by omega
    simp only [c, if_false, h1, if_true, h3]
    omega
theorem fin_flags {f : Nat} (h : fin f) : nanB f = false ∧ (f == 9218868437227405312) = false ∧ (f == 18442240474082181120) = false := by
  have := h.2
  exact ⟨nan_fin h, beq_eq_false_iff_ne.2 (by omega), beq_eq_false_iff_ne.2 (by omega)⟩
theorem Rel.more {xs zs : List Nat} (h : Rel xs zs) {f : Nat} (hf : fin f) : Rel xs (ng f :: (zs ++ [f])) := by
  obtain ⟨a1, a2, a3⟩ := fin_flags hf
  obtain ⟨b1, b2, b3⟩ := fin_flags (fin_ng hf)
  obtain ⟨K, k1, k2⟩ := h.ud
  obtain ⟨u, d⟩ := ud_ng hf.1
  refine ⟨?_, ?_, ?_, K + vl f, ?_, ?_⟩
  · rw [← h.n]; simp only [anyN, List.any_cons, List.any_append, List.any_nil, a1, b1, Bool.or_false, Bool.false_or]
  · rw [← h.i]; simp only [anyI, List.any_cons, List.any_append, List.any_nil, a2, b2, Bool.or_false, Bool.false_or]
  · rw [← h.j]; simp only [anyJ, List.any_cons, List.any_append, List.any_nil, a3, b3, Bool.or_false, Bool.false_or]
  · have : up (ng f :: (zs ++ [f])) = uq (ng f) + (up zs + uq f) := by simp [up]
    omega
  · have : dn (ng f :: (zs ++ [f])) = dq (ng f) + (dn zs + dq f) := by simp [dn]
    omega
theorem exF_add (u d K : Nat) : exF (u + K) (d + K) = exF u d := by
  unfold exF
  rw [show d + K - (u + K) = d - u by omega, show u + K - (d + K) = u - d by omega]
  by_cases c : u < d
  · rw [if_pos c, if_pos (by omega)]
  · rw [if_neg c, if_neg (by omega)]
theorem sv_fin (l : List Nat) : sv (if allZ l then 9223372036854775808 else exF (up l) (dn l)) = sv (exF (up l) (dn l)) := by
  split
  · rename_i c
    obtain ⟨a, b⟩ := Wn.allZ_ud c
    rw [a, b, show exF 0 0 = 0 by unfold exF; rw [if_neg (by omega)]; exact rd_zero]
    decide
  · rfl
theorem nan_exF (u d : Nat) : nanB (exF u d) = false := by
  have h1 := rd_le (d - u)
  have h2 := rd_le (u - d)
  unfold nanB exF
  rw [decide_eq_false_iff_not]
  split <;> omega
theorem nan_exV (l : List Nat) : nanB (if allZ l then 9223372036854775808 else exF (up l) (dn l)) = false := by
  split
  · decide
  · exact nan_exF _ _
theorem Rel.eq {xs zs : List Nat} (h : Rel xs zs) : (nanB (exB xs) = true ∧ nanB (exB zs) = true) ∨ (nanB (exB xs) = false ∧ nanB (exB zs) = false ∧ sv (exB xs) = sv (exB zs)) := by
  unfold exB
  rw [h.n, h.i, h.j]
  obtain ⟨K, k1, k2⟩ := h.ud
  by_cases c1 : (anyN xs || (anyI xs && anyJ xs)) = true
  · rw [if_pos c1, if_pos c1]; exact .inl ⟨by decide, by decide⟩
  · rw [if_neg c1, if_neg c1]
    by_cases c2 : anyI xs = true
    · rw [if_pos c2, if_pos c2]; exact .inr ⟨by decide, by decide, rfl⟩
    · rw [if_neg c2, if_neg c2]
      by_cases c3 : anyJ xs = true
      · rw [if_pos c3, if_pos c3]; exact .inr ⟨by decide, by decide, rfl⟩
      · rw [if_neg c3, if_neg c3]
        refine .inr ⟨nan_exV xs, nan_exV zs, ?_⟩
        rw [sv_fin, sv_fin, k1, k2, exF_add]
end Go.Proofs.Ytmfnjmgdindlaaa.Sm
