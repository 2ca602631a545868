/-
  Layer 12, plain: a good order's Kids, its leaves, its depth.
-/
import Derived.Test.YtfoblbpbhldngaaDoorOd5
import Derived.Test.YtfoblbpbhldngaaDoorOt1
namespace Go.Proofs.YtfoblbpbhldngaaDoor
namespace Tr
theorem len_pos {t : Tr} (h : 0 < len t) : (pt t ≤ 4096 ∧ dp t ≤ 16) ∧ len t = ln t ∧ 0 < ln t := by
  unfold len at h ⊢
  by_cases e : pt t ≤ 4096 ∧ dp t ≤ 16
  · rw [if_pos e] at h ⊢; exact ⟨e, rfl, h⟩
  · rw [if_neg e] at h; omega
theorem len_of {t : Tr} (h1 : pt t ≤ 4096) (h2 : dp t ≤ 16) : len t = ln t := by unfold len; rw [if_pos ⟨h1, h2⟩]
/-- the Kids of a good order are good, and of their own lengths -/
theorem len_kid {k n : Int} {ks : List Tr} (h : 0 < len ⟨k, n, ks⟩) {t : Tr} (ht : t ∈ ks) : 0 < len t ∧ len t = ln t := by
  obtain ⟨⟨h1, h2⟩, h3, h4⟩ := len_pos h
  have e : len t = ln t := len_of (by have := pt_kid (k := k) (n := n) ht; omega) (by have := (dp_le.1 h2).2 t ht; omega)
  refine ⟨?_, e⟩
  rw [e]
  rcases ln_inv h4 with ⟨rfl, g2, rfl⟩ | ⟨rfl, g2, rfl⟩ | ⟨rfl, rfl, x, y, rfl, g2, g3, _⟩ | ⟨rfl, g2, x, rfl, g3⟩
  · simp at ht
  · simp at ht
  · simp only [List.mem_cons, List.not_mem_nil, or_false] at ht
    rcases ht with rfl | rfl <;> omega
  · simp only [List.mem_cons, List.not_mem_nil, or_false] at ht
    subst ht; omega
/-- a product -/
def prd (l : List Nat) : Nat := l.foldr (· * ·) 1
theorem prd_cons (a : Nat) (l : List Nat) : prd (a :: l) = a * prd l := rfl
theorem prd_append (l m : List Nat) : prd (l ++ m) = prd l * prd m := by
  induction l with
  | nil => show _ = 1 * _; rw [Nat.one_mul]; rfl
  | cons a l ih => rw [List.cons_append, prd_cons, prd_cons, ih, Nat.mul_assoc]
theorem prd_pos {l : List Nat} (h : ∀ a ∈ l, 1 ≤ a) : 1 ≤ prd l := by
  induction l with
  | nil => exact Nat.le_refl _
  | cons a l ih =>
    rw [prd_cons]
    exact Nat.mul_le_mul (h a (by simp)) (ih fun b hb => h b (by simp [hb]))
theorem prd_take {l : List Nat} (h : ∀ a ∈ l, 1 ≤ a) (i : Nat) : prd (l.take i) ≤ prd l := by
  have e : prd l = prd (l.take i) * prd (l.drop i) := by rw [← prd_append, List.take_append_drop]
  rw [e]
  have := Nat.mul_le_mul (Nat.le_refl (prd (l.take i))) (prd_pos (l := l.drop i) fun b hb => h b (List.mem_of_mem_drop hb))
  omega
theorem prd_snoc {l : List Nat} {i a : Nat} (h : l[i]? = some a) : prd (l.take (i + 1)) = prd (l.take i) * a := by
  obtain ⟨hi, e⟩ := List.getElem?_eq_some_iff.1 h
  rw [List.take_succ_eq_append_getElem hi, prd_append, e]
  show _ * (a * 1) = _
  rw [Nat.mul_one]
/-- without Bluestein's way: the length is the product of the leaves', the depth at most their number -/
theorem lv_prod (t : Tr) : 0 < ln t → bl t = false → prd ((lv t).map fun l => l.n.toNat) = ln t ∧ dp t ≤ (lv t).length ∧ ∀ l ∈ lv t, 1 ≤ l.n ∧ l.n ≤ 64 := by
  refine ind (P := fun t => 0 < ln t → bl t = false → prd ((lv t).map fun l => l.n.toNat) = ln t ∧ dp t ≤ (lv t).length ∧ ∀ l ∈ lv t, 1 ≤ l.n ∧ l.n ≤ 64) (fun k n ks ih h hb => ?_) t
  have leaf : ∀ k n : Int, (1 ≤ n ∧ n ≤ 64) → ln ⟨k, n, []⟩ = n.toNat → prd ((lv ⟨k, n, []⟩).map fun l => l.n.toNat) = ln ⟨k, n, []⟩ ∧ dp ⟨k, n, []⟩ ≤ (lv ⟨k, n, []⟩).length ∧ ∀ l ∈ lv ⟨k, n, []⟩, 1 ≤ l.n ∧ l.n ≤ 64 := fun k n h1 h2 => by
    have e : lv ⟨k, n, []⟩ = [⟨k, n, []⟩] := by rw [lv_eq, if_pos rfl]
    rw [e, h2]
    refine ⟨Nat.mul_one _, ?_, fun l hl => ?_⟩
    · rw [dp_eq]; exact Nat.le_refl _
    · rw [List.mem_singleton.1 hl]; exact h1
  rcases ln_inv h with ⟨rfl, h2, rfl⟩ | ⟨rfl, h2, rfl⟩ | ⟨rfl, rfl, x, y, rfl, h2, h3, h4⟩ | ⟨rfl, h2, x, rfl, h3⟩
  · refine leaf 1 n h2 ?_
    rw [ln_eq]
    unfold lnc
    rw [if_pos rfl, if_pos ⟨h2.1, h2.2, rfl⟩]
  · refine leaf 2 n ⟨by omega, by omega⟩ ?_
    rw [ln_eq]
    unfold lnc
    rw [if_neg (by decide), if_pos rfl, if_pos ⟨h2.1, h2.2, rfl⟩]
  · have bx : ∀ u ∈ [x, y], bl u = false := fun u hu => by
      cases e : bl u with
      | false => rfl
      | true => rw [bl_kid hu e] at hb; cases hb
    obtain ⟨px, dx, ax⟩ := ih x (by simp) (by omega) (bx x (by simp))
    obtain ⟨py, dy, ay⟩ := ih y (by simp) (by omega) (bx y (by simp))
    have e : lv ⟨3, 0, [x, y]⟩ = lv x ++ lv y := by rw [lv_eq, if_neg (by simp)]; simp
    rw [e, ← h4, List.map_append, prd_append, px, py]
    refine ⟨rfl, ?_, fun l hl => ?_⟩
    · rw [List.length_append]
      have px := dp_pos x
      have py := dp_pos y
      exact dp_le.2 ⟨by omega, fun u hu => by
        simp only [List.mem_cons, List.not_mem_nil, or_false] at hu
        rcases hu with rfl | rfl <;> omega⟩
    · rcases List.mem_append.1 hl with hl | hl
      · exact ax l hl
      · exact ay l hl
  · rw [bl_eq] at hb
    exact absurd (Bool.or_eq_false_iff.1 hb).2 (by decide)
end Tr
end Go.Proofs.YtfoblbpbhldngaaDoor
