/-
  Package steps: inForm.
-/
import Derived.Test.YtedfjedmapimnaaDoorSp5
namespace Go.Proofs.YtedfjedmapimnaaDoor
open Flo Go.RowKit
theorem inf_hd {p : Sp.Pg} {k : Nat} (hk : k < 4) (h : Sp.wi ((Sp.hd p).getD k 0) 0 262144 = false) : Sp.inf p = false := by
  cases e : Sp.inf p with
  | false => rfl
  | true =>
    obtain ⟨h1, _⟩ := Sp.inf_parts e
    have hl : (Sp.hd p).length = 4 := rfl
    have hm : (Sp.hd p).getD k 0 ∈ Sp.hd p := by
      rw [List.getD_eq_getElem?_getD, List.getElem?_eq_getElem (by rw [hl]; exact hk)]
      exact List.getElem_mem _
    rw [Sp.wi_iff.2 (h1 _ hm)] at h
    cases h
theorem inf_len {p : Sp.Pg} (h : 65536 < p.steps.length) : Sp.inf p = false := by
  cases e : Sp.inf p with
  | false => rfl
  | true => obtain ⟨_, h1, _⟩ := Sp.inf_parts e; omega
theorem inf_st {p : Sp.Pg} {i : Nat} {s : Sp.St} (hi : p.steps[i]? = some s) (h : Sp.fm s = false) : Sp.inf p = false := by
  cases e : Sp.inf p with
  | false => rfl
  | true =>
    obtain ⟨_, _, h1⟩ := Sp.inf_parts e
    rw [h1 s (List.mem_of_getElem? hi)] at h
    cases h
theorem inf_all {p : Sp.Pg} (h1 : ∀ k, k < 4 → Sp.wi ((Sp.hd p).getD k 0) 0 262144 = true) (h2 : p.steps.length ≤ 65536) (h3 : ∀ (i : Nat) (s : Sp.St), p.steps[i]? = some s → Sp.fm s = true) : Sp.inf p = true := by
  simp only [Sp.inf, Bool.and_eq_true, List.all_eq_true, decide_eq_true_eq]
  refine ⟨fun x hx => ?_, h2, fun s hs => ?_⟩
  · obtain ⟨i, hi, e⟩ := List.mem_iff_getElem.1 hx
    have hl : (Sp.hd p).length = 4 := rfl
    have := h1 i (by rw [← hl]; exact hi)
    rw [List.getD_eq_getElem?_getD, List.getElem?_eq_getElem hi] at this
    rw [← e]; exact this
  · obtain ⟨i, hi, e⟩ := List.mem_iff_getElem.1 hs
    exact h3 i s (by rw [List.getElem?_eq_getElem hi, e])
end Go.Proofs.YtedfjedmapimnaaDoor
