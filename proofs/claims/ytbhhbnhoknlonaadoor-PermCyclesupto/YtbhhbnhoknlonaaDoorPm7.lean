/-
  Plain: how many places the cycles have, one after the other; the least of each.
-/
import Derived.Test.YtbhhbnhoknlonaaDoorPm6
namespace Go.Proofs.YtbhhbnhoknlonaaDoor
open Flo Go.RowKit
namespace Pm
/-- how many places below m are so -/
def cnt (f : Nat → Bool) : Nat → Nat
  | 0 => 0
  | m + 1 => cnt f m + (if f m then 1 else 0)
theorem cnt_le (f : Nat → Bool) : ∀ m, cnt f m ≤ m
  | 0 => Nat.le_refl _
  | m + 1 => by have := cnt_le f m; unfold cnt; split <;> omega
theorem cnt_congr {f g : Nat → Bool} : ∀ {m : Nat}, (∀ x, x < m → f x = g x) → cnt f m = cnt g m
  | 0, _ => rfl
  | m + 1, h => by unfold cnt; rw [cnt_congr (fun x hx => h x (by omega)), h m (by omega)]
theorem cnt_all {f : Nat → Bool} : ∀ {m : Nat}, (∀ x, x < m → f x = true) → cnt f m = m
  | 0, _ => rfl
  | m + 1, h => by unfold cnt; rw [cnt_all (fun x hx => h x (by omega)), h m (by omega)]; rfl
theorem cnt_none {f : Nat → Bool} : ∀ {m : Nat}, (∀ x, x < m → f x = false) → cnt f m = 0
  | 0, _ => rfl
  | m + 1, h => by unfold cnt; rw [cnt_none (fun x hx => h x (by omega)), h m (by omega)]; rfl
theorem cnt_step {f g : Nat → Bool} {y : Nat} (hf : f y = false) (hg : ∀ x, g x = (f x || (x == y))) : ∀ {m : Nat}, y < m → cnt g m = cnt f m + 1
  | 0, h => absurd h (by omega)
  | m + 1, h => by
    by_cases e : y = m
    · subst e
      have h1 : cnt g y = cnt f y := cnt_congr fun x hx => by rw [hg x, show (x == y) = false from beq_eq_false_iff_ne.2 (by omega), Bool.or_false]
      unfold cnt
      rw [h1, hg y, hf]
      simp
    · have h1 := cnt_step hf hg (show y < m by omega)
      unfold cnt
      rw [h1, hg m, show (m == y) = false from beq_eq_false_iff_ne.2 (fun c => e c.symm), Bool.or_false]
      omega
theorem Ok.it_ge {p : List Int} (h : Ok p) {y : Nat} (hy : y < p.length) (hs : sn p y y = false) (s : Nat) : y ≤ it p y s := by
  apply Nat.le_of_not_lt
  intro c
  have h1 : it p y s ∈ orb p y := (h.mem_orb hy).2 ⟨s, rfl⟩
  have h2 := h.orb_sym hy h1
  have : sn p y y = true := sn_iff.2 ⟨it p y s, c, h2⟩
  rw [hs] at this; cases this
theorem lp_mem_lt {p : List Int} {y L : Nat} (h : L ∈ lp p y) : L < y := by
  unfold lp at h
  exact List.mem_range.1 (List.mem_filter.1 h).1
theorem lp_at {p : List Int} {m t : Nat} (ht : t < (lp p m).length) : lp p ((lp p m)[t]) = (lp p m).take t ∧ (lp p m)[t] < m ∧ sn p ((lp p m)[t]) ((lp p m)[t]) = false := by
  have h : (lp p m).take t ++ [(lp p m)[t]] <+: lp p m := by
    rw [List.take_append_getElem ht]
    exact List.take_prefix _ _
  obtain ⟨a, b, c⟩ := lp_split h
  exact ⟨a.symm, b, c⟩
theorem Ok.sn_eq {p : List Int} (h : Ok p) {j k : Nat} (hj : j ≤ p.length) (hk : k ≤ p.length) (e : lp p j = lp p k) (y : Nat) : sn p j y = sn p k y := by
  have key : ∀ {a b : Nat}, a ≤ b → b ≤ p.length → lp p b = lp p a → sn p b y = sn p a y := fun {a b} hab hb e => by
    have := h.sn_lp (j := a) (d := b - a) (by omega) (by rw [show a + (b - a) = b by omega]; exact e) y
    rwa [show a + (b - a) = b by omega] at this
  rcases Nat.le_total j k with c | c
  · exact (key c hk e.symm).symm
  · exact key c hj e
theorem Ok.cnt_sx {p : List Int} (h : Ok p) {y s m : Nat} (hm : p.length = m) (hy : y < p.length) (hs : sn p y y = false) (ht : s < per p y) : cnt (sx p y (s + 1)) m = cnt (sx p y s) m + 1 :=
  cnt_step (y := it p y s) (h.sx_no hy hs ht) (fun x => sx_succ p y s x) (by rw [← hm]; exact h.it_lt hy s)
end Pm
end Go.Proofs.YtbhhbnhoknlonaaDoor
