/-
  Layer 12, plain: the form of an order's text: what is read from a place on, the place where it doesn't fit; a reading with the orders that aren't ended in a list.
-/
import Derived.Test.YtfoblbpbhldngaaDoorOd5
namespace Go.Proofs.YtfoblbpbhldngaaDoor
open Tr
open Lib (decDigits)
namespace Ps
open Dg (rl dv isD)
/-- how many digits a number has that begins here (none: 0) -/
def dc (l : List UInt8) : Nat := if l.head? = some 48 then 0 else min 6 (rl l)
/-- the number that begins here -/
def nv (l : List UInt8) : Nat := dv (l.take (dc l))
/-- how much of t stands here -/
def mt : List UInt8 → List UInt8 → Nat
  | a :: t, b :: l => if a = b then mt t l + 1 else 0
  | _, _ => 0
theorem mt_le1 : ∀ (t l : List UInt8), mt t l ≤ t.length
  | [], _ => by simp [mt]
  | a :: t, [] => by simp [mt]
  | a :: t, b :: l => by
    unfold mt
    split
    · have := mt_le1 t l; simp; omega
    · simp
theorem mt_le2 : ∀ (t l : List UInt8), mt t l ≤ l.length
  | [], _ => by simp [mt]
  | a :: t, [] => by simp [mt]
  | a :: t, b :: l => by
    unfold mt
    split
    · have := mt_le2 t l; simp; omega
    · simp
theorem dc_le (l : List UInt8) : dc l ≤ l.length := by
  unfold dc
  split
  · omega
  · have := Dg.rl_le l; omega
/-- " x " -/
def sx : List UInt8 := [32, 120, 32]
/-- an order that begins here: what it is and how long; or none, and the place where it doesn't fit -/
def po : Nat → List UInt8 → Option Tr × Nat
  | 0, _ => (none, 0)
  | _ + 1, [] => (none, 0)
  | m + 1, b :: r =>
    if b = 100 ∨ b = 102 then (if dc r = 0 then (none, 1) else (some ⟨(if b = 100 then 1 else 2), nv r, []⟩, 1 + dc r))
    else if b = 40 then
      (match po m r with
      | (none, c) => (none, 1 + c)
      | (some x, c) => if mt sx (r.drop c) < 3 then (none, 1 + (c + mt sx (r.drop c))) else
        (match po m (r.drop (c + 3)) with
        | (none, d) => (none, 1 + (c + 3 + d))
        | (some y, d) => if mt [41] (r.drop (c + 3 + d)) < 1 then (none, 1 + (c + 3 + d)) else (some ⟨3, 0, [x, y]⟩, 1 + (c + 3 + d + 1))))
    else if b = 98 then
      (if dc r = 0 then (none, 1) else if mt [40] (r.drop (dc r)) < 1 then (none, 1 + dc r) else
        (match po m (r.drop (dc r + 1)) with
        | (none, c) => (none, 1 + (dc r + 1 + c))
        | (some x, c) => if mt [41] (r.drop (dc r + 1 + c)) < 1 then (none, 1 + (dc r + 1 + c)) else (some ⟨4, nv r, [x]⟩, 1 + (dc r + 1 + c + 1))))
    else (none, 0)
theorem mt_drop {t l : List UInt8} {c : Nat} (h : ¬ mt t (l.drop c) < t.length) : t.length ≤ l.length - c := by
  have := mt_le2 t (l.drop c)
  rw [List.length_drop] at this
  omega
theorem po_le : ∀ (m : Nat) (l : List UInt8), (po m l).2 ≤ l.length
  | 0, l => Nat.zero_le _
  | _ + 1, [] => Nat.zero_le _
  | m + 1, b :: r => by
    have hd := dc_le r
    unfold po
    rw [List.length_cons]
    split
    · split <;> simp <;> omega
    split
    · have h1 := po_le m r
      generalize po m r = P at *
      obtain ⟨o, c⟩ := P
      cases o with
      | none => simp only; simp only at h1; omega
      | some x =>
        simp only at h1 ⊢
        have h2 := mt_le2 sx (r.drop c)
        rw [List.length_drop] at h2
        split
        · simp only; omega
        · rename_i h3
          have h4 := po_le m (r.drop (c + 3))
          rw [List.length_drop] at h4
          have h5 : 3 ≤ r.length - c := by have : mt sx (r.drop c) ≤ 3 := mt_le1 sx _; omega
          generalize po m (r.drop (c + 3)) = Q at *
          obtain ⟨o2, d⟩ := Q
          cases o2 with
          | none => simp only; simp only at h4; omega
          | some y =>
            simp only at h4 ⊢
            have h6 := mt_le2 [41] (r.drop (c + 3 + d))
            rw [List.length_drop] at h6
            split
            · simp only; omega
            · simp only; omega
    split
    · split
      · simp only; omega
      split
      · simp only; omega
      · rename_i h3
        have h2 := mt_le2 [40] (r.drop (dc r))
        rw [List.length_drop] at h2
        have h4 := po_le m (r.drop (dc r + 1))
        rw [List.length_drop] at h4
        generalize po m (r.drop (dc r + 1)) = Q at *
        obtain ⟨o2, d⟩ := Q
        cases o2 with
        | none => simp only; simp only at h4; omega
        | some y =>
          simp only at h4 ⊢
          have h6 := mt_le2 [41] (r.drop (dc r + 1 + d))
          rw [List.length_drop] at h6
          split
          · simp only; omega
          · simp only; omega
    · simp only; omega
/-- more fuel than signs changes nothing -/
theorem po_fuel : ∀ (m m' : Nat) (l : List UInt8), l.length < m → l.length < m' → po m l = po m' l
  | 0, _, _, h, _ => by omega
  | _, 0, _, _, h => by omega
  | m + 1, m' + 1, [], _, _ => rfl
  | m + 1, m' + 1, b :: r, h1, h2 => by
    rw [List.length_cons] at h1 h2
    have e1 := po_fuel m m' r (by omega) (by omega)
    have e2 : ∀ c, po m (r.drop c) = po m' (r.drop c) := fun c => po_fuel m m' (r.drop c) (by rw [List.length_drop]; omega) (by rw [List.length_drop]; omega)
    unfold po
    simp only [e1, e2]
/-- the order that begins at the place p of l -/
def pa (l : List UInt8) (p : Nat) : Option Tr × Nat := ((po (l.length + 1) (l.drop p)).1, p + (po (l.length + 1) (l.drop p)).2)
/-- how a reading goes on behind an order, with the orders that aren't ended: the last one first -/
def kont (l : List UInt8) : List Tr → Option Tr × Nat → Option Tr × Nat
  | [], r => r
  | _ :: _, (none, p) => (none, p)
  | f :: S, (some o, p) =>
    if f.k = 3 ∧ f.ks.length = 0 then
      (if mt sx (l.drop p) < 3 then (none, p + mt sx (l.drop p)) else
        (match pa l (p + 3) with
        | (none, q) => (none, q)
        | (some y, q) => if mt [41] (l.drop q) < 1 then (none, q) else kont l S (some ⟨3, f.n, [o, y]⟩, q + 1)))
    else if mt [41] (l.drop p) < 1 then (none, p) else kont l S (some ⟨f.k, f.n, f.ks ++ [o]⟩, p + 1)
theorem kont_none (l : List UInt8) (S : List Tr) (p : Nat) : kont l S (none, p) = (none, p) := by cases S <;> rfl
theorem drop_at {l : List UInt8} {p : Nat} {b : UInt8} (h : l[p]? = some b) : l.drop p = b :: l.drop (p + 1) := by
  obtain ⟨hp, e⟩ := List.getElem?_eq_some_iff.1 h
  rw [← e]; exact List.drop_eq_getElem_cons hp
theorem po_at (l : List UInt8) {p m : Nat} (h : 0 < p) (hm : l.length ≤ m) : po m (l.drop p) = po (l.length + 1) (l.drop p) := by
  by_cases h0 : l.length = 0
  · have e : l = [] := List.length_eq_zero_iff.1 h0
    subst e
    cases m <;> simp [po]
  · exact po_fuel _ _ _ (by rw [List.length_drop]; omega) (by rw [List.length_drop]; omega)
theorem pa_none {l : List UInt8} {p : Nat} (h : l[p]? = none) : pa l p = (none, p) := by
  have e : l.drop p = [] := List.drop_eq_nil_of_le (List.getElem?_eq_none_iff.1 h)
  unfold pa
  rw [e]; rfl
theorem pa_leaf {l : List UInt8} {p : Nat} {b : UInt8} (h : l[p]? = some b) (hb : b = 100 ∨ b = 102) : pa l p = if dc (l.drop (p + 1)) = 0 then (none, p + 1) else (some ⟨(if b = 100 then 1 else 2), nv (l.drop (p + 1)), []⟩, p + (1 + dc (l.drop (p + 1)))) := by
  unfold pa
  rw [drop_at h, po, if_pos hb]
  split <;> rfl
theorem pa_bad {l : List UInt8} {p : Nat} {b : UInt8} (h : l[p]? = some b) (h1 : ¬ (b = 100 ∨ b = 102)) (h2 : b ≠ 40) (h3 : b ≠ 98) : pa l p = (none, p) := by
  unfold pa
  rw [drop_at h, po, if_neg h1, if_neg h2, if_neg h3]
  rfl
theorem k_times {l : List UInt8} {p : Nat} (S : List Tr) (h : l[p]? = some 40) : kont l S (pa l p) = kont l (⟨3, 0, []⟩ :: S) (pa l (p + 1)) := by
  have e0 : pa l (p + 1) = ((po l.length (l.drop (p + 1))).1, p + 1 + (po l.length (l.drop (p + 1))).2) := by unfold pa; rw [po_at l (Nat.succ_pos p) (Nat.le_refl _)]
  have e3 : ∀ c, pa l (p + 1 + c) = ((po l.length (l.drop (p + 1 + c))).1, p + 1 + c + (po l.length (l.drop (p + 1 + c))).2) := fun c => by unfold pa; rw [po_at l (by omega) (Nat.le_refl _)]
  have e1 : pa l p = ((po (l.length + 1) (40 :: l.drop (p + 1))).1, p + (po (l.length + 1) (40 :: l.drop (p + 1))).2) := by unfold pa; rw [drop_at h]
  rw [e0, e1, po, if_neg (by decide), if_pos rfl]
  generalize po l.length (l.drop (p + 1)) = P
  obtain ⟨o, c⟩ := P
  cases o with
  | none => simp only [kont_none]; rw [Nat.add_assoc]
  | some x =>
    have ed : (l.drop (p + 1)).drop c = l.drop (p + 1 + c) := by rw [List.drop_drop]
    have ed3 : (l.drop (p + 1)).drop (c + 3) = l.drop (p + 1 + c + 3) := by rw [List.drop_drop]; congr 1
    simp only [kont, List.length_nil, and_self, if_true, ed, ed3]
    by_cases hm : mt sx (l.drop (p + 1 + c)) < 3
    · rw [if_pos hm, if_pos hm]
      simp only [kont_none]
      congr 1; omega
    · rw [if_neg hm, if_neg hm]
      have e4 := e3 (c + 3)
      rw [show p + 1 + (c + 3) = p + 1 + c + 3 by omega] at e4
      rw [e4]
      generalize po l.length (l.drop (p + 1 + c + 3)) = Q
      obtain ⟨o2, d⟩ := Q
      cases o2 with
      | none => simp only [kont_none]; congr 1; omega
      | some y =>
        have ed5 : (l.drop (p + 1)).drop (c + 3 + d) = l.drop (p + 1 + c + 3 + d) := by rw [List.drop_drop]; congr 1; omega
        simp only [ed5]
        by_cases hm2 : mt [41] (l.drop (p + 1 + c + 3 + d)) < 1
        · rw [if_pos hm2, if_pos hm2]
          simp only [kont_none]
          congr 1; omega
        · rw [if_neg hm2, if_neg hm2]
          simp only
          congr 2; omega
theorem k_shut {l : List UInt8} {p : Nat} (f : Tr) (S : List Tr) (o : Tr) (hf : ¬ (f.k = 3 ∧ f.ks.length = 0)) (h : ¬ mt [41] (l.drop p) < 1) : kont l (f :: S) (some o, p) = kont l S (some ⟨f.k, f.n, f.ks ++ [o]⟩, p + 1) := by
  simp only [kont]
  rw [if_neg hf, if_neg h]
theorem k_shut_bad {l : List UInt8} {p : Nat} (f : Tr) (S : List Tr) (o : Tr) (hf : ¬ (f.k = 3 ∧ f.ks.length = 0)) (h : mt [41] (l.drop p) < 1) : kont l (f :: S) (some o, p) = (none, p) := by
  simp only [kont]
  rw [if_neg hf, if_pos h]
theorem k_blue {l : List UInt8} {p : Nat} (S : List Tr) (h : l[p]? = some 98) (h1 : dc (l.drop (p + 1)) ≠ 0) (h2 : ¬ mt [40] (l.drop (p + 1 + dc (l.drop (p + 1)))) < 1) :
    kont l S (pa l p) = kont l (⟨4, nv (l.drop (p + 1)), []⟩ :: S) (pa l (p + 1 + dc (l.drop (p + 1)) + 1)) := by
  have e1 : pa l p = ((po (l.length + 1) (98 :: l.drop (p + 1))).1, p + (po (l.length + 1) (98 :: l.drop (p + 1))).2) := by unfold pa; rw [drop_at h]
  have e3 : ∀ c, pa l (p + 1 + c) = ((po l.length (l.drop (p + 1 + c))).1, p + 1 + c + (po l.length (l.drop (p + 1 + c))).2) := fun c => by unfold pa; rw [po_at l (by omega) (Nat.le_refl _)]
  rw [e1, po, if_neg (by decide), if_neg (by decide), if_pos rfl]
  generalize dc (l.drop (p + 1)) = c at *
  have e4 := e3 (c + 1)
  rw [show p + 1 + (c + 1) = p + 1 + c + 1 by omega] at e4
  have ed : (l.drop (p + 1)).drop c = l.drop (p + 1 + c) := by rw [List.drop_drop]
  have ed2 : (l.drop (p + 1)).drop (c + 1) = l.drop (p + 1 + c + 1) := by rw [List.drop_drop]; congr 1
  rw [if_neg h1, ed, if_neg h2, e4, ed2]
  generalize po l.length (l.drop (p + 1 + c + 1)) = Q
  obtain ⟨o, d⟩ := Q
  cases o with
  | none => simp only [kont_none]; congr 1; omega
  | some x =>
    have ed5 : (l.drop (p + 1)).drop (c + 1 + d) = l.drop (p + 1 + c + 1 + d) := by rw [List.drop_drop]; congr 1; omega
    have hf : ∀ n : Int, ¬ ((⟨4, n, []⟩ : Tr).k = 3 ∧ (⟨4, n, []⟩ : Tr).ks.length = 0) := fun n hh => absurd hh.1 (show ¬ ((4 : Int) = 3) by decide)
    by_cases hm2 : mt [41] (l.drop (p + 1 + c + 1 + d)) < 1
    · rw [k_shut_bad _ S x (hf _) hm2]
      simp only [ed5, if_pos hm2, kont_none]
      congr 1; omega
    · rw [k_shut _ S x (hf _) hm2]
      simp only [ed5, if_neg hm2, List.nil_append]
      congr 2; omega
theorem pa_blue0 {l : List UInt8} {p : Nat} (h : l[p]? = some 98) (h1 : dc (l.drop (p + 1)) = 0) : pa l p = (none, p + 1) := by
  unfold pa
  rw [drop_at h, po, if_neg (by decide), if_neg (by decide), if_pos rfl, if_pos h1]
theorem pa_blue1 {l : List UInt8} {p : Nat} (h : l[p]? = some 98) (h1 : dc (l.drop (p + 1)) ≠ 0) (h2 : mt [40] (l.drop (p + 1 + dc (l.drop (p + 1)))) < 1) : pa l p = (none, p + 1 + dc (l.drop (p + 1))) := by
  unfold pa
  rw [drop_at h, po, if_neg (by decide), if_neg (by decide), if_pos rfl, if_neg h1, List.drop_drop, if_pos h2, Nat.add_assoc]
theorem k_first {l : List UInt8} {p : Nat} (S : List Tr) (n : Int) (o : Tr) (h : ¬ mt sx (l.drop p) < 3) : kont l (⟨3, n, []⟩ :: S) (some o, p) = kont l (⟨3, n, [o]⟩ :: S) (pa l (p + 3)) := by
  simp only [kont, List.length_nil, and_self, if_true]
  rw [if_neg h]
  generalize pa l (p + 3) = Q
  obtain ⟨o2, q⟩ := Q
  cases o2 with
  | none => rfl
  | some y =>
    have hf : ¬ ((⟨3, n, [o]⟩ : Tr).k = 3 ∧ (⟨3, n, [o]⟩ : Tr).ks.length = 0) := fun hh => absurd hh.2 (show ¬ ((1 : Nat) = 0) by decide)
    by_cases hm2 : mt [41] (l.drop q) < 1
    · rw [k_shut_bad _ S y hf hm2]
      simp only [if_pos hm2]
    · rw [k_shut _ S y hf hm2]
      simp only [if_neg hm2]
      rfl
theorem k_first_bad {l : List UInt8} {p : Nat} (S : List Tr) (n : Int) (o : Tr) (h : mt sx (l.drop p) < 3) : kont l (⟨3, n, []⟩ :: S) (some o, p) = (none, p + mt sx (l.drop p)) := by
  simp only [kont, List.length_nil, and_self, if_true]
  rw [if_pos h]
/-- the whole reading: what it ends with -/
def rd (l : List UInt8) : Option Tr × Nat := kont l [] (pa l 0)
end Ps
end Go.Proofs.YtfoblbpbhldngaaDoor
