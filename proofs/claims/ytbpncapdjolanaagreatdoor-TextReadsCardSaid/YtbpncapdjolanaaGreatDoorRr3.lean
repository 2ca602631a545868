/-
  The document's ParsePlain, as a plain function.
-/
import Derived.Test.YtbpncapdjolanaaGreatDoorRr2
import Derived.Test.YtbpncapdjolanaaGreatDoorPsp
namespace Go.Proofs.YtbpncapdjolanaaGreatDoor
open Flo Go.RowKit
def cx3 (l : List UInt8) : Int × List UInt8 × Bool :=
  let t := (cut1 45 l).1
  ((if (cut1 45 l).2 then -(exg (t.take (Dg.rl t)) : Int) else (exg (t.take (Dg.rl t)) : Int)), t.drop (Dg.rl t), decide (0 < Dg.rl t))
def xpo3 (l : List UInt8) : Int × List UInt8 × Bool := if (cut1 101 l).2 then cx3 (cut1 101 l).1 else (0, l, true)
/-- the exponent's stage -/
def P2 (mi : Bool) (acc : List UInt8) (k : Nat) (t2 : List UInt8) : Option (Bool × List UInt8 × Int) :=
  if (xpo3 t2).2.2 = false then none else if (xpo3 t2).2.1 ≠ [] then none else some (mi, acc, (xpo3 t2).1 - (k : Int))
/-- a decimal text, its exponent brought to 100000 -/
def pr3 (l : List UInt8) : Option (Bool × List UInt8 × Int) :=
  if 400 < l.length then none else
  if Dg.rl (cut1 45 l).1 = 0 then none else
  if (fra ((cut1 45 l).1.drop (Dg.rl (cut1 45 l).1))).2.2 = false then none else
  P2 (cut1 45 l).2 ((cut1 45 l).1.take (Dg.rl (cut1 45 l).1) ++ (fra ((cut1 45 l).1.drop (Dg.rl (cut1 45 l).1))).1) (fra ((cut1 45 l).1.drop (Dg.rl (cut1 45 l).1))).1.length (fra ((cut1 45 l).1.drop (Dg.rl (cut1 45 l).1))).2.1
theorem xp_rel (t : List UInt8) : (xpo3 t).2 = (xpo t).2 ∧ ((xpo3 t).1 = (xpo t).1 ∨ ((xpo t).1 = 9999 ∧ 9999 ≤ (xpo3 t).1) ∨ ((xpo t).1 = -9999 ∧ (xpo3 t).1 ≤ -9999)) := by
  unfold xpo3 xpo
  split
  · unfold cx3 cx
    refine ⟨rfl, ?_⟩
    simp only
    rw [exg_min, exf_min]
    split <;> omega
  · exact ⟨rfl, .inl rfl⟩
/-- the two parses -/
theorem pr3_prs (l : List UInt8) : (prs l = none ∧ pr3 l = none) ∨ ∃ mi ds p p', prs l = some (mi, ds, p) ∧ pr3 l = some (mi, ds, p') ∧ (p' = p ∨ (9000 ≤ p ∧ 9000 ≤ p') ∨ (p ≤ -9999 ∧ p' ≤ -9999)) := by
  unfold prs pr3
  by_cases h1 : 400 < l.length
  · left; rw [if_pos h1, if_pos h1]; exact ⟨rfl, rfl⟩
  · rw [if_neg h1, if_neg h1]
    simp only
    have hf := fra_ok (l := (cut1 45 l).1.drop (Dg.rl (cut1 45 l).1))
    have hc := cut1_len 45 l
    have hr := Dg.rl_le (cut1 45 l).1
    have hl1 : ((cut1 45 l).1.drop (Dg.rl (cut1 45 l).1)).length ≤ 400 := by rw [List.length_drop]; omega
    generalize fra ((cut1 45 l).1.drop (Dg.rl (cut1 45 l).1)) = f at *
    by_cases h2 : Dg.rl (cut1 45 l).1 = 0
    · left; rw [if_pos h2, if_pos h2]; exact ⟨rfl, rfl⟩
    · rw [if_neg h2, if_neg h2]
      by_cases h3 : f.2.2 = false
      · left; rw [if_pos h3, if_pos h3]; exact ⟨rfl, rfl⟩
      · rw [if_neg h3, if_neg h3]
        unfold P2
        obtain ⟨x1, x2⟩ := xp_rel f.2.1
        rw [x1]
        by_cases h4 : (xpo f.2.1).2.2 = false
        · left; rw [if_pos h4, if_pos h4]; exact ⟨rfl, rfl⟩
        · rw [if_neg h4, if_neg h4]
          by_cases h5 : (xpo f.2.1).2.1 ≠ []
          · left; rw [if_pos h5, if_pos h5]; exact ⟨rfl, rfl⟩
          · rw [if_neg h5, if_neg h5]
            right
            refine ⟨_, _, _, _, rfl, rfl, ?_⟩
            have := hf.2.1
            omega
/-- read alike -/
theorem sp_rel {D p p'} {s s' L : Nat} (hL : D < 10 ^ L) (hL2 : L ≤ 1000) (h : Rd.Sp D p s) (h' : Rd.Sp D p' s') (hp : p' = p ∨ (9000 ≤ p ∧ 9000 ≤ p') ∨ (p ≤ -9999 ∧ p' ≤ -9999)) : (s < Rd.inf ∧ s = s') ∨ (Rd.inf ≤ s ∧ Rd.inf ≤ s') := by
  by_cases h0 : D = 0
  · subst h0
    have e1 := h.uniq (Rd.sp_zero p)
    have e2 := h'.uniq (Rd.sp_zero p')
    rcases e1 with ⟨a, b⟩ | ⟨_, b⟩
    · rcases e2 with ⟨c, d⟩ | ⟨_, d⟩
      · left; omega
      · exact absurd d (by decide)
    · exact absurd b (by decide)
  · rcases hp with rfl | ⟨h1, h2⟩ | ⟨h1, h2⟩
    · exact h.uniq h'
    · have e1 := h.uniq (Rd.sp_big (L := 0) (s := Rd.inf) (by omega) (by omega) (Nat.le_refl _))
      have e2 := h'.uniq (Rd.sp_big (L := 0) (s := Rd.inf) (by omega) (by omega) (Nat.le_refl _))
      right; omega
    · have e1 := h.uniq (Rd.sp_tiny (L := L) (by omega) hL (by omega))
      have e2 := h'.uniq (Rd.sp_tiny (L := L) (by omega) hL (by omega))
      rcases e1 with ⟨a, b⟩ | ⟨_, b⟩
      · rcases e2 with ⟨c, d⟩ | ⟨_, d⟩
        · left; omega
        · exact absurd d (by decide)
      · exact absurd b (by decide)
/-- stages by places -/
theorem drop1 {l : List UInt8} {i : Nat} {c : UInt8} (h : l[i]? = some c) : l.drop i = c :: l.drop (i + 1) := by
  rw [List.drop_eq_getElem?_toList_append, h]; rfl
theorem cut1_at {l : List UInt8} {i : Nat} {c x : UInt8} (h : l[i]? = some c) : cut1 x (l.drop i) = if c = x then (l.drop (i + 1), true) else (l.drop i, false) := by
  rw [drop1 h]
  unfold cut1
  simp only
theorem P2_end (mi : Bool) (acc : List UInt8) (k : Nat) : P2 mi acc k [] = some (mi, acc, -(k : Int)) := by
  unfold P2
  have e : xpo3 [] = (0, [], true) := rfl
  rw [e, if_neg (by simp), if_neg (by simp)]
  simp
theorem P2_no (mi : Bool) (acc : List UInt8) (k : Nat) {t : List UInt8} (h : cut1 101 t = (t, false)) (hne : t ≠ []) : P2 mi acc k t = none := by
  unfold P2
  have e : xpo3 t = (0, t, true) := by unfold xpo3; rw [h, if_neg (by simp)]
  rw [e, if_neg (by simp), if_pos hne]
theorem P2_e (mi : Bool) (acc : List UInt8) (k : Nat) {t u v : List UInt8} {m : Bool} (h : cut1 101 t = (u, true)) (h2 : cut1 45 u = (v, m)) :
    P2 mi acc k t = if Dg.rl v = 0 then none else if v.drop (Dg.rl v) ≠ [] then none else some (mi, acc, (if m then -(exg (v.take (Dg.rl v)) : Int) else (exg (v.take (Dg.rl v)) : Int)) - (k : Int)) := by
  unfold P2
  have e : xpo3 t = cx3 u := by unfold xpo3; rw [h, if_pos rfl]
  have e2 : cx3 u = ((if m then -(exg (v.take (Dg.rl v)) : Int) else (exg (v.take (Dg.rl v)) : Int)), v.drop (Dg.rl v), decide (0 < Dg.rl v)) := by unfold cx3; rw [h2]
  rw [e, e2]
  simp only
  by_cases h0 : Dg.rl v = 0
  · rw [if_pos (decide_eq_false (by omega)), if_pos h0]
  · rw [if_neg (by rw [decide_eq_true (by omega)]; simp), if_neg h0]
/-- the first stage -/
theorem pr3_no {l t : List UInt8} {mi : Bool} (hl : l.length ≤ 400) (h : cut1 45 l = (t, mi)) (h0 : Dg.rl t = 0) : pr3 l = none := by
  unfold pr3; rw [if_neg (by omega), h]; simp only; rw [if_pos h0]
theorem pr3_plain {l t : List UInt8} {mi : Bool} (hl : l.length ≤ 400) (h : cut1 45 l = (t, mi)) (h0 : Dg.rl t ≠ 0) (hd : cut1 46 (t.drop (Dg.rl t)) = (t.drop (Dg.rl t), false)) : pr3 l = P2 mi (t.take (Dg.rl t)) 0 (t.drop (Dg.rl t)) := by
  unfold pr3; rw [if_neg (by omega), h]; simp only
  have e : fra (t.drop (Dg.rl t)) = ([], t.drop (Dg.rl t), true) := by unfold fra; rw [hd, if_neg (by simp)]
  rw [if_neg h0, e]
  simp
theorem pr3_dot0 {l t r : List UInt8} {mi : Bool} (hl : l.length ≤ 400) (h : cut1 45 l = (t, mi)) (h0 : Dg.rl t ≠ 0) (hd : cut1 46 (t.drop (Dg.rl t)) = (r, true)) (hr : Dg.rl r = 0) : pr3 l = none := by
  unfold pr3; rw [if_neg (by omega), h]; simp only
  have e : fra (t.drop (Dg.rl t)) = (r.take (Dg.rl r), r.drop (Dg.rl r), decide (0 < Dg.rl r)) := by unfold fra; rw [hd, if_pos rfl]
  rw [if_neg h0, e, if_pos (decide_eq_false (by omega))]
theorem pr3_dot {l t r : List UInt8} {mi : Bool} (hl : l.length ≤ 400) (h : cut1 45 l = (t, mi)) (h0 : Dg.rl t ≠ 0) (hd : cut1 46 (t.drop (Dg.rl t)) = (r, true)) (hr : Dg.rl r ≠ 0) : pr3 l = P2 mi (t.take (Dg.rl t) ++ r.take (Dg.rl r)) (Dg.rl r) (r.drop (Dg.rl r)) := by
  unfold pr3; rw [if_neg (by omega), h]; simp only
  have e : fra (t.drop (Dg.rl t)) = (r.take (Dg.rl r), r.drop (Dg.rl r), decide (0 < Dg.rl r)) := by unfold fra; rw [hd, if_pos rfl]
  have e2 : (r.take (Dg.rl r)).length = Dg.rl r := by rw [List.length_take]; have := Dg.rl_le r; omega
  rw [if_neg h0, e]
  simp only
  rw [if_neg (by rw [decide_eq_true (by omega)]; simp), e2]
end Go.Proofs.YtbpncapdjolanaaGreatDoor
