/-
  Layer 12, plain: a text's beginnings: where they don't fit.
-/
import Derived.Test.YtfoblbpbhldngaaDoorOd9
namespace Go.Proofs.YtfoblbpbhldngaaDoor
open Tr
open Lib (decDigits)
namespace Ps
open Dg (rl dv isD tz)
theorem rl_take : ∀ (l : List UInt8) (i : Nat), rl (l.take i) = min i (rl l)
  | [], i => by simp [rl]
  | _ :: _, 0 => by simp [rl]
  | b :: l, i + 1 => by
    rw [List.take_succ_cons]
    have ih := rl_take l i
    unfold rl at ih ⊢
    by_cases h : isD b = true
    · rw [List.takeWhile_cons, List.takeWhile_cons, if_pos h, if_pos h, List.length_cons, List.length_cons, ih]; omega
    · rw [List.takeWhile_cons, List.takeWhile_cons, if_neg h, if_neg h]; simp
theorem dc_cut (l : List UInt8) (i : Nat) : dc (l.take i) = min i (dc l) := by
  cases i with
  | zero => simp [dc, rl]
  | succ i =>
    have e : (l.take (i + 1)).head? = l.head? := by cases l <;> simp
    unfold dc
    rw [e, rl_take]
    by_cases h : l.head? = some 48
    · rw [if_pos h, if_pos h]; omega
    · rw [if_neg h, if_neg h]; omega
theorem nv_cut {l : List UInt8} {i : Nat} (h : dc l ≤ i) : nv (l.take i) = nv l := by
  unfold nv
  rw [dc_cut, Nat.min_eq_right h, List.take_take, Nat.min_eq_left h]
theorem mt_cut : ∀ (t l : List UInt8) (i : Nat), mt t (l.take i) = min i (mt t l)
  | [], l, i => by simp [mt]
  | _ :: _, [], i => by simp [mt]
  | _ :: _, _ :: _, 0 => by simp [mt]
  | a :: t, b :: l, i + 1 => by
    rw [List.take_succ_cons]
    show (if a = b then mt t (l.take i) + 1 else 0) = min (i + 1) (if a = b then mt t l + 1 else 0)
    by_cases h : a = b
    · rw [if_pos h, if_pos h, mt_cut t l i]; omega
    · rw [if_neg h, if_neg h]; omega
theorem mt_cutd (t l : List UInt8) (i c : Nat) : mt t ((l.take i).drop c) = min (i - c) (mt t (l.drop c)) := by
  rw [List.drop_take, mt_cut]
/-- how a reading of a beginning ends -/
def Cut (i : Nat) (full res : Option Tr × Nat) : Prop := (full.2 ≤ i → res = full) ∧ (i < full.2 → res.2 = i)
theorem cut_of {i : Nat} {o o' : Option Tr} {c c' : Nat} (h1 : c ≤ i → o' = o ∧ c' = c) (h2 : i < c → c' = i) : Cut i (o, c) (o', c') :=
  ⟨fun h => by rw [(h1 h).1, (h1 h).2], h2⟩
theorem po_cut : ∀ (m : Nat) (l : List UInt8) (i : Nat), Cut i (po m l) (po m (l.take i))
  | 0, l, i => ⟨fun _ => rfl, fun h => absurd h (Nat.not_lt_zero _)⟩
  | m + 1, [], i => by
    rw [List.take_nil]
    exact ⟨fun _ => rfl, fun h => absurd h (Nat.not_lt_zero _)⟩
  | m + 1, b :: r, 0 => by
    rw [List.take_zero]
    refine ⟨fun h => ?_, fun _ => rfl⟩
    have h0 : (po (m + 1) (b :: r)).2 = 0 := Nat.le_zero.1 h
    rw [po] at h0 ⊢
    by_cases h1 : b = 100 ∨ b = 102
    · rw [if_pos h1] at h0
      split at h0 <;> simp at h0
    · rw [if_neg h1] at h0 ⊢
      by_cases h2 : b = 40
      · rw [if_pos h2] at h0
        split at h0
        · simp at h0
        · split at h0
          · simp at h0
          · split at h0
            · simp at h0
            · split at h0 <;> simp at h0
      · rw [if_neg h2] at h0 ⊢
        by_cases h3 : b = 98
        · rw [if_pos h3] at h0
          split at h0
          · simp at h0
          · split at h0
            · simp at h0
            · split at h0
              · simp at h0
              · split at h0 <;> simp at h0
        · rw [if_neg h3]; rfl
  | m + 1, b :: r, i + 1 => by
    have ihm := po_cut m
    rw [List.take_succ_cons, po, po]
    by_cases h1 : b = 100 ∨ b = 102
    · rw [if_pos h1, if_pos h1, dc_cut]
      by_cases h2 : dc r = 0
      · rw [if_pos h2, if_pos (by omega)]
        exact cut_of (fun _ => ⟨rfl, rfl⟩) (fun h => by omega)
      · rw [if_neg h2]
        by_cases h3 : dc r ≤ i
        · rw [nv_cut h3, Nat.min_eq_right h3, if_neg h2]
          exact cut_of (fun _ => ⟨rfl, rfl⟩) (fun h => by omega)
        · by_cases h4 : min i (dc r) = 0
          · rw [if_pos h4]
            exact cut_of (fun h => by omega) (fun h => by omega)
          · rw [if_neg h4]
            exact cut_of (fun h => by omega) (fun h => by omega)
    · rw [if_neg h1, if_neg h1]
      by_cases h2 : b = 40
      · rw [if_pos h2, if_pos h2]
        have c1 := ihm r i
        cases hp : po m r with
        | mk o c =>
          cases hp' : po m (r.take i) with
          | mk o' c' =>
            rw [hp, hp'] at c1
            by_cases hc : c ≤ i
            · have e := c1.1 hc
              cases e
              cases o with
              | none => exact cut_of (fun _ => ⟨rfl, rfl⟩) (fun h => by omega)
              | some x =>
                simp only [mt_cutd]
                have hs := mt_le1 sx (r.drop c)
                have hs' : mt sx (r.drop c) ≤ 3 := hs
                by_cases h3 : mt sx (r.drop c) < 3
                · rw [if_pos h3, if_pos (by omega)]
                  exact cut_of (fun h => ⟨rfl, by omega⟩) (fun h => by omega)
                · rw [if_neg h3]
                  by_cases h4 : i < c + 3
                  · rw [if_pos (by omega)]
                    have hlt : ∀ F : Option Tr × Nat, c + 3 < F.2 → Cut (i + 1) F (none, 1 + (c + min (i - c) (mt sx (r.drop c)))) := fun F hF => ⟨fun h => by omega, fun h => by show 1 + (c + min (i - c) (mt sx (r.drop c))) = i + 1; omega⟩
                    refine hlt _ ?_
                    cases po m (r.drop (c + 3)) with
                    | mk o2 d =>
                      cases o2 with
                      | none => show c + 3 < 1 + (c + 3 + d); omega
                      | some y =>
                        simp only
                        split <;> simp only <;> omega
                  · rw [if_neg (by omega), List.drop_take]
                    have c2 := ihm (r.drop (c + 3)) (i - (c + 3))
                    cases hq : po m (r.drop (c + 3)) with
                    | mk o2 d =>
                      cases hq' : po m ((r.drop (c + 3)).take (i - (c + 3))) with
                      | mk o2' d' =>
                        rw [hq, hq'] at c2
                        by_cases hd : d ≤ i - (c + 3)
                        · have e := c2.1 hd
                          cases e
                          cases o2 with
                          | none => exact cut_of (fun _ => ⟨rfl, rfl⟩) (fun h => by omega)
                          | some y =>
                            simp only
                            have hs2 := mt_le1 [41] (r.drop (c + 3 + d))
                            have hs2' : mt [41] (r.drop (c + 3 + d)) ≤ 1 := hs2
                            by_cases h5 : mt [41] (r.drop (c + 3 + d)) < 1
                            · rw [if_pos h5, if_pos (by omega)]
                              exact cut_of (fun _ => ⟨rfl, rfl⟩) (fun h => by omega)
                            · rw [if_neg h5]
                              by_cases h6 : min (i - (c + 3 + d)) (mt [41] (r.drop (c + 3 + d))) < 1
                              · rw [if_pos h6]
                                exact cut_of (fun h => by omega) (fun h => by omega)
                              · rw [if_neg h6]
                                exact cut_of (fun _ => ⟨rfl, rfl⟩) (fun h => by omega)
                        · have e : d' = i - (c + 3) := c2.2 (by show _ < d; omega)
                          have hlt : ∀ F G : Option Tr × Nat, c + 3 + d < F.2 → G.2 = i + 1 → Cut (i + 1) F G := fun F G hF hG => ⟨fun h => by omega, fun _ => hG⟩
                          refine hlt _ _ ?_ ?_
                          · cases o2 with
                            | none => show c + 3 + d < 1 + (c + 3 + d); omega
                            | some y =>
                              simp only
                              split <;> simp only <;> omega
                          · cases o2' with
                            | none => show 1 + (c + 3 + d') = i + 1; omega
                            | some y =>
                              simp only
                              rw [if_pos (by omega)]
                              show 1 + (c + 3 + d') = i + 1; omega
            · have e : c' = i := c1.2 (by show _ < c; omega)
              have hlt : ∀ F G : Option Tr × Nat, c < F.2 → G.2 = i + 1 → Cut (i + 1) F G := fun F G hF hG => ⟨fun h => by omega, fun _ => hG⟩
              refine hlt _ _ ?_ ?_
              · cases o with
                | none => show c < 1 + c; omega
                | some x =>
                  simp only
                  by_cases h3 : mt sx (r.drop c) < 3
                  · rw [if_pos h3]; simp only; omega
                  · rw [if_neg h3]
                    cases po m (r.drop (c + 3)) with
                    | mk o2 d =>
                      cases o2 with
                      | none => show c < 1 + (c + 3 + d); omega
                      | some y =>
                        simp only
                        split <;> simp only <;> omega
              · cases o' with
                | none => show 1 + c' = i + 1; omega
                | some x =>
                  simp only [mt_cutd]
                  rw [if_pos (by omega)]
                  show 1 + (c' + min (i - c') (mt sx (r.drop c'))) = i + 1; omega
      · rw [if_neg h2, if_neg h2]
        by_cases h3 : b = 98
        · rw [if_pos h3, if_pos h3, dc_cut]
          by_cases h4 : dc r = 0
          · rw [if_pos h4, if_pos (by omega)]
            exact cut_of (fun _ => ⟨rfl, rfl⟩) (fun h => by omega)
          · rw [if_neg h4]
            have hlt : ∀ F G : Option Tr × Nat, i + 1 < F.2 → G.2 = i + 1 → Cut (i + 1) F G := fun F G hF hG => ⟨fun h => by omega, fun _ => hG⟩
            by_cases h5 : dc r ≤ i
            · rw [nv_cut h5, Nat.min_eq_right h5, if_neg h4, mt_cutd]
              have hs := mt_le1 [40] (r.drop (dc r))
              have hs' : mt [40] (r.drop (dc r)) ≤ 1 := hs
              by_cases h6 : mt [40] (r.drop (dc r)) < 1
              · rw [if_pos h6, if_pos (by omega)]
                exact cut_of (fun _ => ⟨rfl, rfl⟩) (fun h => by omega)
              · rw [if_neg h6]
                by_cases h7 : i < dc r + 1
                · rw [if_pos (by omega)]
                  refine hlt _ _ ?_ (by show 1 + dc r = i + 1; omega)
                  cases po m (r.drop (dc r + 1)) with
                  | mk o c =>
                    cases o with
                    | none => show i + 1 < 1 + (dc r + 1 + c); omega
                    | some x =>
                      simp only
                      split <;> simp only <;> omega
                · rw [if_neg (by omega), List.drop_take]
                  have c2 := ihm (r.drop (dc r + 1)) (i - (dc r + 1))
                  cases hq : po m (r.drop (dc r + 1)) with
                  | mk o2 d =>
                    cases hq' : po m ((r.drop (dc r + 1)).take (i - (dc r + 1))) with
                    | mk o2' d' =>
                      rw [hq, hq'] at c2
                      by_cases hd : d ≤ i - (dc r + 1)
                      · have e := c2.1 hd
                        cases e
                        cases o2 with
                        | none => exact cut_of (fun _ => ⟨rfl, rfl⟩) (fun h => by omega)
                        | some y =>
                          simp only [mt_cutd]
                          have hs2 := mt_le1 [41] (r.drop (dc r + 1 + d))
                          have hs2' : mt [41] (r.drop (dc r + 1 + d)) ≤ 1 := hs2
                          by_cases h8 : mt [41] (r.drop (dc r + 1 + d)) < 1
                          · rw [if_pos h8, if_pos (by omega)]
                            exact cut_of (fun _ => ⟨rfl, rfl⟩) (fun h => by omega)
                          · rw [if_neg h8]
                            by_cases h9 : min (i - (dc r + 1 + d)) (mt [41] (r.drop (dc r + 1 + d))) < 1
                            · rw [if_pos h9]
                              exact cut_of (fun h => by omega) (fun h => by omega)
                            · rw [if_neg h9]
                              exact cut_of (fun _ => ⟨rfl, rfl⟩) (fun h => by omega)
                      · have e : d' = i - (dc r + 1) := c2.2 (by show _ < d; omega)
                        refine hlt _ _ ?_ ?_
                        · cases o2 with
                          | none => show i + 1 < 1 + (dc r + 1 + d); omega
                          | some y =>
                            simp only
                            split <;> simp only <;> omega
                        · cases o2' with
                          | none => show 1 + (dc r + 1 + d') = i + 1; omega
                          | some y =>
                            simp only [mt_cutd]
                            rw [if_pos (by omega)]
                            show 1 + (dc r + 1 + d') = i + 1; omega
            · rw [Nat.min_eq_left (by omega)]
              refine hlt _ _ ?_ ?_
              · by_cases h6 : mt [40] (r.drop (dc r)) < 1
                · rw [if_pos h6]; simp only; omega
                · rw [if_neg h6]
                  cases po m (r.drop (dc r + 1)) with
                  | mk o c =>
                    cases o with
                    | none => show i + 1 < 1 + (dc r + 1 + c); omega
                    | some x =>
                      simp only
                      split <;> simp only <;> omega
              · by_cases h6 : i = 0
                · rw [if_pos h6]; simp only; omega
                · rw [if_neg h6, mt_cutd, if_pos (by omega)]
                  simp only; omega
        · rw [if_neg h3, if_neg h3]
          exact cut_of (fun _ => ⟨rfl, rfl⟩) (fun h => by omega)
/-- the place that a beginning's reading tells -/
theorem rd_cut (l : List UInt8) (i : Nat) : (rd (l.take i)).2 = min i (rd l).2 := by
  have h := po_cut (l.length + 1) l i
  have e : po ((l.take i).length + 1) (l.take i) = po (l.length + 1) (l.take i) := po_fuel _ _ _ (Nat.lt_succ_self _) (by rw [List.length_take]; omega)
  unfold rd kont pa
  simp only [List.drop_zero, Nat.zero_add, e]
  by_cases hc : (po (l.length + 1) l).2 ≤ i
  · rw [h.1 hc]; omega
  · rw [h.2 (by omega)]; omega
end Ps
end Go.Proofs.YtfoblbpbhldngaaDoor
