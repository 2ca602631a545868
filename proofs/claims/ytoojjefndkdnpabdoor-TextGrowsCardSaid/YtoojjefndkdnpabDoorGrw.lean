/-
  What a number's digits with an exponent are read as. Plain.
-/
import Derived.Test.YtoojjefndkdnpabDoorWri
import Derived.Test.YtoojjefndkdnpabDoorPsp
namespace Go.Proofs.YtoojjefndkdnpabDoor
open Flo Go.RowKit
theorem rl_stop {ds r : List UInt8} {c : UInt8} (h : ∀ b ∈ ds, Dg.isD b = true) (hc : Dg.isD c = false) : Dg.rl (ds ++ c :: r) = ds.length := by
  unfold Dg.rl
  induction ds with
  | nil => simp [hc]
  | cons a l ih =>
    have h1 := h a List.mem_cons_self
    rw [List.cons_append, List.takeWhile_cons, if_pos h1, List.length_cons, List.length_cons, ih (fun b hb => h b (List.mem_cons_of_mem _ hb))]
theorem rl_full {ds : List UInt8} (h : ∀ b ∈ ds, Dg.isD b = true) : Dg.rl ds = ds.length := by
  unfold Dg.rl
  induction ds with
  | nil => rfl
  | cons a l ih =>
    have h1 := h a List.mem_cons_self
    rw [List.takeWhile_cons, if_pos h1, List.length_cons, List.length_cons, ih (fun b hb => h b (List.mem_cons_of_mem _ hb))]
theorem cut1_dig {ds r : List UInt8} (h : ∀ b ∈ ds, Dg.isD b = true) (hne : ds ≠ []) : cut1 45 (ds ++ r) = (ds ++ r, false) := by
  cases ds with
  | nil => exact absurd rfl hne
  | cons a l =>
    have h1 := h a List.mem_cons_self
    have hc : a ≠ 45 := by
      intro hc
      rw [hc] at h1
      exact absurd h1 (by decide)
    show (if a = 45 then (l ++ r, true) else (a :: (l ++ r), false)) = _
    rw [if_neg hc]
    rfl
/-- the exponent that is taken -/
def cl (x : Int) : Int := max (-9999) (min x 9999)
theorem cl_mono {x y : Int} (h : x ≤ y) : cl x ≤ cl y := by unfold cl; omega
theorem cx_text {x : Int} {el : List UInt8} (h : Ds x.natAbs el) : cx ((if x < 0 then [45] else []) ++ el) = (cl x, [], true) := by
  have hp : 0 < el.length := List.length_pos_iff.2 h.ne
  unfold cx cl
  by_cases hx : x < 0
  · rw [if_pos hx]
    have e : cut1 45 ([45] ++ el) = (el, true) := rfl
    rw [e]
    simp only
    rw [rl_full h.dig, List.take_length, List.drop_length, exf_min, h.val, if_pos trivial, decide_eq_true hp]
    congr 1
    omega
  · rw [if_neg hx, List.nil_append]
    have e := cut1_dig (r := []) h.dig h.ne
    rw [List.append_nil] at e
    rw [e]
    simp only
    rw [rl_full h.dig, List.take_length, List.drop_length, exf_min, h.val, decide_eq_true hp]
    congr 1
    rw [if_neg (by simp)]
    omega
/-- the whole text -/
def wtx (mi : Bool) (ds : List UInt8) (x : Int) (el : List UInt8) : List UInt8 := (if mi then [45] else []) ++ (ds ++ exl x el)
theorem prs_text (mi : Bool) {n : Nat} {ds el : List UInt8} {x : Int} (hd : Ds n ds) (he : Ds x.natAbs el) : prs (wtx mi ds x el) = some (mi, ds, cl x) := by
  have l1 := hd.len
  have l2 := he.len
  have hp : 0 < ds.length := List.length_pos_iff.2 hd.ne
  have hlen : (wtx mi ds x el).length ≤ 400 := by
    unfold wtx exl
    rw [List.length_append, List.length_append, List.length_cons, List.length_append]
    have a1 : (if mi then [(45 : UInt8)] else []).length ≤ 1 := by split <;> simp
    have a2 : (if x < 0 then [(45 : UInt8)] else []).length ≤ 1 := by split <;> simp
    omega
  have hc : cut1 45 (wtx mi ds x el) = (ds ++ exl x el, mi) := by
    cases mi with
    | true => rfl
    | false =>
      show cut1 45 ([] ++ (ds ++ exl x el)) = _
      rw [List.nil_append]
      exact cut1_dig hd.dig hd.ne
  have hr : Dg.rl (ds ++ exl x el) = ds.length := rl_stop hd.dig (by decide)
  have hf : fra (exl x el) = ([], exl x el, true) := by
    have e : cut1 46 (exl x el) = (exl x el, false) := rfl
    unfold fra
    rw [e, if_neg (by simp)]
  have hx : xpo (exl x el) = (cl x, [], true) := by
    have e : cut1 101 (exl x el) = ((if x < 0 then [45] else []) ++ el, true) := rfl
    unfold xpo
    rw [e, if_pos rfl]
    exact cx_text he
  unfold prs
  rw [if_neg (by omega), hc]
  simp only
  rw [hr, if_neg (by omega), List.drop_left, hf]
  simp only
  rw [hx]
  simp
theorem pp_text {mi : Bool} {n : Nat} {ds el : List UInt8} {x : Int} {et er v : Value} (hd : Ds n ds) (he : Ds x.natAbs el) (h : PP (wtx mi ds x el) et er v) :
    ∃ r, Rd.Sp n (cl x) r ∧ ((Rd.inf ≤ r ∧ v = tup 0 er) ∨ (r < Rd.inf ∧ v = tup (r + sg mi) .nilIface)) := by
  have hp := prs_text mi hd he
  rcases h with ⟨e, _⟩ | ⟨e, _⟩ | ⟨e, _⟩ | ⟨_, h⟩
  · rw [e, show prs [110, 97, 110] = none from rfl] at hp; cases hp
  · rw [e, show prs [105, 110, 102] = none from rfl] at hp; cases hp
  · rw [e, show prs [45, 105, 110, 102] = none from rfl] at hp; cases hp
  · rcases h with ⟨e, _⟩ | ⟨mi', ds', p, r, e, h1, h2⟩
    · rw [e] at hp; cases hp
    · rw [hp] at e
      simp only [Option.some.injEq, Prod.mk.injEq] at e
      obtain ⟨rfl, rfl, rfl⟩ := e
      rw [hd.val] at h1
      exact ⟨r, h1, h2⟩
theorem val_mono {D D' : Nat} {p p' : Int} (h : D ≤ D') (hp : p ≤ p') : Rd.num D p * Rd.den p' ≤ Rd.num D' p' * Rd.den p := by
  unfold Rd.num Rd.den
  rw [Nat.mul_assoc, Nat.mul_assoc, ← Nat.pow_add, ← Nat.pow_add]
  exact Nat.mul_le_mul h (Nat.pow_le_pow_right (by decide) (by omega))
end Go.Proofs.YtoojjefndkdnpabDoor
