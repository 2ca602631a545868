/-
  Digits to the base of sixteen, read. Plain.
-/
namespace Go.Proofs.YtmfnjmgdindlaaaDoor.Hx
def hexv (c : Nat) : Option Nat := if 48 ≤ c ∧ c ≤ 57 then some (c - 48) else if 97 ≤ c ∧ c ≤ 102 then some (c - 87) else none
theorem hexv_lt {c d : Nat} (h : hexv c = some d) : d < 16 := by
  unfold hexv at h
  split at h
  · cases h; omega
  · split at h
    · cases h; omega
    · cases h
/-- one digit more -/
def st (o : Option Nat) (c : UInt8) : Option Nat := o.bind fun b => (hexv c.toNat).map fun d => 16 * b + d
/-- the number that digits are, if they are -/
def hxs (l : List UInt8) : Option Nat := l.foldl st (some 0)
theorem hxs_snoc (l : List UInt8) (c : UInt8) : hxs (l ++ [c]) = st (hxs l) c := by simp [hxs]
theorem st_none (l : List UInt8) : l.foldl st none = none := by
  induction l with
  | nil => rfl
  | cons x l ih => exact ih
theorem take_snoc {l : List UInt8} {i : Nat} {b : UInt8} (h : l[i]? = some b) : l.take (i + 1) = l.take i ++ [b] := by
  rw [List.take_add_one, h]; rfl
theorem hxs_fail {l : List UInt8} {i : Nat} {c : UInt8} (h : l[i]? = some c) (h2 : hexv c.toNat = none) : hxs l = none := by
  have e : l = l.take (i + 1) ++ l.drop (i + 1) := (List.take_append_drop _ _).symm
  rw [e]
  unfold hxs
  rw [List.foldl_append]
  have h3 : (l.take (i + 1)).foldl st (some 0) = none := by
    rw [take_snoc h, List.foldl_append]
    show st _ c = none
    generalize (l.take i).foldl st (some 0) = o
    unfold st
    rw [h2]
    cases o <;> rfl
  rw [h3]
  exact st_none _
theorem fold_lt : ∀ (l : List UInt8) (a b : Nat), l.foldl st (some a) = some b → b < (a + 1) * 16 ^ l.length
  | [], a, b, h => by cases h; simp
  | x :: l, a, b, h => by
    cases h2 : hexv x.toNat with
    | none =>
      have e : st (some a) x = none := by unfold st; rw [h2]; rfl
      rw [List.foldl_cons, e, st_none] at h
      cases h
    | some d =>
      have e : st (some a) x = some (16 * a + d) := by unfold st; rw [h2]; rfl
      rw [List.foldl_cons, e] at h
      have h3 := fold_lt l _ _ h
      have h4 := hexv_lt h2
      rw [List.length_cons, Nat.pow_succ, Nat.mul_comm (16 ^ l.length), ← Nat.mul_assoc]
      exact Nat.lt_of_lt_of_le h3 (Nat.mul_le_mul_right _ (by omega))
theorem hxs_lt (l : List UInt8) (b : Nat) (h : hxs l = some b) : b < 16 ^ l.length := by
  have := fold_lt l 0 b h
  rwa [Nat.zero_add, Nat.one_mul] at this
theorem hxs_step {l : List UInt8} {i b d : Nat} {c : UInt8} (h : l[i]? = some c) (hb : hxs (l.take i) = some b) (hd : hexv c.toNat = some d) : hxs (l.take (i + 1)) = some (16 * b + d) := by
  rw [take_snoc h, hxs_snoc, hb]
  unfold st
  rw [hd]
  rfl
end Go.Proofs.YtmfnjmgdindlaaaDoor.Hx
