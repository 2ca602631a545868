/-
  Plain mathematics of sums of floats: the exact sum, rounded once, as a function of the words; it has no order. No condition; nothing of the program.
-/
import Derived.Test.YtmfnjmgdindlaaaAri
import Derived.Test.YtmfnjmgdindlaaaWrd
import Derived.Test.YtmfnjmgdindlaaaRdn
namespace Go.Proofs.Ytmfnjmgdindlaaa.Sm
open Ieee Go.Proofs.Ytmfnjmgdindlaaa.Ari
open Go.Proofs.Ytmfnjmgdindlaaa.Flo (nanB mg ex mg_lt mg_ge mg_eq)

theorem log2_iff {n d : Nat} (h0 : n ≠ 0) : n.log2 = d ↔ 2 ^ d ≤ n ∧ n < 2 ^ (d + 1) := Nat.log2_eq_iff h0
theorem rg_low {n : Nat} (h : n < 9007199254740992) : rg n (-1074) = n := by
  unfold rg
  by_cases h0 : n = 0
  · rw [if_pos h0, h0]
  · rw [if_neg h0]
    have : n.log2 < 53 := (Nat.log2_lt h0).2 (by omega)
    have hl : lst n (-1074) = -1074 := by unfold lst; omega
    rw [hl]
    have e1 : ((-1074 : Int) + 1074).toNat = 0 := rfl
    have e2 : ((-1074 : Int) - -1074).toNat = 0 := rfl
    rw [e1, e2, rhe_zero]; omega
theorem rg_high {n d : Nat} (h1 : 2 ^ (52 + d) ≤ n) (h2 : n < 2 ^ (53 + d)) : rg n (-1074) = d * 4503599627370496 + rhe n d := by
  have h0 : n ≠ 0 := by have := Nat.two_pow_pos (52 + d); omega
  have hl : n.log2 = 52 + d := (log2_iff h0).2 ⟨h1, by rw [show 52 + d + 1 = 53 + d by omega]; exact h2⟩
  unfold rg
  rw [if_neg h0]
  have hl : lst n (-1074) = (d : Int) - 1074 := by unfold lst; omega
  rw [hl]
  have e1 : ((d : Int) - 1074 + 1074).toNat = d := by omega
  have e2 : ((-1074 : Int) - ((d : Int) - 1074)).toNat = 0 := by omega
  have e3 : ((d : Int) - 1074 - -1074).toNat = d := by omega
  rw [e1, e2, e3, Nat.pow_zero, Nat.mul_one]
theorem rhe_rnd (n k : Nat) : rhe n (k + 1) = Rd.rnd n (k + 1) := by
  unfold rhe Rd.rnd
  rw [show k + 1 - 1 = k by omega, Nat.pow_succ]
  generalize n / (2 ^ k * 2) = q
  generalize n % (2 ^ k * 2) = r
  generalize 2 ^ k = H
  congr 1
  by_cases c : H < r ∨ (r = H ∧ q % 2 = 1)
  · rw [if_pos c]
    have : (decide (H * 2 < 2 * r) || (H * 2 == 2 * r && q % 2 == 1)) = true := by
      rcases c with c | ⟨c, c'⟩
      · have : H * 2 < 2 * r := by omega
        simp [this]
      · have : H * 2 = 2 * r := by omega
        simp [this, c']
    rw [this]; rfl
  · rw [if_neg c]
    have : (decide (H * 2 < 2 * r) || (H * 2 == 2 * r && q % 2 == 1)) = false := by
      simp only [Bool.or_eq_false_iff, decide_eq_false_iff_not, Bool.and_eq_false_iff, beq_eq_false_iff_ne]
      omega
    rw [this]; rfl
/-- the rounding is the nearest one -/
theorem near_rg {n : Nat} : Rd.Near n Rd.U (rg n (-1074)) := by
  obtain ⟨A, hA⟩ : ∃ A : Nat, A = 1076 := ⟨_, rfl⟩
  have hp : 2 ^ A = 4 * Rd.U := by
    have := Rd.U_add 2
    rw [← show A = 2 + 1074 from hA] at this
    rw [this]
  have key : ∀ E : Nat, 4 * n < 2 ^ (E + 2 + 53) → (E = 0 ∨ 2 ^ (E + 2 + 52) ≤ 4 * n) → Rd.Near n Rd.U (E * 2 ^ 52 + rhe n E) := by
    intro E h1 h2
    have hm : rhe n E = Rd.rnd (4 * n) (E + 2) := by
      have := rhe_mul n E 2
      rw [← rhe_rnd, ← this, Nat.mul_comm]
    rw [hm]
    have hd : n * 2 ^ A = 4 * n * (Rd.U * 2 ^ 0) := by
      rw [hp, Nat.pow_zero, Nat.mul_one]
      generalize Rd.U = u
      rw [← Nat.mul_assoc, Nat.mul_comm n 4]
    have hU : 0 < Rd.U * 2 ^ 0 := by have := Rd.U_pos; rw [Nat.pow_zero]; omega
    refine Rd.near_mark (A := A) (B := 0) Rd.U_pos (by omega) ?_ h1 h2
    rw [hd, Nat.mul_mod_left, if_pos rfl, Nat.mul_div_cancel _ hU]
  by_cases h : n < 9007199254740992
  · have := key 0 (by show 4 * n < 36028797018963968; omega) (.inl rfl)
    rw [rhe_zero, Nat.zero_mul, Nat.zero_add] at this
    rw [rg_low h]; exact this
  · have h0 : n ≠ 0 := by omega
    obtain ⟨d, hd⟩ : ∃ d, n.log2 = 52 + d := by
      have : 53 ≤ n.log2 := (Nat.le_log2 h0).2 (by omega)
      exact ⟨n.log2 - 52, by omega⟩
    obtain ⟨a1, a2⟩ := (log2_iff h0).1 hd
    rw [rg_high a1 (by rw [show 53 + d = 52 + d + 1 by omega]; exact a2)]
    refine key d ?_ (.inr ?_)
    · rw [show d + 2 + 53 = 2 + (52 + d + 1) by omega, Nat.pow_add]; omega
    · rw [show d + 2 + 52 = 2 + (52 + d) by omega, Nat.pow_add]; omega

/-- rounded, and not beyond the infinity -/
def rd (n : Nat) : Nat := min (rg n (-1074)) 9218868437227405312
theorem rd_le (n : Nat) : rd n ≤ 9218868437227405312 := Nat.min_le_right _ _
theorem rd_zero : rd 0 = 0 := by unfold rd; rw [rg_low (by decide)]; decide
theorem near_rd {n s : Nat} (h : Rd.Near n Rd.U s) : rd n = if s < Rd.inf then s else 9218868437227405312 := by
  have : s = rg n (-1074) := h.uniq near_rg Rd.U_pos
  subst this
  unfold rd Rd.inf
  split <;> omega

/-- which floats there are -/
def anyN (l : List Nat) : Bool := l.any nanB
def anyI (l : List Nat) : Bool := l.any (· == 9218868437227405312)
def anyJ (l : List Nat) : Bool := l.any (· == 18442240474082181120)
def allZ (l : List Nat) : Bool := !l.isEmpty && l.all (· == 9223372036854775808)
def uq (x : Nat) : Nat := if x < 9223372036854775808 then vr x else 0
def dq (x : Nat) : Nat := if x < 9223372036854775808 then 0 else vr (x % 9223372036854775808)
/-- those above 0, and those below, together -/
def up (l : List Nat) : Nat := (l.map uq).sum
def dn (l : List Nat) : Nat := (l.map dq).sum
def exF (u d : Nat) : Nat := if u < d then 9223372036854775808 + rd (d - u) else rd (u - d)
/-- the exact sum -/
def exB (l : List Nat) : Nat :=
  if anyN l || (anyI l && anyJ l) then 9221120237041090560 else if anyI l then 9218868437227405312 else if anyJ l then 18442240474082181120 else if allZ l then 9223372036854775808 else exF (up l) (dn l)
theorem exF_lt (u d : Nat) : exF u d < 18446744073709551616 := by
  unfold exF; have := rd_le (d - u); have := rd_le (u - d); split <;> omega
theorem exB_lt (l : List Nat) : exB l < 18446744073709551616 := by
  unfold exB
  have := exF_lt (up l) (dn l)
  split <;> (try split) <;> (try split) <;> (try split) <;> omega
theorem exF_bt (u d : Nat) : bt (exF u d) = exF u d := by
  have h1 := rd_le (d - u)
  have h2 := rd_le (u - d)
  unfold bt exF
  rw [if_neg]
  split <;> omega
theorem exB_bt (l : List Nat) : bt (exB l) = exB l := by
  unfold exB
  have := exF_bt (up l) (dn l)
  split <;> (try split) <;> (try split) <;> (try split) <;> first | assumption | decide

section
variable {l l' : List Nat} (h : l.Perm l')
include h
theorem exB_perm : exB l = exB l' := by
  have h1 : anyN l = anyN l' := h.any_eq
  have h2 : anyI l = anyI l' := h.any_eq
  have h3 : anyJ l = anyJ l' := h.any_eq
  have h4 : allZ l = allZ l' := by
    unfold allZ
    rw [h.all_eq, show l.isEmpty = l'.isEmpty by
      cases l with
      | nil => rw [List.nil_perm.1 h]
      | cons a t => cases l' with
        | nil => exact absurd (List.perm_nil.1 h) (by simp)
        | cons b s => rfl]
  have h5 : up l = up l' := (h.map uq).sum_nat
  have h6 : dn l = dn l' := (h.map dq).sum_nat
  unfold exB
  rw [h1, h2, h3, h4, h5, h6]
end
theorem up_snoc (l : List Nat) (x : Nat) : up (l ++ [x]) = up l + uq x := by simp [up]
theorem dn_snoc (l : List Nat) (x : Nat) : dn (l ++ [x]) = dn l + dq x := by simp [dn]
theorem vr_lt {r : Nat} (h : r < 9218868437227405312) : vr r < 2 ^ tp := by
  have := mg_lt r
  obtain ⟨t, ht⟩ : ∃ t : Nat, t = 2045 := ⟨_, rfl⟩
  have he : ex r ≤ t := by unfold ex; omega
  have h2 : vr r < 2 ^ 53 * 2 ^ t := by
    unfold vr
    exact Nat.lt_of_lt_of_le (Nat.mul_lt_mul_of_pos_right (by omega) (Nat.two_pow_pos _)) (Nat.mul_le_mul_left _ (Nat.pow_le_pow_right (by omega) he))
  rw [← Nat.pow_add, show 53 + t = tp by rw [ht]; rfl] at h2; exact h2
theorem uq_lt {x : Nat} (h : fin x) : uq x < 2 ^ tp := by
  unfold uq
  split
  · rename_i c; exact vr_lt (by have := h.2; omega)
  · exact Nat.two_pow_pos _
theorem dq_lt {x : Nat} (h : fin x) : dq x < 2 ^ tp := by
  unfold dq
  split
  · exact Nat.two_pow_pos _
  · exact vr_lt h.2
theorem sum_le {g : Nat → Nat} {M : Nat} : ∀ (l : List Nat), (∀ x ∈ l, g x ≤ M) → (l.map g).sum ≤ l.length * M
  | [], _ => by simp
  | a :: t, h => by
    have h1 := h a (by simp)
    have h2 := sum_le t (fun x hx => h x (by simp [hx]))
    simp only [List.map_cons, List.sum_cons, List.length_cons, Nat.add_mul, Nat.one_mul]; omega
theorem up_lt {l : List Nat} (h : ∀ x ∈ l, fin x) : up l ≤ l.length * 2 ^ tp := sum_le l fun x hx => Nat.le_of_lt (uq_lt (h x hx))
theorem dn_lt {l : List Nat} (h : ∀ x ∈ l, fin x) : dn l ≤ l.length * 2 ^ tp := sum_le l fun x hx => Nat.le_of_lt (dq_lt (h x hx))
end Go.Proofs.Ytmfnjmgdindlaaa.Sm
