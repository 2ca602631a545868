/-
  Numbers of a text, digit by digit, as the document reads them. Plain.
-/
import Derived.Test.YtlbnldbelfgokaaDoorLs3
namespace Go.Proofs.YtlbnldbelfgokaaDoor
open Flo Go.RowKit
/-- one digit more -/
def rdg (neg : Bool) (n : Int) (c : UInt8) : Int := bif neg then IntKind.i64.wrap (IntKind.i64.wrap (10 * n) - ((c.toNat : Int) - 48)) else IntKind.i64.wrap (IntKind.i64.wrap (10 * n) + ((c.toNat : Int) - 48))
def rdf (neg : Bool) (l : List UInt8) : Int := l.foldl (rdg neg) 0
theorem rdf_snoc (neg : Bool) (l : List UInt8) (c : UInt8) : rdf neg (l ++ [c]) = rdg neg (rdf neg l) c := by simp [rdf]
theorem wrap_in (x : Int) : Li.In64 (IntKind.i64.wrap x) := by
  unfold Li.In64; rw [IntKind.wrap_i64]; omega
theorem rdg_in (neg : Bool) (n : Int) (c : UInt8) : Li.In64 (rdg neg n c) := by
  unfold rdg; cases neg <;> exact wrap_in _
theorem rdf_in (neg : Bool) (l : List UInt8) : Li.In64 (rdf neg l) := by
  rcases List.eq_nil_or_concat l with rfl | ⟨m, c, rfl⟩
  · show Li.In64 0
    exact ⟨by decide, by decide⟩
  · rw [List.concat_eq_append, rdf_snoc]; exact rdg_in _ _ _
theorem wrap_id {x : Int} (h : Li.In64 x) : IntKind.i64.wrap x = x := by
  unfold Li.In64 at h; rw [IntKind.wrap_i64]; omega
theorem rdg_true {n : Int} {c : UInt8} {d : Int} (hd : (c.toNat : Int) - 48 = d) (h1 : Li.In64 (10 * n)) (h2 : Li.In64 (10 * n - d)) : rdg true n c = 10 * n - d := by
  unfold rdg; rw [hd, wrap_id h1]; simp only [cond_true]; exact wrap_id h2
theorem rdg_false {n : Int} {c : UInt8} {d : Int} (hd : (c.toNat : Int) - 48 = d) (h1 : Li.In64 (10 * n)) (h2 : Li.In64 (10 * n + d)) : rdg false n c = 10 * n + d := by
  unfold rdg; rw [hd, wrap_id h1]; simp only [cond_false]; exact wrap_id h2
theorem rdf_one (neg : Bool) {d : Nat} (h : d < 10) : rdf neg [UInt8.ofNat (48 + d)] = bif neg then -(d : Int) else (d : Int) := by
  have e : rdf neg [UInt8.ofNat (48 + d)] = rdg neg 0 (UInt8.ofNat (48 + d)) := rfl
  have hd : ((UInt8.ofNat (48 + d)).toNat : Int) - 48 = (d : Int) := by rw [Li.dig_nat h]; omega
  rw [e]
  cases neg
  · rw [rdg_false hd ⟨by omega, by omega⟩ ⟨by omega, by omega⟩]; simp
  · rw [rdg_true hd ⟨by omega, by omega⟩ ⟨by omega, by omega⟩]; simp
theorem rdf_dec (neg : Bool) (u : Nat) : u ≤ (bif neg then 9223372036854775808 else 9223372036854775807) → rdf neg (Lib.decDigits u) = bif neg then -(u : Int) else (u : Int) := by
  induction u using Nat.strongRecOn with
  | _ u ih =>
    intro hu
    rw [Lib.decDigits]
    by_cases h : u < 10
    · rw [dif_pos h]; exact rdf_one neg h
    · rw [dif_neg h, rdf_snoc, ih (u / 10) (by omega) (by cases neg <;> simp only [cond_true, cond_false] at hu ⊢ <;> omega)]
      have hd : ((UInt8.ofNat (48 + u % 10)).toNat : Int) - 48 = ((u % 10 : Nat) : Int) := by rw [Li.dig_nat (Nat.mod_lt _ (by decide))]; omega
      cases neg
      · simp only [cond_false] at hu ⊢
        rw [rdg_false hd ⟨by omega, by omega⟩ ⟨by omega, by omega⟩]; omega
      · simp only [cond_true] at hu ⊢
        rw [rdg_true hd ⟨by omega, by omega⟩ ⟨by omega, by omega⟩]; omega
/-- is there a sign? -/
def sgn (l : List UInt8) : Bool := l.head? == some 45
def sgk (l : List UInt8) : Nat := bif sgn l then 1 else 0
theorem dec_le20 {u : Nat} (h : u < 18446744073709551616) : (Lib.decDigits u).length ≤ 20 := by
  rw [Lib.decDigits_length]
  by_cases h1 : u < 10
  · rw [Lib.nDigits_small h1]; omega
  · have := Lib.numDigits_eq u (by omega) h
    split at this <;> omega
theorem rdn_fold {l : List UInt8} {x : Int} (h : Li.rdn l = some x) : rdf (sgn l) (l.drop (sgk l)) = x ∧ (∀ c ∈ l.drop (sgk l), Li.isDig c) ∧ l.length < 25 := by
  obtain ⟨h1, h2⟩ := Li.rdn_some h
  unfold Lib.itoa at h1
  unfold Li.In64 at h2
  by_cases hx : x < 0
  · rw [if_pos hx] at h1
    have e1 : sgn l = true := by rw [← h1]; rfl
    have e2 : l.drop (sgk l) = Lib.decDigits x.natAbs := by unfold sgk; rw [e1, ← h1]; rfl
    rw [e2, e1]
    refine ⟨?_, Li.dec_dig _, ?_⟩
    · rw [rdf_dec true _ (by simp only [cond_true]; omega)]; simp only [cond_true]; omega
    · rw [← h1, List.length_cons]
      have := dec_le20 (u := x.natAbs) (by omega)
      omega
  · rw [if_neg hx] at h1
    have e1 : sgn l = false := by
      unfold sgn
      rw [← h1]
      cases he : Lib.decDigits x.toNat with
      | nil => rfl
      | cons c r =>
        have hc : Li.isDig c := Li.dec_dig x.toNat c (by rw [he]; simp)
        unfold Li.isDig at hc
        simp only [List.head?_cons]
        refine beq_eq_false_iff_ne.2 fun e => ?_
        injection e with e
        rw [e] at hc
        exact absurd hc (by decide)
    have e2 : l.drop (sgk l) = Lib.decDigits x.toNat := by unfold sgk; rw [e1, ← h1]; rfl
    rw [e2, e1]
    refine ⟨?_, Li.dec_dig _, ?_⟩
    · rw [rdf_dec false _ (by simp only [cond_false]; omega)]; simp only [cond_false]; omega
    · rw [← h1]
      have := dec_le20 (u := x.toNat) (by omega)
      omega
theorem rdn_same {l : List UInt8} {n : Int} (hn : Li.In64 n) (h : ∀ x, Li.rdn l = some x → n = x) : decide (Lib.itoa n = l) = (Li.rdn l).isSome := by
  cases hr : Li.rdn l with
  | none => exact decide_eq_false (Li.rdn_none hr hn)
  | some x => rw [h x hr]; exact decide_eq_true (Li.rdn_some hr).1
end Go.Proofs.YtlbnldbelfgokaaDoor
