/-
  Decimal digits of a number, there and back; noughts at the end. Plain.
-/
import Derived.Test.YtfoblbpbhldngaaDoorDgp
import Derived.Lib.ItoaNum
namespace Go.Proofs.YtfoblbpbhldngaaDoor.Dg
open Go.Lib (decDigits)
theorem dig_byte {d : Nat} (h : d < 10) : (UInt8.ofNat (48 + d)).toNat = 48 + d := by
  rw [UInt8.toNat_ofNat']; omega
theorem dd_small {u : Nat} (h : u < 10) : decDigits u = [UInt8.ofNat (48 + u)] := by rw [decDigits, dif_pos h]
theorem dd_step {u : Nat} (h : ¬ u < 10) : decDigits u = decDigits (u / 10) ++ [UInt8.ofNat (48 + u % 10)] := by rw [decDigits, dif_neg h]
theorem dd_dv (u : Nat) : dv (decDigits u) = u := by
  induction u using Nat.strongRecOn with
  | _ u ih =>
    by_cases h : u < 10
    · rw [dd_small h]
      show 0 * 10 + ((UInt8.ofNat (48 + u)).toNat - 48) = u
      rw [dig_byte h]; omega
    · rw [dd_step h, dv_snoc, ih (u / 10) (by omega), dig_byte (by omega)]; omega
theorem dd_all (u : Nat) : ∀ b ∈ decDigits u, isD b = true := by
  induction u using Nat.strongRecOn with
  | _ u ih =>
    have key : ∀ d, d < 10 → isD (UInt8.ofNat (48 + d)) = true := fun d hd => by
      unfold isD; rw [dig_byte hd]; exact decide_eq_true ⟨by omega, by omega⟩
    by_cases h : u < 10
    · rw [dd_small h]
      intro b hb
      rw [List.mem_singleton.1 hb]; exact key u h
    · rw [dd_step h]
      intro b hb
      rcases List.mem_append.1 hb with hb | hb
      · exact ih (u / 10) (by omega) b hb
      · rw [List.mem_singleton.1 hb]; exact key _ (by omega)
theorem dd_ne (u : Nat) : decDigits u ≠ [] := by
  by_cases h : u < 10
  · rw [dd_small h]; simp
  · rw [dd_step h]; simp
theorem tz_app {l m : List UInt8} (h : tz l = l) (hl : l ≠ []) : tz (l ++ m) = l ++ m := by
  cases l with
  | nil => exact absurd rfl hl
  | cons x l =>
    show (if x.toNat = 48 then tz (l ++ m) else x :: (l ++ m)) = x :: (l ++ m)
    by_cases hx : x.toNat = 48
    · exfalso
      have h2 : (if x.toNat = 48 then tz l else x :: l) = x :: l := h
      rw [if_pos hx] at h2
      have := tz_len l
      rw [h2] at this
      simp at this
      omega
    · rw [if_neg hx]
theorem dd_tz {u : Nat} (h0 : 0 < u) : tz (decDigits u) = decDigits u := by
  induction u using Nat.strongRecOn with
  | _ u ih =>
    by_cases h : u < 10
    · rw [dd_small h]
      show (if (UInt8.ofNat (48 + u)).toNat = 48 then tz [] else [UInt8.ofNat (48 + u)]) = _
      rw [if_neg (by rw [dig_byte h]; omega)]
    · rw [dd_step h]
      exact tz_app (ih (u / 10) (by omega) (by omega)) (dd_ne _)
theorem dd_len {u : Nat} (h0 : 0 < u) : 10 ^ ((decDigits u).length - 1) ≤ u ∧ u < 10 ^ (decDigits u).length ∧ 1 ≤ (decDigits u).length := by
  have h1 := tz_ge (decDigits u) (dd_all u) (by rw [dd_tz h0]; exact dd_ne u)
  rw [dd_tz h0, dd_dv] at h1
  have h2 := dv_lt (decDigits u) (dd_all u)
  rw [dd_dv] at h2
  refine ⟨h1, h2, ?_⟩
  exact List.length_pos_iff.2 (dd_ne u)
theorem byte_of {b : UInt8} (h : isD b = true) : b = UInt8.ofNat (48 + (b.toNat - 48)) := by
  unfold isD at h
  have := of_decide_eq_true h
  apply UInt8.toNat_inj.1
  rw [dig_byte (by omega)]
  omega
/-- digits without a nought ahead are the number's -/
theorem dd_uniq : ∀ (n : Nat) (l : List UInt8), l.length = n → (∀ b ∈ l, isD b = true) → tz l = l → l ≠ [] → l = decDigits (dv l) := by
  intro n
  induction n with
  | zero => intro l hl _ _ h; exact absurd (List.length_eq_zero_iff.1 hl) h
  | succ n ih =>
    intro l hl hd ht hne
    rcases List.eq_nil_or_concat l with rfl | ⟨m, b, rfl⟩
    · exact absurd rfl hne
    · rw [List.concat_eq_append] at *
      have hb : isD b = true := hd b (by simp)
      have hb2 := of_decide_eq_true hb
      by_cases hm : m = []
      · subst hm
        have e : dv ([] ++ [b]) = b.toNat - 48 := by rw [dv_snoc, dv_nil]; omega
        rw [e, dd_small (by omega), ← byte_of hb]; rfl
      · have htm : tz m = m := by
          cases m with
          | nil => exact absurd rfl hm
          | cons x m =>
            have h2 : (if x.toNat = 48 then tz (m ++ [b]) else x :: (m ++ [b])) = x :: (m ++ [b]) := ht
            show (if x.toNat = 48 then tz m else x :: m) = x :: m
            by_cases hx : x.toNat = 48
            · exfalso
              rw [if_pos hx] at h2
              have := tz_len (m ++ [b])
              rw [h2] at this
              simp at this
              omega
            · rw [if_neg hx]
        have hlm : m.length = n := by simp at hl; exact hl
        have e1 := ih m hlm (fun c hc => hd c (by simp [hc])) htm hm
        have e2 : dv (m ++ [b]) = dv m * 10 + (b.toNat - 48) := dv_snoc m b
        have hpos : 0 < dv m := by
          apply Nat.pos_of_ne_zero
          intro h0
          have := (tz_zero m (fun c hc => hd c (by simp [hc]))).2 h0
          rw [htm] at this; exact hm this
        rw [e2, dd_step (by omega), show (dv m * 10 + (b.toNat - 48)) / 10 = dv m by omega, show (dv m * 10 + (b.toNat - 48)) % 10 = b.toNat - 48 by omega, ← e1, ← byte_of hb]
theorem dd_mul {u : Nat} (h0 : 0 < u) : ∀ j, decDigits (u * 10 ^ j) = decDigits u ++ List.replicate j 48 := by
  intro j
  induction j with
  | zero => simp
  | succ j ih =>
    have hp : 0 < u * 10 ^ j := Nat.mul_pos h0 (Nat.pow_pos (by decide))
    rw [Nat.pow_succ, ← Nat.mul_assoc, dd_step (by omega), Nat.mul_div_cancel _ (by decide), Nat.mul_mod_left, ih, List.replicate_succ', List.append_assoc]
    rfl
/-- without noughts at the end -/
def rz' (l : List UInt8) : List UInt8 := (tz l.reverse).reverse
theorem rz_zeros (l : List UInt8) : ∀ j, rz' (l ++ List.replicate j 48) = rz' l := by
  intro j
  induction j with
  | zero => simp
  | succ j ih =>
    rw [← ih]
    unfold rz'
    rw [List.replicate_succ', ← List.append_assoc, List.reverse_append]
    show (tz (48 :: (l ++ List.replicate j 48).reverse)).reverse = _
    have h48 : (48 : UInt8).toNat = 48 := by decide
    conv => lhs; unfold tz; rw [if_pos h48]
theorem tz_ne {l : List UInt8} (h : ∃ b ∈ l, b.toNat ≠ 48) : tz l ≠ [] := by
  induction l with
  | nil => obtain ⟨b, hb, _⟩ := h; cases hb
  | cons x l ih =>
    unfold tz
    by_cases hx : x.toNat = 48
    · rw [if_pos hx]
      obtain ⟨b, hb, hn⟩ := h
      rcases List.mem_cons.1 hb with e | e
      · rw [e] at hn; exact absurd hx hn
      · exact ih ⟨b, e, hn⟩
    · rw [if_neg hx]; simp
theorem rz_ne {u : Nat} (h0 : 0 < u) : rz' (decDigits u) ≠ [] := by
  unfold rz'
  intro h
  rw [List.reverse_eq_nil_iff] at h
  refine tz_ne ?_ h
  have ht := dd_tz h0
  have hne := dd_ne u
  generalize decDigits u = l at *
  cases l with
  | nil => exact absurd rfl hne
  | cons x l =>
    refine ⟨x, by simp, fun hx => ?_⟩
    have h2 : (if x.toNat = 48 then tz l else x :: l) = x :: l := ht
    rw [if_pos hx] at h2
    have := tz_len l
    rw [h2] at this
    simp at this
    omega
theorem rz_len (l : List UInt8) : (rz' l).length ≤ l.length := by
  unfold rz'
  have := tz_len l.reverse
  simp at this ⊢
  exact this
end Go.Proofs.YtfoblbpbhldngaaDoor.Dg
