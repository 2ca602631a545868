/-
  No number of fewer digits is read as the float. Plain.
-/
import Derived.Test.YtmfnjmgdindlaaaDoorShs
namespace Go.Proofs.YtmfnjmgdindlaaaDoor
open Flo
open Rd (num den Near exA exX nst Srt U M ac3)
theorem near_between {n1 d1 n d n2 d2 s : Nat} (h1 : Near n1 d1 s) (h2 : Near n2 d2 s) (p1 : 0 < d1) (p : 0 < d) (p2 : 0 < d2) (a : n1 * d ≤ n * d1) (b : n * d2 ≤ n2 * d) : Near n d s := by
  unfold Near at h1 h2 ⊢
  have a' := Nat.mul_le_mul_right (2 * U) a
  have b' := Nat.mul_le_mul_right (2 * U) b
  have e1 : n1 * d * (2 * U) = n1 * (2 * U) * d := ac3 _ _ _
  have e2 : n * d1 * (2 * U) = n * (2 * U) * d1 := ac3 _ _ _
  have e3 : n * d2 * (2 * U) = n * (2 * U) * d2 := ac3 _ _ _
  have e4 : n2 * d * (2 * U) = n2 * (2 * U) * d := ac3 _ _ _
  rw [e1, e2] at a'
  rw [e3, e4] at b'
  clear e1 e2 e3 e4 a b
  generalize n1 * (2 * U) = N1 at *
  generalize n * (2 * U) = N at *
  generalize n2 * (2 * U) = N2 at *
  have key1 : ∀ x, x * d1 < N1 → x * d < N := fun x hx => by
    have h := Nat.mul_lt_mul_of_pos_right hx p
    have : x * d1 * d = x * d * d1 := ac3 _ _ _
    exact Nat.lt_of_mul_lt_mul_right (show x * d * d1 < N * d1 by omega)
  have key2 : ∀ x, x * d1 = N1 → x * d ≤ N := fun x hx => by
    have : x * d1 * d = x * d * d1 := ac3 _ _ _
    rw [hx] at this
    exact Nat.le_of_mul_le_mul_right (show x * d * d1 ≤ N * d1 by omega) p1
  have key3 : ∀ x, N2 < x * d2 → N < x * d := fun x hx => by
    have h := Nat.mul_lt_mul_of_pos_right hx p
    have : x * d2 * d = x * d * d2 := ac3 _ _ _
    exact Nat.lt_of_mul_lt_mul_right (show N * d2 < x * d * d2 by omega)
  have key4 : ∀ x, x * d2 = N2 → N ≤ x * d := fun x hx => by
    have : x * d2 * d = x * d * d2 := ac3 _ _ _
    rw [hx] at this
    exact Nat.le_of_mul_le_mul_right (show N * d2 ≤ x * d * d2 by omega) p2
  refine ⟨?_, ?_⟩
  · rcases h1.1 with h | h | ⟨h, h'⟩
    · exact .inl h
    · exact .inr (.inl (key1 _ h))
    · rcases Nat.lt_or_eq_of_le (key2 _ h) with g | g
      · exact .inr (.inl g)
      · exact .inr (.inr ⟨g, h'⟩)
  · rcases h2.2 with h | ⟨h, h'⟩
    · exact .inl (key3 _ h)
    · rcases Nat.lt_or_eq_of_le (key4 _ h) with g | g
      · exact .inl g
      · exact .inr ⟨g.symm, h'⟩
section
variable {E m : Nat} {t : Int} {W Lo Hi : Nat} {X : Bool}
/-- of at most k digits none is read as the float, if none was found among k -/
theorem fewer (v : View E m t W X Lo Hi) (h0 : 0 < m) (h1 : m < 9007199254740992) (h2 : E = 0 ∨ 4503599627370496 ≤ m) (hE : E ≤ 2045) {k D : Nat} {y : Int} (hk1 : 1 ≤ k) (hk : k ≤ 17) (hno : nst W X Lo Hi (10 ^ (18 - k)) = none) (hD : D < 10 ^ k) :
    ¬ Near (num D y) (den y) (E * 4503599627370496 + m) := by
  intro hN
  obtain ⟨n1, n2⟩ := Rd.nst_none hno
  have hp : 0 < 10 ^ (18 - k) := Nat.pow_pos (by decide)
  have hlow : W / 10 ^ (18 - k) * 10 ^ (18 - k) ≤ W := Nat.div_mul_le_self _ _
  by_cases hy : t + ((18 - k : Nat) : Int) ≤ y
  · obtain ⟨j, hj⟩ : ∃ j : Nat, y = t + j := ⟨(y - t).toNat, by omega⟩
    obtain ⟨i, hi⟩ : ∃ i, j = i + (18 - k) := ⟨j - (18 - k), by omega⟩
    have hr := (v.near h0 h1 h2 (D * 10 ^ j)).1 ((near_shift hj).2 hN)
    rw [hi, Nat.pow_add, ← Nat.mul_assoc] at hr
    by_cases c : D * 10 ^ i * 10 ^ (18 - k) ≤ W
    · have : D * 10 ^ i ≤ W / 10 ^ (18 - k) := (Nat.le_div_iff_mul_le hp).2 c
      have := Nat.mul_le_mul_right (10 ^ (18 - k)) this
      omega
    · have : W / 10 ^ (18 - k) < D * 10 ^ i := (Nat.div_lt_iff_lt_mul hp).2 (by omega)
      have := Nat.mul_le_mul_right (10 ^ (18 - k)) this
      rw [Nat.succ_mul] at this
      omega
  · have hA := near_exact h0 h1 h2 hE
    obtain ⟨A, hA'⟩ : ∃ A, exA m ((E : Int) - 1074) = A := ⟨_, rfl⟩
    obtain ⟨L, hL⟩ : ∃ L, (Lib.decDigits A).length = L := ⟨_, rfl⟩
    obtain ⟨hA0, hu, hbig, hsm⟩ := v.exact h0 hE hA' hL
    rw [hA'] at hA
    have dl := (Dg.dd_len hA0).1
    rw [hL] at dl
    have hL1 : 1 ≤ L := by have := (Dg.dd_len hA0).2.2; omega
    generalize exX ((E : Int) - 1074) = x at *
    have hmid : Near (num (10 ^ 17) t) (den t) (E * 4503599627370496 + m) := by
      refine near_between hN hA (Rd.den_pos _) (Rd.den_pos _) (Rd.den_pos _) ?_ ?_
      · unfold num den
        have hD' : D * 10 ^ y.toNat * 10 ^ (-t).toNat ≤ 10 ^ k * 10 ^ y.toNat * 10 ^ (-t).toNat := Nat.mul_le_mul_right _ (Nat.mul_le_mul_right _ (by omega))
        refine Nat.le_trans hD' ?_
        rw [← Nat.pow_add, ← Nat.pow_add, ← Nat.pow_add, ← Nat.pow_add]
        exact Nat.pow_le_pow_right (by decide) (by omega)
      · unfold num den
        have hA2 : 10 ^ (L - 1) * 10 ^ x.toNat * 10 ^ (-t).toNat ≤ A * 10 ^ x.toNat * 10 ^ (-t).toNat := Nat.mul_le_mul_right _ (Nat.mul_le_mul_right _ dl)
        refine Nat.le_trans ?_ hA2
        rw [← Nat.pow_add, ← Nat.pow_add, ← Nat.pow_add, ← Nat.pow_add]
        exact Nat.pow_le_pow_right (by decide) (by omega)
    have hr := (v.near h0 h1 h2 (10 ^ 17)).1 hmid
    have hle : 10 ^ 17 ≤ W / 10 ^ (18 - k) * 10 ^ (18 - k) := by
      have e : 10 ^ 17 = 10 ^ (k - 1) * 10 ^ (18 - k) := by rw [← Nat.pow_add, show k - 1 + (18 - k) = 17 by omega]
      have h3 : 10 ^ (k - 1) ≤ W / 10 ^ (18 - k) := by
        rw [Nat.le_div_iff_mul_le hp, ← e]; exact v.lo
      have := Nat.mul_le_mul_right (10 ^ (18 - k)) h3
      rw [← e] at this
      exact this
    omega
/-- the text's digits are the fewest -/
theorem srt_fewest (v : View E m t W X Lo Hi) (h0 : 0 < m) (h1 : m < 9007199254740992) (h2 : E = 0 ∨ 4503599627370496 ≤ m) (hE : E ≤ 2045) {n : Nat} (hs : Srt W X Lo Hi n) {k D : Nat} {y : Int} (hk1 : 1 ≤ k) (hk : k < (rz (Lib.decDigits n)).length) (hD : D < 10 ^ k) :
    ¬ Near (num D y) (den y) (E * 4503599627370496 + m) := by
  have hb := srt_bounds hs v.lo v.hi
  obtain ⟨q, q1, q2, hq, hqn⟩ := hs
  have hlen : (rz (Lib.decDigits n)).length ≤ q := by
    have hd : ∃ d, n = d * 10 ^ (18 - q) := by
      rcases Rd.nst_bounds hq with h | h
      · exact ⟨_, h⟩
      · exact ⟨W / 10 ^ (18 - q) + 1, by rw [Nat.succ_mul]; exact h⟩
    obtain ⟨d, hd⟩ := hd
    have hd0 : 0 < d := by
      apply Nat.pos_of_ne_zero
      intro h
      rw [h, Nat.zero_mul] at hd
      omega
    rw [hd, Dg.dd_mul hd0]
    rw [show rz (Lib.decDigits d ++ List.replicate (18 - q) 48) = rz (Lib.decDigits d) from Dg.rz_zeros _ _]
    by_cases c : (Lib.decDigits d).length ≤ q
    · exact Nat.le_trans (Dg.rz_len _) c
    · have pq : 0 < 10 ^ (18 - q) := Nat.pow_pos (by decide)
      have dl := (Dg.dd_len hd0).1
      have hdl : 10 ^ q ≤ d := Nat.le_trans (Nat.pow_le_pow_right (by decide) (by omega)) dl
      have hdu : d ≤ 10 ^ q := by
        have hW : W < 10 ^ q * 10 ^ (18 - q) := by rw [← Nat.pow_add, show q + (18 - q) = 18 by omega]; exact v.hi
        have h3 : W / 10 ^ (18 - q) < 10 ^ q := (Nat.div_lt_iff_lt_mul pq).2 hW
        rcases Rd.nst_bounds hq with h | h
        · have : d = W / 10 ^ (18 - q) := Nat.eq_of_mul_eq_mul_right pq (hd.symm.trans h)
          omega
        · have : d = W / 10 ^ (18 - q) + 1 := Nat.eq_of_mul_eq_mul_right pq (by rw [← hd, h, Nat.succ_mul])
          omega
      have hde : d = 1 * 10 ^ q := by omega
      rw [hde, Dg.dd_mul (by decide), show rz (Lib.decDigits 1 ++ List.replicate q 48) = rz (Lib.decDigits 1) from Dg.rz_zeros _ _]
      have := Dg.rz_len (Lib.decDigits 1)
      rw [Dg.dd_small (by decide)] at this ⊢
      exact Nat.le_trans this q1
  exact fewer v h0 h1 h2 hE hk1 (by omega) (hqn k hk1 (by omega)) hD
end
end Go.Proofs.YtmfnjmgdindlaaaDoor
