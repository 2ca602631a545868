/-
  The document's choice of digits and the program's are the same. Plain.
-/
import Derived.Test.YtmfnjmgdindlaaaDoorVz7
namespace Go.Proofs.YtmfnjmgdindlaaaDoor
open Flo
open Rd (num den Near exA exX sU sD lea mos bot top nst Srt nh)
theorem near_shift {D j : Nat} {t y : Int} {s : Nat} (hy : y = t + j) : Near (num (D * 10 ^ j) t) (den t) s ↔ Near (num D y) (den y) s := by
  refine Rd.near_ratio (Rd.den_pos t) (Rd.den_pos y) ?_
  unfold num den
  rw [Nat.mul_assoc D, ← Nat.pow_add, Nat.mul_assoc D, ← Nat.pow_add, Nat.mul_assoc D, ← Nat.pow_add]
  congr 2
  omega
/-- a choice among k digits: the lesser, the greater, or both and the nearer -/
def DS (A L : Nat) (x : Int) (s k D : Nat) : Prop :=
  (D = A / 10 ^ (L - k) ∧ Near (num (A / 10 ^ (L - k)) (x + (L - k : Nat))) (den (x + (L - k : Nat))) s ∧ (Near (num (A / 10 ^ (L - k) + 1) (x + (L - k : Nat))) (den (x + (L - k : Nat))) s → ¬ (10 ^ (L - k) < 2 * (A % 10 ^ (L - k)) ∨ (10 ^ (L - k) = 2 * (A % 10 ^ (L - k)) ∧ A / 10 ^ (L - k) % 2 = 1)))) ∨
  (D = A / 10 ^ (L - k) + 1 ∧ Near (num (A / 10 ^ (L - k) + 1) (x + (L - k : Nat))) (den (x + (L - k : Nat))) s ∧ (Near (num (A / 10 ^ (L - k)) (x + (L - k : Nat))) (den (x + (L - k : Nat))) s → (10 ^ (L - k) < 2 * (A % 10 ^ (L - k)) ∨ (10 ^ (L - k) = 2 * (A % 10 ^ (L - k)) ∧ A / 10 ^ (L - k) % 2 = 1))))
def DN (A L : Nat) (x : Int) (s k : Nat) : Prop :=
  ¬ Near (num (A / 10 ^ (L - k)) (x + (L - k : Nat))) (den (x + (L - k : Nat))) s ∧ ¬ Near (num (A / 10 ^ (L - k) + 1) (x + (L - k : Nat))) (den (x + (L - k : Nat))) s
section
variable {E m : Nat} {t : Int} {W Lo Hi : Nat} {X : Bool}
theorem View.near (v : View E m t W X Lo Hi) (h0 : 0 < m) (h1 : m < 9007199254740992) (h2 : E = 0 ∨ 4503599627370496 ≤ m) (n : Nat) :
    Near (num n t) (den t) (E * 4503599627370496 + m) ↔ Lo ≤ n ∧ n ≤ Hi := by
  have hb := Rd.sD_pos ((E : Int) - 1076) t
  have h3 : sD ((E : Int) - 1076) t ≤ 4 * m * sU ((E : Int) - 1076) t := by
    have h4 := v.lo
    rw [← v.wh] at h4
    have h5 := (Nat.le_div_iff_mul_le hb).1 h4
    omega
  have h6 : sD ((E : Int) - 1076) t ≤ top m * sU ((E : Int) - 1076) t := Nat.le_trans h3 (Nat.mul_le_mul_right _ (by unfold top; omega))
  rw [← v.le, ← v.mo]
  exact Rd.near_view h0 h1 h2 h6
theorem View.low_hi (v : View E m t W X Lo Hi) {n : Nat} (h : n ≤ W) : n ≤ Hi := by
  have hb := Rd.sD_pos ((E : Int) - 1076) t
  have ha := Rd.sU_pos ((E : Int) - 1076) t
  have h4 := v.lo
  rw [← v.wh] at h4
  have h5 := (Nat.le_div_iff_mul_le hb).1 h4
  have h8 : W * sD ((E : Int) - 1076) t ≤ 4 * m * sU ((E : Int) - 1076) t := by rw [← v.wh]; exact Nat.div_mul_le_self _ _
  have h9 : top m * sU ((E : Int) - 1076) t = 4 * m * sU ((E : Int) - 1076) t + 2 * sU ((E : Int) - 1076) t := by unfold top; rw [Nat.add_mul]
  refine Nat.le_trans h ?_
  rw [← v.mo, Rd.mos_iff hb (by omega)]
  left; omega
theorem View.high_lo (v : View E m t W X Lo Hi) (h0 : 0 < m) {n : Nat} (h : W < n) : Lo ≤ n := by
  have hb := Rd.sD_pos ((E : Int) - 1076) t
  have ha := Rd.sU_pos ((E : Int) - 1076) t
  have h8 : 4 * m * sU ((E : Int) - 1076) t < (W + 1) * sD ((E : Int) - 1076) t := by
    rw [← v.wh]; exact (Nat.div_lt_iff_lt_mul hb).1 (Nat.lt_succ_self _)
  have h7 : (W + 1) * sD ((E : Int) - 1076) t ≤ n * sD ((E : Int) - 1076) t := Nat.mul_le_mul_right _ h
  have h9 : bot E m * sU ((E : Int) - 1076) t ≤ 4 * m * sU ((E : Int) - 1076) t := Nat.mul_le_mul_right _ (by unfold bot; split <;> omega)
  rw [← v.le, Rd.lea_iff hb]
  left; omega
/-- the exact digits, in the view's units -/
theorem View.exact (v : View E m t W X Lo Hi) (h0 : 0 < m) (hE : E ≤ 2045) {A L : Nat} (hA : exA m ((E : Int) - 1074) = A) (hL : (Lib.decDigits A).length = L) :
    0 < A ∧ t + 18 = exX ((E : Int) - 1074) + L ∧ (18 ≤ L → W = A / 10 ^ (L - 18) ∧ (X = true ↔ A % 10 ^ (L - 18) = 0)) ∧ (L ≤ 18 → W = A * 10 ^ (18 - L) ∧ X = true) := by
  have hA0 : 0 < A := by
    rw [← hA]; unfold exA
    split
    · exact Nat.mul_pos h0 (Nat.two_pow_pos _)
    · exact Nat.mul_pos h0 (Nat.pow_pos (by decide))
  have dl := Dg.dd_len hA0
  rw [hL] at dl
  have hx : -((2000 : Nat) : Int) ≤ exX ((E : Int) - 1074) := by unfold exX; split <;> omega
  have ht : -((2000 : Nat) : Int) ≤ t := by have := v.t1; omega
  have e2 : ((E : Int) - 1074) - 2 = (E : Int) - 1076 := by omega
  have hp : -((2000 : Nat) : Int) ≤ ((E : Int) - 1074) - 2 := by omega
  generalize hP : (2000 : Nat) = P at *
  have w1 := v.lo
  have w2 := v.hi
  have hu := Rd.unit_eq (m := m) (P := P) (Q := P) (L := L) (p := (E : Int) - 1074) (t := t) hp hx ht dl.2.2 (by rw [hA]; exact dl.1) (by rw [hA]; exact dl.2.1) (by rw [e2, v.wh]; exact w1) (by rw [e2, v.wh]; exact w2)
  have hw := Rd.whole_of (m := m) (P := P) (Q := P) (L := L) (p := (E : Int) - 1074) (t := t) hp hx ht hu
  rw [e2, v.wh, hA] at hw
  have hX := v.ex
  refine ⟨hA0, hu, fun h => ?_, fun h => ?_⟩
  · obtain ⟨a1, a2⟩ := hw.1 h
    refine ⟨a1, ?_⟩
    rw [← hX, decide_eq_true_iff]; exact a2
  · obtain ⟨a1, a2⟩ := hw.2 h
    exact ⟨a1, by rw [← hX, decide_eq_true_iff]; exact a2⟩
theorem nst_ds (v : View E m t W X Lo Hi) (h0 : 0 < m) (h1 : m < 9007199254740992) (h2 : E = 0 ∨ 4503599627370496 ≤ m) (hE : E ≤ 2045) {A L k : Nat} (hA : exA m ((E : Int) - 1074) = A) (hL : (Lib.decDigits A).length = L)
    (hk1 : 1 ≤ k) (hk : k ≤ 17) (hkL : k < L) :
    (∀ D, DS A L (exX ((E : Int) - 1074)) (E * 4503599627370496 + m) k D → nst W X Lo Hi (10 ^ (18 - k)) = some (D * 10 ^ (18 - k))) ∧ (DN A L (exX ((E : Int) - 1074)) (E * 4503599627370496 + m) k → nst W X Lo Hi (10 ^ (18 - k)) = none) := by
  obtain ⟨hA0, hu, hbig, hsm⟩ := v.exact h0 hE hA hL
  have hl := Rd.lead (Nat.le_of_lt hkL) (show k ≤ 18 by omega) W X hbig hsm
  have hn := Rd.nh_iff hkL (show k < 18 by omega) W X hbig hsm
  have hy : exX ((E : Int) - 1074) + ((L - k : Nat) : Int) = t + ((18 - k : Nat) : Int) := by omega
  have hp : 0 < 10 ^ (18 - k) := Nat.pow_pos (by decide)
  have n1 := (near_shift (D := A / 10 ^ (L - k)) (j := 18 - k) (t := t) (s := E * 4503599627370496 + m) hy).symm.trans (v.near h0 h1 h2 _)
  have n2 := (near_shift (D := A / 10 ^ (L - k) + 1) (j := 18 - k) (t := t) (s := E * 4503599627370496 + m) hy).symm.trans (v.near h0 h1 h2 _)
  have b1 : A / 10 ^ (L - k) * 10 ^ (18 - k) ≤ Hi := v.low_hi (by rw [← hl]; exact Nat.div_mul_le_self _ _)
  have b2 : Lo ≤ (A / 10 ^ (L - k) + 1) * 10 ^ (18 - k) := v.high_lo h0 (by rw [← hl]; exact (Nat.div_lt_iff_lt_mul hp).1 (Nat.lt_succ_self _))
  have m1 : Near (num (A / 10 ^ (L - k)) (exX ((E : Int) - 1074) + (L - k : Nat))) (den (exX ((E : Int) - 1074) + (L - k : Nat))) (E * 4503599627370496 + m) ↔ Lo ≤ A / 10 ^ (L - k) * 10 ^ (18 - k) := n1.trans ⟨fun h => h.1, fun h => ⟨h, b1⟩⟩
  have m2 : Near (num (A / 10 ^ (L - k) + 1) (exX ((E : Int) - 1074) + (L - k : Nat))) (den (exX ((E : Int) - 1074) + (L - k : Nat))) (E * 4503599627370496 + m) ↔ A / 10 ^ (L - k) * 10 ^ (18 - k) + 10 ^ (18 - k) ≤ Hi := n2.trans ⟨fun h => by have := h.2; rw [Nat.add_mul, Nat.one_mul] at this; exact this, fun h => ⟨b2, by rw [Nat.add_mul, Nat.one_mul]; exact h⟩⟩
  unfold DS DN nst
  rw [m1, m2, hl]
  refine ⟨fun D hD => ?_, fun hD => ?_⟩
  · rcases hD with ⟨rfl, d1, d2⟩ | ⟨rfl, d1, d2⟩
    · rw [if_pos d1]
      by_cases c : A / 10 ^ (L - k) * 10 ^ (18 - k) + 10 ^ (18 - k) ≤ Hi
      · rw [if_pos c, if_neg (fun h => d2 c (hn.1 h))]
      · rw [if_neg c]
    · rw [Nat.add_mul, Nat.one_mul]
      by_cases c : Lo ≤ A / 10 ^ (L - k) * 10 ^ (18 - k)
      · rw [if_pos c, if_pos d1, if_pos (hn.2 (d2 c))]
      · rw [if_neg c, if_pos d1]
  · rw [if_neg hD.1, if_neg hD.2]
/-- what was found among k digits is the program's -/
theorem srt_k (v : View E m t W X Lo Hi) (h0 : 0 < m) (h1 : m < 9007199254740992) (h2 : E = 0 ∨ 4503599627370496 ≤ m) (hE : E ≤ 2045) {A L k : Nat} (hA : exA m ((E : Int) - 1074) = A) (hL : (Lib.decDigits A).length = L)
    (hk1 : 1 ≤ k) (hkL : k < L) (hno : ∀ j, 1 ≤ j → j < k → DN A L (exX ((E : Int) - 1074)) (E * 4503599627370496 + m) j) :
    k ≤ 17 ∧ ∀ D, DS A L (exX ((E : Int) - 1074)) (E * 4503599627370496 + m) k D → Srt W X Lo Hi (D * 10 ^ (18 - k)) := by
  have hf := view_found h0 h1 v
  have hk : k ≤ 17 := by
    apply Nat.le_of_not_lt
    intro hc
    have h := (nst_ds v h0 h1 h2 hE hA hL (by decide) (Nat.le_refl 17) (by omega)).2 (hno 17 (by decide) (by omega))
    rw [show 10 ^ (18 - 17) = 10 from rfl] at h
    exact hf h
  refine ⟨hk, fun D hD => ⟨k, hk1, hk, (nst_ds v h0 h1 h2 hE hA hL hk1 hk hkL).1 D hD, fun j j1 j2 => (nst_ds v h0 h1 h2 hE hA hL j1 (by omega) (by omega)).2 (hno j j1 j2)⟩⟩
/-- if nothing was found, all digits are the program's -/
theorem srt_all (v : View E m t W X Lo Hi) (h0 : 0 < m) (h1 : m < 9007199254740992) (h2 : E = 0 ∨ 4503599627370496 ≤ m) (hE : E ≤ 2045) {A L : Nat} (hA : exA m ((E : Int) - 1074) = A) (hL : (Lib.decDigits A).length = L)
    (hno : ∀ j, 1 ≤ j → j < L → DN A L (exX ((E : Int) - 1074)) (E * 4503599627370496 + m) j) :
    L ≤ 17 ∧ Srt W X Lo Hi (A * 10 ^ (18 - L)) := by
  obtain ⟨hA0, hu, hbig, hsm⟩ := v.exact h0 hE hA hL
  have hf := view_found h0 h1 v
  have hk : L ≤ 17 := by
    apply Nat.le_of_not_lt
    intro hc
    have h := (nst_ds v h0 h1 h2 hE hA hL (by decide) (Nat.le_refl 17) (by omega)).2 (hno 17 (by decide) (by omega))
    rw [show 10 ^ (18 - 17) = 10 from rfl] at h
    exact hf h
  have hL1 : 1 ≤ L := by have := (Dg.dd_len hA0).2.2; omega
  obtain ⟨hW, hX⟩ := hsm (by omega)
  refine ⟨hk, L, hL1, hk, ?_, fun j j1 j2 => (nst_ds v h0 h1 h2 hE hA hL j1 (by omega) (by omega)).2 (hno j j1 j2)⟩
  have hp : 0 < 10 ^ (18 - L) := Nat.pow_pos (by decide)
  have e : W / 10 ^ (18 - L) * 10 ^ (18 - L) = W := by rw [hW, Nat.mul_div_cancel _ hp]
  have hb := Rd.sD_pos ((E : Int) - 1076) t
  have ha := Rd.sU_pos ((E : Int) - 1076) t
  have hex := v.ex
  rw [hX, decide_eq_true_iff] at hex
  have hlo : Lo ≤ W := by
    rw [← v.le, Rd.lea_iff hb]
    left
    have h8 : W * sD ((E : Int) - 1076) t = 4 * m * sU ((E : Int) - 1076) t := by
      have := Nat.div_add_mod (4 * m * sU ((E : Int) - 1076) t) (sD ((E : Int) - 1076) t)
      rw [v.wh, hex, Nat.add_zero, Nat.mul_comm] at this
      exact this
    rw [h8]
    exact Nat.mul_lt_mul_of_pos_right (by unfold bot; split <;> omega) ha
  have hnh : nh W X (10 ^ (18 - L)) = false := by
    unfold nh
    have hmod : W % 10 ^ (18 - L) = 0 := by rw [hW]; exact Nat.mul_mod_left _ _
    have hg : 0 < 10 ^ (18 - L) / 2 := by
      rw [show 18 - L = (17 - L) + 1 by omega, Nat.pow_succ]
      have : 0 < 10 ^ (17 - L) := Nat.pow_pos (by decide)
      omega
    rw [hmod, if_neg (by omega)]
    exact decide_eq_false (by omega)
  unfold nst
  rw [e, if_pos hlo, ← hW, hnh]
  split <;> simp
theorem srt_ptx {n D j : Nat} {y : Int} (hn : n = D * 10 ^ j) (hD : 0 < D) (hy : y = t + j) : ptx (Lib.decDigits n) (t + (Lib.decDigits n).length - 1) = ptx (Lib.decDigits D) (y + (Lib.decDigits D).length - 1) := by
  rw [hn, Dg.dd_mul hD, hy]
  unfold ptx
  rw [show rz (Lib.decDigits D ++ List.replicate j 48) = rz (Lib.decDigits D) from Dg.rz_zeros _ _, List.length_append, List.length_replicate]
  rw [show (t + (((Lib.decDigits D).length + j : Nat) : Int) - 1) = (t + (j : Int) + ((Lib.decDigits D).length : Int) - 1) by omega]
end
/-- the exact digits are read as the float -/
theorem near_exact {E m : Nat} (h0 : 0 < m) (h1 : m < 9007199254740992) (h2 : E = 0 ∨ 4503599627370496 ≤ m) (hE : E ≤ 2045) :
    Near (num (exA m ((E : Int) - 1074)) (exX ((E : Int) - 1074))) (den (exX ((E : Int) - 1074))) (E * 4503599627370496 + m) := by
  have e2 : ((E : Int) - 1074) - 2 = (E : Int) - 1076 := by omega
  have hx : -((2000 : Nat) : Int) ≤ exX ((E : Int) - 1074) := by unfold exX; split <;> omega
  have hp : -((2000 : Nat) : Int) ≤ ((E : Int) - 1074) - 2 := by omega
  generalize hP : (2000 : Nat) = P at *
  have w := Rd.wh_eq (m := m) (P := P) (Q := P) (p := (E : Int) - 1074) (t := exX ((E : Int) - 1074)) hp hx hx
  rw [e2] at w
  generalize exX ((E : Int) - 1074) = x at *
  generalize exA m ((E : Int) - 1074) = A at *
  have w2 : 4 * m * sU ((E : Int) - 1076) x = A * sD ((E : Int) - 1076) x := by
    apply Nat.eq_of_mul_eq_mul_right (Rd.gg_pos P x)
    rw [w]; exact Nat.mul_right_comm _ _ _
  have ha := Rd.sU_pos ((E : Int) - 1076) x
  refine (Rd.near_units h0 h1 h2).2 ⟨.inl ?_, .inl ?_⟩
  · rw [← w2]; exact Nat.mul_lt_mul_of_pos_right (by unfold Rd.bot; split <;> omega) ha
  · rw [← w2]; exact Nat.mul_lt_mul_of_pos_right (by unfold Rd.top; omega) ha
end Go.Proofs.YtmfnjmgdindlaaaDoor
