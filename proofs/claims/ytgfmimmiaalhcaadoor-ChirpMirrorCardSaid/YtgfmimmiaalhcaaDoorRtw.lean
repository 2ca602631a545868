/-
  Plain mathematics of floats: how far a sum, a product, and a sum with a product lie from what they are worth, where that is at most 1. No condition; nothing of the program.
-/
import Derived.Test.YtgfmimmiaalhcaaDoorRtv
namespace Go.Proofs.YtgfmimmiaalhcaaDoor.Rp
open Flo Ieee Ari

theorem rhe_err (n d : Nat) : 2 * (rhe n d * 2 ^ d) ≤ 2 * n + 2 ^ d ∧ 2 * n ≤ 2 * (rhe n d * 2 ^ d) + 2 ^ d := by
  unfold rhe
  have hp := Nat.two_pow_pos d
  generalize 2 ^ d = g at *
  have hd := Nat.div_add_mod n g
  have hr := Nat.mod_lt n hp
  generalize n / g = q at *
  generalize n % g = r at *
  rw [Nat.mul_comm] at hd
  cases hb : (decide (g < 2 * r) || (g == 2 * r && q % 2 == 1))
  · have h1 : ¬ g < 2 * r := by
      intro h
      rw [decide_eq_true h, Bool.true_or] at hb
      cases hb
    rw [Bool.toNat_false, Nat.add_zero]
    omega
  · have h1 : g ≤ 2 * r := by
      rw [Bool.or_eq_true, Bool.and_eq_true, decide_eq_true_eq, beq_iff_eq] at hb
      omega
    rw [Bool.toNat_true, Nat.add_mul, Nat.one_mul]
    omega
theorem rg_err {m k : Nat} (h : m ≤ 2 ^ (ul + k)) : rg m (-1074 - (k : Int)) < 9218868437227405312 ∧
    2 ^ 54 * (vr (rg m (-1074 - (k : Int))) * 2 ^ k) ≤ 2 ^ 54 * m + 2 ^ (ul + k) ∧ 2 ^ 54 * m ≤ 2 ^ 54 * (vr (rg m (-1074 - (k : Int))) * 2 ^ k) + 2 ^ (ul + k) := by
  have hul := ul_eq
  by_cases hm0 : m = 0
  · subst hm0
    have e : rg 0 (-1074 - (k : Int)) = 0 := by unfold rg; rw [if_pos rfl]
    rw [e, vr_zero, Nat.zero_mul]
    exact ⟨by decide, by omega, by omega⟩
  by_cases hm1 : m = 2 ^ (ul + k)
  · have e : rg m (-1074 - (k : Int)) = one := by
      have := rg_scale 1 (ul + k) (-1074 - (k : Int))
      rw [Nat.one_mul, ← hm1, show (-1074 - (k : Int)) + ((ul + k : Nat) : Int) = 0 by omega] at this
      rw [this]
      have := one_word
      rw [rg_scale, show (-1074 : Int) + ((ul : Nat) : Int) = 0 by omega] at this
      exact this.symm
    rw [e, vr_one, ← Nat.pow_add, hm1]
    exact ⟨one_lt, by omega, by omega⟩
  have hlt : m < 2 ^ (ul + k) := by omega
  have hl : m.log2 < ul + k := (Nat.log2_lt hm0).2 hlt
  have hs := Nat.log2_self_le hm0
  have hs2 := @Nat.lt_log2_self m
  obtain ⟨l, hlst⟩ : ∃ l, lst m (-1074 - (k : Int)) = l := ⟨_, rfl⟩
  have hle : l = max (-1074 - (k : Int) + m.log2 - 52) (-1074) := by rw [← hlst]; rfl
  obtain ⟨e, he⟩ : ∃ e : Nat, (l + 1074).toNat = e := ⟨_, rfl⟩
  obtain ⟨d, hd⟩ : ∃ d : Nat, (l - (-1074 - (k : Int))).toNat = d := ⟨_, rfl⟩
  have hz : ((-1074 - (k : Int)) - l).toNat = 0 := by omega
  have hdk : d = e + k := by omega
  have hrg : rg m (-1074 - (k : Int)) = e * 4503599627370496 + rhe m d := by
    unfold rg
    rw [if_neg hm0, hlst, he, hd, hz, Nat.pow_zero, Nat.mul_one]
  have hR : rhe m d ≤ 9007199254740992 := by
    apply rhe_le
    have h1 : 2 ^ (m.log2 + 1) ≤ 2 ^ 53 * 2 ^ d := by rw [← Nat.pow_add]; exact Nat.pow_le_pow_right (by omega) (by omega)
    omega
  have hR2 : e = 0 ∨ 4503599627370496 ≤ rhe m d := by
    by_cases h0 : e = 0
    · exact Or.inl h0
    · right
      apply le_rhe
      have hd2 : 52 + d = m.log2 := by omega
      have h1 : 2 ^ (52 + d) = 2 ^ m.log2 := by rw [hd2]
      rw [Nat.pow_add] at h1
      omega
  have hv : vr (rg m (-1074 - (k : Int))) * 2 ^ k = rhe m d * 2 ^ d := by
    rw [hrg, vr_rung hR hR2, Nat.mul_assoc, ← Nat.pow_add, hdk]
  have hE := rhe_err m d
  have hd3 : 53 + d ≤ ul + k := by omega
  have hE2 : 2 ^ 53 * 2 ^ d ≤ 2 ^ (ul + k) := by
    rw [← Nat.pow_add]; exact Nat.pow_le_pow_right (by omega) hd3
  refine ⟨?_, ?_, ?_⟩
  · rw [hrg]
    have : e ≤ 1021 := by omega
    have := Nat.mul_le_mul_right 4503599627370496 this
    omega
  · rw [hv]; generalize rhe m d * 2 ^ d = X at *; generalize 2 ^ (ul + k) = Y at *; omega
  · rw [hv]; generalize rhe m d * 2 ^ d = X at *; generalize 2 ^ (ul + k) = Y at *; omega
/-- whatever whole number is rounded -/
theorem near_int {s : Bool} {Z : Int} {k : Nat} (hs : Z ≠ 0 → s = decide (Z < 0)) (h : Z.natAbs ≤ 2 ^ (ul + k)) :
    fin (double.nearest s Z.natAbs (-1074 - (k : Int))) ∧
    2 ^ 54 * (fz (double.nearest s Z.natAbs (-1074 - (k : Int))) * ((2 ^ k : Nat) : Int) - Z) ≤ ((2 ^ (ul + k) : Nat) : Int) ∧
    2 ^ 54 * (Z - fz (double.nearest s Z.natAbs (-1074 - (k : Int))) * ((2 ^ k : Nat) : Int)) ≤ ((2 ^ (ul + k) : Nat) : Int) := by
  obtain ⟨r1, r2, r3⟩ := rg_err h
  rw [nearest_eq, Nat.min_eq_left (by omega)]
  obtain ⟨f1, f2, f3⟩ := word_facts s r1
  refine ⟨f1, ?_⟩
  rw [fz_eq, f2, f3]
  have hc : ∀ x : Nat, ((vr x : Nat) : Int) * ((2 ^ k : Nat) : Int) = ((vr x * 2 ^ k : Nat) : Int) := fun x => (Int.natCast_mul ..).symm
  by_cases h0 : Z = 0
  · subst h0
    have e : rg (Int.natAbs 0) (-1074 - (k : Int)) = 0 := by unfold rg; rw [Int.natAbs_zero, if_pos rfl]
    rw [e, vr_zero]
    simp only [Int.natCast_zero, Int.mul_zero, Int.zero_mul, Int.sub_self]
    omega
  · have hs := hs h0
    by_cases hn : Z < 0
    · rw [decide_eq_true hn] at hs
      rw [hs, if_pos rfl, Int.neg_mul, Int.one_mul, Int.neg_mul, hc]
      generalize vr (rg Z.natAbs (-1074 - (k : Int))) * 2 ^ k = X at *
      generalize 2 ^ (ul + k) = Y at *
      omega
    · rw [decide_eq_false hn] at hs
      rw [hs, if_neg Bool.false_ne_true, Int.one_mul, hc]
      generalize vr (rg Z.natAbs (-1074 - (k : Int))) * 2 ^ k = X at *
      generalize 2 ^ (ul + k) = Y at *
      omega
/-- what a word is worth -/
def u : Rat := ((2 ^ ul : Nat) : Rat)⁻¹
def V (x : Nat) : Rat := (fz x : Rat) * u
def eps : Rat := 1 / 18014398509481984
theorem eps_eq : eps * 18014398509481984 = 1 := by unfold eps; grind
/-- not farther apart than E -/
structure nb (a b E : Rat) : Prop where
  lo : b - a ≤ E
  hi : a - b ≤ E
theorem pos_ul : (0 : Rat) < ((2 ^ ul : Nat) : Rat) := Rat.natCast_pos.2 (Nat.two_pow_pos _)
theorem u_mul : u * ((2 ^ ul : Nat) : Rat) = 1 := by
  have h := pos_ul
  exact Rat.inv_mul_cancel _ (by grind)
theorem u_pos : 0 < u := Rat.inv_pos.2 pos_ul
theorem u_nonneg : 0 ≤ u := Rat.le_of_lt u_pos
/-- from whole numbers to what they are worth -/
theorem le_of_int {a b : Int} (h : a ≤ b) : (a : Rat) ≤ (b : Rat) := Rat.intCast_le_intCast.2 h
theorem nat_int (n : Nat) : ((n : Int) : Rat) = ((n : Nat) : Rat) := Rat.intCast_natCast n
theorem bound_int {Z : Int} {K : Nat} (h1 : -((K : Nat) : Rat) ≤ (Z : Rat)) (h2 : (Z : Rat) ≤ ((K : Nat) : Rat)) : Z.natAbs ≤ K := by
  rw [← nat_int] at h1 h2
  rw [← Rat.intCast_neg] at h1
  have h3 := Rat.intCast_le_intCast.1 h1
  have h4 := Rat.intCast_le_intCast.1 h2
  omega
theorem scale_le {a b : Rat} (h : a * u ≤ b) : a ≤ b * ((2 ^ ul : Nat) : Rat) := by
  have h1 := Rat.mul_le_mul_of_nonneg_right h (Rat.le_of_lt pos_ul)
  have h2 := u_mul
  have e : a * u * ((2 ^ ul : Nat) : Rat) = a * (u * ((2 ^ ul : Nat) : Rat)) := by grind
  rw [e, h2] at h1
  grind
theorem rat_of {F Z : Int} {K : Nat} {g : Rat} (hg : 0 ≤ g) (h : 2 ^ 54 * (F - Z) ≤ ((K : Nat) : Int)) (hK : g * ((K : Nat) : Rat) = 1) : (F : Rat) * g - (Z : Rat) * g ≤ eps := by
  have g2 := le_of_int h
  rw [Rat.intCast_mul, Rat.intCast_sub, nat_int] at g2
  have k2 := Rat.mul_le_mul_of_nonneg_right g2 hg
  have he := eps_eq
  have hp : ((2 ^ 54 : Int) : Rat) = 18014398509481984 := by decide
  rw [hp] at k2
  grind
/-- whatever is rounded: at one scale, and at that scale twice -/
theorem near_rat {s : Bool} {Z : Int} (hs : Z ≠ 0 → s = decide (Z < 0)) (h1 : -1 ≤ (Z : Rat) * u) (h2 : (Z : Rat) * u ≤ 1) :
    fin (double.nearest s Z.natAbs (-1074)) ∧ nb (V (double.nearest s Z.natAbs (-1074))) ((Z : Rat) * u) eps := by
  have b2 := scale_le h2
  have b1 := scale_le (a := -(Z : Rat)) (b := 1) (by grind)
  have hb : Z.natAbs ≤ 2 ^ (ul + 0) := bound_int (K := 2 ^ (ul + 0)) (by rw [Nat.add_zero]; grind) (by rw [Nat.add_zero]; grind)
  obtain ⟨f1, f2, f3⟩ := near_int (k := 0) hs hb
  rw [show (-1074 - ((0 : Nat) : Int)) = -1074 by rfl] at f1 f2 f3
  rw [Nat.pow_zero, Int.natCast_one, Int.mul_one, Nat.add_zero] at f2 f3
  exact ⟨f1, rat_of u_nonneg f3 u_mul, rat_of u_nonneg f2 u_mul⟩
theorem near_rat2 {s : Bool} {Z : Int} (hs : Z ≠ 0 → s = decide (Z < 0)) (h1 : -1 ≤ (Z : Rat) * (u * u)) (h2 : (Z : Rat) * (u * u) ≤ 1) :
    fin (double.nearest s Z.natAbs (-2148)) ∧ nb (V (double.nearest s Z.natAbs (-2148))) ((Z : Rat) * (u * u)) eps := by
  have hu := u_mul
  have c2 := scale_le (a := (Z : Rat) * u) (b := 1) (by grind)
  have c1 := scale_le (a := -((Z : Rat) * u)) (b := 1) (by grind)
  have b2 := scale_le (a := (Z : Rat)) (b := 1 * ((2 ^ ul : Nat) : Rat)) c2
  have b1 := scale_le (a := -(Z : Rat)) (b := 1 * ((2 ^ ul : Nat) : Rat)) (by grind)
  have ep : ((2 ^ (ul + ul) : Nat) : Rat) = ((2 ^ ul : Nat) : Rat) * ((2 ^ ul : Nat) : Rat) := by rw [Nat.pow_add, Rat.natCast_mul]
  have hb : Z.natAbs ≤ 2 ^ (ul + ul) := bound_int (K := 2 ^ (ul + ul)) (by rw [ep]; grind) (by rw [ep]; grind)
  obtain ⟨f1, f2, f3⟩ := near_int (k := ul) hs hb
  rw [show (-1074 - ((ul : Nat) : Int)) = -2148 by have := ul_eq; omega] at f1 f2 f3
  have hK : u * u * ((2 ^ (ul + ul) : Nat) : Rat) = 1 := by
    rw [ep]
    have e : u * u * (((2 ^ ul : Nat) : Rat) * ((2 ^ ul : Nat) : Rat)) = (u * ((2 ^ ul : Nat) : Rat)) * (u * ((2 ^ ul : Nat) : Rat)) := by grind
    rw [e, hu, Rat.mul_one]
  have hg : 0 ≤ u * u := Rat.mul_nonneg u_nonneg u_nonneg
  have k3 := rat_of hg f3 hK
  have k2 := rat_of hg f2 hK
  rw [Rat.intCast_mul, nat_int] at k2 k3
  have e : (fz (double.nearest s Z.natAbs (-2148)) : Rat) * ((2 ^ ul : Nat) : Rat) * (u * u) = V (double.nearest s Z.natAbs (-2148)) := by
    unfold V
    have : (fz (double.nearest s Z.natAbs (-2148)) : Rat) * ((2 ^ ul : Nat) : Rat) * (u * u) = (fz (double.nearest s Z.natAbs (-2148)) : Rat) * (u * ((2 ^ ul : Nat) : Rat)) * u := by grind
    rw [this, hu, Rat.mul_one]
  rw [e] at k2 k3
  exact ⟨f1, k3, k2⟩
/-- a sum -/
theorem add_err {x y : Nat} (hx : fin x) (hy : fin y) (h1 : -1 ≤ V x + V y) (h2 : V x + V y ≤ 1) : ∃ r, double.add x y = some r ∧ fin r ∧ nb (V r) (V x + V y) eps := by
  have eV : V x + V y = ((fz x + fz y : Int) : Rat) * u := by unfold V; rw [Rat.intCast_add]; grind
  rw [eV] at h1 h2 ⊢
  have hs : fz x + fz y ≠ 0 → (if fz x + fz y = 0 then sg x && sg y else decide (fz x + fz y < 0)) = decide (fz x + fz y < 0) := by
    intro h; rw [if_neg h]
  exact ⟨_, add_fin hx hy, near_rat hs h1 h2⟩
theorem V_ng {x : Nat} (h : x < 18446744073709551616) : V (ng x) = - V x := by unfold V; rw [fz_ng h, Rat.intCast_neg]; grind
theorem sub_err {x y : Nat} (hx : fin x) (hy : fin y) (h1 : -1 ≤ V x - V y) (h2 : V x - V y ≤ 1) : ∃ r, double.sub x y = some r ∧ fin r ∧ nb (V r) (V x - V y) eps := by
  have e : V x - V y = V x + V (ng y) := by rw [V_ng hy.1]; grind
  rw [sub_eq x hy.1, e]
  exact add_err hx (fin_ng hy) (by grind) (by grind)
theorem sign_mul {x y : Nat} : fz x * fz y ≠ 0 → (sg x ^^ sg y) = decide (fz x * fz y < 0) := by
  rw [fz_eq, fz_eq]
  intro h
  have key : ∀ a b : Nat, (a : Int) * (b : Int) ≠ 0 → 0 < (a : Int) * (b : Int) := by
    intro a b hab
    have : 0 ≤ (a : Int) * (b : Int) := Int.mul_nonneg (by omega) (by omega)
    omega
  have k := key (vl x) (vl y)
  have e : ∀ s t : Bool, ((if s = true then (-1 : Int) else 1) * (vl x : Int)) * ((if t = true then (-1 : Int) else 1) * (vl y : Int)) = (if (s ^^ t) = true then -1 else 1) * ((vl x : Int) * (vl y : Int)) := by
    intro s t
    cases s <;> cases t <;> simp [Int.neg_mul, Int.mul_neg]
  rw [e] at h ⊢
  generalize (sg x ^^ sg y) = s at *
  generalize (vl x : Int) * (vl y : Int) = p at *
  cases s
  · simp only [Bool.false_eq_true, if_false, Int.one_mul] at h ⊢
    have := k h
    exact (decide_eq_false (by omega)).symm
  · simp only [if_true, Int.neg_mul, Int.one_mul] at h ⊢
    have := k (by omega)
    exact (decide_eq_true (by omega)).symm
/-- a product -/
theorem mul_err {x y : Nat} (hx : fin x) (hy : fin y) (h1 : -1 ≤ V x * V y) (h2 : V x * V y ≤ 1) : ∃ r, double.mul x y = some r ∧ fin r ∧ nb (V r) (V x * V y) eps := by
  have eV : V x * V y = ((fz x * fz y : Int) : Rat) * (u * u) := by unfold V; rw [Rat.intCast_mul]; grind
  rw [eV] at h1 h2 ⊢
  have en : (fz x * fz y).natAbs = vl x * vl y := by rw [Int.natAbs_mul, vl_abs, vl_abs]
  have := near_rat2 (s := sg x ^^ sg y) sign_mul h1 h2
  rw [en] at this
  exact ⟨_, mul_fin hx hy, this⟩
theorem sum_write (s t : Bool) (M0 N0 a b : Nat) (p : Int) : ((Datum.number s M0 (p + a)).sum (.number t N0 (p + b))).map double.write =
    some (double.nearest (if (if s then -1 else 1) * ((M0 * 2 ^ a : Nat) : Int) + (if t then -1 else 1) * ((N0 * 2 ^ b : Nat) : Int) = 0 then s && t else decide ((if s then -1 else 1) * ((M0 * 2 ^ a : Nat) : Int) + (if t then -1 else 1) * ((N0 * 2 ^ b : Nat) : Int) < 0))
      ((if s then -1 else 1) * ((M0 * 2 ^ a : Nat) : Int) + (if t then -1 else 1) * ((N0 * 2 ^ b : Nat) : Int)).natAbs p) := by
  simp only [Datum.sum, Option.map_some, Format.write]
  congr 1
  have hmin : min (p + (a : Int)) (p + (b : Int)) = p + ((min a b : Nat) : Int) := by omega
  rw [hmin]
  have c1 : min a b ≤ a := Nat.min_le_left _ _
  have c2 : min a b ≤ b := Nat.min_le_right _ _
  generalize min a b = c at *
  have e1 : (p + (a : Int) - (p + (c : Int))).toNat = a - c := by omega
  have e2 : (p + (b : Int) - (p + (c : Int))).toNat = b - c := by omega
  rw [e1, e2, signed_eq, signed_eq]
  have p1 : M0 * 2 ^ a = (M0 * 2 ^ (a - c)) * 2 ^ c := by
    rw [Nat.mul_assoc, ← Nat.pow_add]; congr 2; omega
  have p2 : N0 * 2 ^ b = (N0 * 2 ^ (b - c)) * 2 ^ c := by
    rw [Nat.mul_assoc, ← Nat.pow_add]; congr 2; omega
  rw [p1, p2]
  generalize M0 * 2 ^ (a - c) = M at *
  generalize N0 * 2 ^ (b - c) = N at *
  have hT : (if s then -1 else 1) * ((M * 2 ^ c : Nat) : Int) + (if t then -1 else 1) * ((N * 2 ^ c : Nat) : Int) = ((if s then -1 else 1) * (M : Int) + (if t then -1 else 1) * (N : Int)) * ((2 ^ c : Nat) : Int) := by
    rw [Int.natCast_mul, Int.natCast_mul, ← Int.mul_assoc, ← Int.mul_assoc, ← Int.add_mul]
  rw [hT]
  generalize ((if s then -1 else 1) * (M : Int) + (if t then -1 else 1) * (N : Int)) = T
  have hp : 0 < ((2 ^ c : Nat) : Int) := by have := Nat.two_pow_pos c; omega
  have z1 : (T * ((2 ^ c : Nat) : Int) = 0) = (T = 0) := by
    apply propext; constructor
    · intro h; rcases Int.mul_eq_zero.1 h with h | h
      · exact h
      · omega
    · intro h; rw [h, Int.zero_mul]
  have z2 : (T * ((2 ^ c : Nat) : Int) < 0) = (T < 0) := by
    apply propext; constructor
    · intro h
      by_cases h0 : T < 0
      · exact h0
      · have := Int.mul_nonneg (show 0 ≤ T by omega) (show 0 ≤ ((2 ^ c : Nat) : Int) by omega); omega
    · intro h; exact Int.mul_neg_of_neg_of_pos h hp
  simp only [z1, z2, Int.natAbs_mul, Int.natAbs_natCast]
  rw [nearest_scale]
theorem fma_fin {x y z : Nat} (hx : fin x) (hy : fin y) (hz : fin z) : ∃ s, (fz x * fz y + fz z * ((2 ^ ul : Nat) : Int) ≠ 0 → s = decide (fz x * fz y + fz z * ((2 ^ ul : Nat) : Int) < 0)) ∧
    double.fma x y z = some (double.nearest s (fz x * fz y + fz z * ((2 ^ ul : Nat) : Int)).natAbs (-2148)) := by
  have e1 : double.leastPlace + (ex (x % 9223372036854775808) : Int) + (double.leastPlace + (ex (y % 9223372036854775808) : Int)) = -2148 + ((ex (x % 9223372036854775808) + ex (y % 9223372036854775808) : Nat) : Int) := by
    rw [least_d]; omega
  have e2 : double.leastPlace + (ex (z % 9223372036854775808) : Int) = -2148 + ((ul + ex (z % 9223372036854775808) : Nat) : Int) := by
    rw [least_d]; have := ul_eq; omega
  have hT : (if (sg x ^^ sg y) then -1 else 1) * ((mg (x % 9223372036854775808) * mg (y % 9223372036854775808) * 2 ^ (ex (x % 9223372036854775808) + ex (y % 9223372036854775808)) : Nat) : Int) + (if sg z then -1 else 1) * ((mg (z % 9223372036854775808) * 2 ^ (ul + ex (z % 9223372036854775808)) : Nat) : Int) = fz x * fz y + fz z * ((2 ^ ul : Nat) : Int) := by
    have q1 : mg (x % 9223372036854775808) * mg (y % 9223372036854775808) * 2 ^ (ex (x % 9223372036854775808) + ex (y % 9223372036854775808)) = vl x * vl y := by
      unfold vl vr
      rw [Nat.pow_add]; simp only [Nat.mul_assoc, Nat.mul_left_comm]
    have q2 : mg (z % 9223372036854775808) * 2 ^ (ul + ex (z % 9223372036854775808)) = vl z * 2 ^ ul := by
      unfold vl vr
      rw [Nat.pow_add]; simp only [Nat.mul_assoc, Nat.mul_comm]
    rw [q1, q2, fz_eq, fz_eq, fz_eq, Int.natCast_mul, Int.natCast_mul]
    generalize sg x = s
    generalize sg y = t
    cases s <;> cases t <;> simp [Int.neg_mul, Int.mul_neg, Int.mul_assoc]
  refine ⟨if fz x * fz y + fz z * ((2 ^ ul : Nat) : Int) = 0 then (sg x ^^ sg y) && sg z else decide (fz x * fz y + fz z * ((2 ^ ul : Nat) : Int) < 0), fun h => if_neg h, ?_⟩
  · unfold Format.fma
    rw [read_fin x hx.1 hx.2, read_fin y hy.1 hy.2, read_fin z hz.1 hz.2]
    simp only [Datum.product, Option.bind_some]
    rw [e1, e2, sum_write]
    have hT' := hT
    unfold sg at hT'
    rw [hT']
    rfl
theorem fma_err {x y z : Nat} (hx : fin x) (hy : fin y) (hz : fin z) (h1 : -1 ≤ V x * V y + V z) (h2 : V x * V y + V z ≤ 1) : ∃ r, double.fma x y z = some r ∧ fin r ∧ nb (V r) (V x * V y + V z) eps := by
  have hu := u_mul
  have eV : V x * V y + V z = ((fz x * fz y + fz z * ((2 ^ ul : Nat) : Int) : Int) : Rat) * (u * u) := by
    unfold V
    rw [Rat.intCast_add, Rat.intCast_mul, Rat.intCast_mul, nat_int]
    have : (fz z : Rat) * u = (fz z : Rat) * u * (u * ((2 ^ ul : Nat) : Rat)) := by rw [hu, Rat.mul_one]
    grind
  rw [eV] at h1 h2 ⊢
  obtain ⟨s, hs, hf⟩ := fma_fin hx hy hz
  exact ⟨_, hf, near_rat2 hs h1 h2⟩
end Go.Proofs.YtgfmimmiaalhcaaDoor.Rp
