/-
  Plain mathematics: the exact sum times a power of two.
-/
import Derived.Test.YtmfnjmgdindlaaaNo9
import Derived.Test.YtmfnjmgdindlaaaSc9
namespace Go.Proofs.Ytmfnjmgdindlaaa.Sd
open Ieee Go.Proofs.Ytmfnjmgdindlaaa.Ari Go.Proofs.Ytmfnjmgdindlaaa.Sm
open Go.Proofs.Ytmfnjmgdindlaaa.Flo (nanB sv mg ex mg_lt)
open Go.Proofs.Ytmfnjmgdindlaaa (co pw bt)
theorem rgk {m : Nat} (h : 116 ≤ m.log2) {k : Int} (h1 : -64 ≤ k) (h2 : k ≤ 64) : (rg m (k - 1074) : Int) = rg m (-1074) + k * 4503599627370496 := by
  have hm : m ≠ 0 := fun e => by rw [e] at h; simp at h
  by_cases c : 0 ≤ k
  · have := rg_shift hm (i := -1074) (by omega) k.toNat
    rw [show (-1074 : Int) + (k.toNat : Int) = k - 1074 by omega] at this
    rw [this]
    omega
  · have := rg_shift hm (i := k - 1074) (by omega) (-k).toNat
    rw [show k - 1074 + ((-k).toNat : Int) = -1074 by omega] at this
    rw [this]
    omega
theorem rg_vr {r : Nat} (h : r < 9218868437227405312) : rg (vr r) (-1074) = r := by
  have := (rg_rep (a := mg r) (k := ex r) (mg_lt r) (vr_lt h)).2
  exact vr_inj.1 this
theorem log_vr {r e : Nat} (he : e * 4503599627370496 + 4503599627370496 ≤ r) : 52 + e ≤ (vr r).log2 := by
  have h1 := vr_rung (e := e) (k := 4503599627370496) (by omega) (.inr (Nat.le_refl _))
  have h2 : vr (e * 4503599627370496 + 4503599627370496) ≤ vr r := by
    rcases Nat.lt_or_eq_of_le he with h | h
    · exact Nat.le_of_lt (vr_mono h)
    · rw [h]; exact Nat.le_refl _
  rw [h1] at h2
  have hp := Nat.two_pow_pos e
  have hne : vr r ≠ 0 := by omega
  apply (Nat.le_log2 hne).2
  rw [Nat.pow_add]
  exact h2
theorem vr_move {r r' : Nat} {k : Int} (h1 : -64 ≤ k) (hr : 122 * 4503599627370496 + 4503599627370496 ≤ r) (e : (r' : Int) = r + k * 4503599627370496) : vr r' * 2 ^ 64 = vr r * 2 ^ (64 + k).toNat := by
  have e1 : ((ex r' : Nat) : Int) = ex r + k := by unfold ex; omega
  have e2 : mg r' = mg r := by
    have h4 := Flo.mg_eq r'
    have h5 := Flo.mg_eq r
    generalize mg r' = a at *
    generalize mg r = b at *
    generalize ex r' = c at *
    generalize ex r = d at *
    omega
  unfold vr
  rw [e2, Nat.mul_assoc, Nat.mul_assoc, ← Nat.pow_add, ← Nat.pow_add]
  congr 2
  omega
theorem pw_facts {k : Int} (h1 : -64 ≤ k) (h2 : k ≤ 64) : fin (pw k) ∧ sg (pw k) = false ∧ vl (pw k) = 2 ^ (1074 + k).toNat := by
  obtain ⟨e, he⟩ : ∃ e : Nat, (e : Int) = 1022 + k := ⟨(1022 + k).toNat, by omega⟩
  have hp : pw k = e * 4503599627370496 + 4503599627370496 := by unfold pw; omega
  refine ⟨⟨by omega, by omega⟩, by unfold sg; exact decide_eq_false (by omega), ?_⟩
  unfold vl
  rw [Nat.mod_eq_of_lt (by omega), hp, vr_rung (by omega) (.inr (Nat.le_refl _)), show (4503599627370496 : Nat) = 2 ^ 52 from rfl, ← Nat.pow_add]
  congr 1
  omega
/-- times 2^k, as a float -/
theorem mul_pw {x : Nat} (hx : fin x) {k : Int} (h1 : -64 ≤ k) (h2 : k ≤ 64) : co .mul x (pw k) = double.word (sg x) (min (rg (vl x) (k - 1074)) 9218868437227405312) := by
  obtain ⟨p1, p2, p3⟩ := pw_facts h1 h2
  have := mul_fin hx p1
  unfold co
  rw [show floatBits .mul .f64 x (pw k) = double.mul x (pw k) from rfl, this, p2, p3, nearest_scale, Bool.xor_false]
  show double.nearest _ _ _ = _
  rw [nearest_eq]
  congr 3
  omega
/-- 0, or of a size from 2^-900 to 2^900 -/
def Ok (x : Nat) : Prop := x < 18446744073709551616 ∧ (x % 9223372036854775808 = 0 ∨ (pw (-900) ≤ x % 9223372036854775808 ∧ x % 9223372036854775808 ≤ pw 900))
theorem Ok.fin {x : Nat} (h : Ok x) : fin x := by
  have e : pw 900 = 1923 * 4503599627370496 := by decide
  refine ⟨h.1, ?_⟩
  rcases h.2 with h | h <;> omega
theorem mul_zero {x : Nat} (h : x < 18446744073709551616) (hz : x % 9223372036854775808 = 0) {k : Int} (h1 : -64 ≤ k) (h2 : k ≤ 64) : co .mul x (pw k) % 9223372036854775808 = 0 := by
  rw [mul_pw ⟨h, by omega⟩ h1 h2]
  have : vl x = 0 := by unfold vl; rw [hz]; exact vr_zero
  rw [this, show rg 0 (k - 1074) = 0 by unfold rg; rw [if_pos rfl], word_eq]
  cases sg x <;> decide
theorem elem {x : Nat} (h : Ok x) {k : Int} (h1 : -64 ≤ k) (h2 : k ≤ 64) : fin (co .mul x (pw k)) ∧ uq (co .mul x (pw k)) * 2 ^ 64 = uq x * 2 ^ (64 + k).toNat ∧ dq (co .mul x (pw k)) * 2 ^ 64 = dq x * 2 ^ (64 + k).toNat := by
  have e0 : pw (-900) = 122 * 4503599627370496 + 4503599627370496 := by decide
  have e1 : pw 900 = 1923 * 4503599627370496 := by decide
  rcases h.2 with hz | ⟨ha, hb⟩
  · have hy := mul_zero h.1 hz h1 h2
    have hyl : co .mul x (pw k) < 18446744073709551616 := co_lt _ _ _
    have z : ∀ y : Nat, y < 18446744073709551616 → y % 9223372036854775808 = 0 → uq y = 0 ∧ dq y = 0 := fun y hy1 hy2 => by
      unfold uq dq
      by_cases c : y < 9223372036854775808
      · rw [if_pos c, if_pos c, show y = 0 by omega]; exact ⟨vr_zero, rfl⟩
      · rw [if_neg c, if_neg c, hy2]; exact ⟨rfl, vr_zero⟩
    obtain ⟨a1, a2⟩ := z _ hyl hy
    obtain ⟨b1, b2⟩ := z _ h.1 hz
    rw [a1, a2, b1, b2]
    exact ⟨⟨hyl, by omega⟩, by simp, by simp⟩
  · have hl := log_vr (r := x % 9223372036854775808) (e := 122) (by omega)
    have hr : x % 9223372036854775808 < 9218868437227405312 := by omega
    have hk := rgk (m := vr (x % 9223372036854775808)) (by omega) h1 h2
    rw [rg_vr hr] at hk
    have hm := mul_pw h.fin h1 h2
    have hv : vl x = vr (x % 9223372036854775808) := rfl
    rw [hv] at hm
    generalize hR : rg (vr (x % 9223372036854775808)) (k - 1074) = R at hk hm
    have hRl : R < 9218868437227405312 := by omega
    rw [Nat.min_eq_left (by omega), word_eq] at hm
    have hmove := vr_move (r := x % 9223372036854775808) (r' := R) h1 (by omega) hk
    rw [hm]
    unfold sg uq dq
    by_cases c : x < 9223372036854775808
    · have c' : ¬ 9223372036854775808 ≤ x := by omega
      simp only [c', decide_false, Bool.false_eq_true, if_false, c, if_true]
      rw [if_pos (by omega), if_pos (by omega)]
      rw [Nat.mod_eq_of_lt c] at hmove
      exact ⟨⟨by omega, by omega⟩, hmove, by simp⟩
    · have c' : 9223372036854775808 ≤ x := by omega
      simp only [c', decide_true, if_true, c, if_false]
      rw [if_neg (by omega), if_neg (by omega), show (9223372036854775808 + R) % 9223372036854775808 = R by omega]
      exact ⟨⟨by omega, by omega⟩, by simp, hmove⟩
theorem sums {xs : List Nat} (h : ∀ x ∈ xs, Ok x) {k : Int} (h1 : -64 ≤ k) (h2 : k ≤ 64) : Sm.up (xs.map fun x => co .mul x (pw k)) * 2 ^ 64 = Sm.up xs * 2 ^ (64 + k).toNat ∧ Sm.dn (xs.map fun x => co .mul x (pw k)) * 2 ^ 64 = Sm.dn xs * 2 ^ (64 + k).toNat := by
  induction xs with
  | nil => simp [Sm.up, Sm.dn]
  | cons a t ih =>
    obtain ⟨_, e1, e2⟩ := elem (h a (by simp)) h1 h2
    obtain ⟨i1, i2⟩ := ih (fun x hx => h x (by simp [hx]))
    simp only [Sm.up, Sm.dn, List.map_cons, List.sum_cons, Nat.add_mul] at *
    rw [e1, e2, i1, i2]
    exact ⟨rfl, rfl⟩
theorem rg_pos {n : Nat} (h : 0 < n) : 0 < rg n (-1074) := by
  have := rg_mono_at (show 1 ≤ n from h) (-1074)
  rw [rg_low (show 1 < 9007199254740992 by decide)] at this
  omega
theorem log_of_rg {n : Nat} (h : 73 * 4503599627370496 ≤ rg n (-1074)) : 116 ≤ n.log2 := by
  have hn : n ≠ 0 := fun e => by rw [e, rg_low (by decide)] at h; omega
  apply Nat.le_of_not_lt
  intro hlt
  have h1 : n < 2 ^ 116 := (Nat.log2_lt hn).1 hlt
  have h2 := rg_mono_at (Nat.le_of_lt h1) (-1074)
  rw [rg_high (n := 2 ^ 116) (d := 64) (Nat.le_refl _) (by decide)] at h2
  have h3 : rhe (2 ^ 116) 64 = 2 ^ 52 := rhe_exact (2 ^ 52) 64
  rw [h3] at h2
  omega
theorem scaled {xs : List Nat} (h : ∀ x ∈ xs, Ok x) {k : Int} (h1 : -64 ≤ k) (h2 : k ≤ 64)
    (hw : exB xs % 9223372036854775808 = 0 ∨ (pw (-950) ≤ exB xs % 9223372036854775808 ∧ exB xs % 9223372036854775808 ≤ pw 950)) :
    nanB (exB (xs.map fun x => co .mul x (pw k))) = false ∧ nanB (co .mul (exB xs) (pw k)) = false ∧ sv (exB (xs.map fun x => co .mul x (pw k))) = sv (co .mul (exB xs) (pw k)) := by
  have e0 : pw (-950) = 73 * 4503599627370496 := by decide
  have e1 : pw 950 = 1973 * 4503599627370496 := by decide
  obtain ⟨s1, s2⟩ := sums h h1 h2
  have f1 := Wn.exB_fin (xs := xs) (fun x hx => (h x hx).fin)
  have f2 := Wn.exB_fin (xs := xs.map fun x => co .mul x (pw k)) (fun y hy => by
    obtain ⟨x, hx, rfl⟩ := List.mem_map.1 hy
    exact (elem (h x hx) h1 h2).1)
  have v1 := sv_fin xs
  have v2 := sv_fin (xs.map fun x => co .mul x (pw k))
  have z1 := @Wn.allZ_ud xs
  have n2 := nan_exV (xs.map fun x => co .mul x (pw k))
  rw [← f1] at v1
  rw [← f2] at v2 n2
  refine ⟨n2, ?_⟩
  rw [v2]
  have hSl := exB_lt xs
  generalize Sm.up (xs.map fun x => co .mul x (pw k)) = u' at *
  generalize Sm.dn (xs.map fun x => co .mul x (pw k)) = d' at *
  have hJ := Nat.two_pow_pos (64 + k).toNat
  have lt : ∀ a b : Nat, a * 2 ^ (64 + k).toNat < b * 2 ^ (64 + k).toNat ↔ a < b := fun a b => ⟨fun h => Nat.lt_of_mul_lt_mul_right h, fun h => Nat.mul_lt_mul_of_pos_right h hJ⟩
  have cmp : u' < d' ↔ Sm.up xs < Sm.dn xs := by
    rw [← lt (Sm.up xs) (Sm.dn xs), ← s1, ← s2]; omega
  have cmp2 : d' < u' ↔ Sm.dn xs < Sm.up xs := by
    rw [← lt (Sm.dn xs) (Sm.up xs), ← s1, ← s2]; omega
  by_cases heq : Sm.up xs = Sm.dn xs
  · have hu : u' = d' := by omega
    have z0 : ∀ a : Nat, exF a a = 0 := fun a => by unfold exF; rw [if_neg (by omega), Nat.sub_self]; exact rd_zero
    rw [heq, z0] at v1
    rw [hu, z0]
    have hz : exB xs % 9223372036854775808 = 0 := by
      have v0 : sv 0 = 0 := by decide
      rw [v0] at v1
      unfold sv at v1
      split at v1 <;> omega
    have hT := mul_zero hSl hz h1 h2
    have hTl : co .mul (exB xs) (pw k) < 18446744073709551616 := co_lt _ _ _
    refine ⟨by unfold nanB; rw [decide_eq_false_iff_not]; omega, ?_⟩
    generalize co .mul (exB xs) (pw k) = T at *
    unfold sv
    by_cases c : T < 9223372036854775808
    · rw [if_pos c]; simp; omega
    · rw [if_neg c]; simp; omega
  · have ha : allZ xs = false := by
      cases e : allZ xs
      · rfl
      · have := z1 e; omega
    rw [ha, if_neg Bool.false_ne_true] at f1
    -- the size that is left
    have core : ∀ (N N' : Nat) (b : Bool), N' * 2 ^ 64 = N * 2 ^ (64 + k).toNat → 0 < N → exB xs = (if b then 9223372036854775808 + rd N else rd N) →
        nanB (co .mul (exB xs) (pw k)) = false ∧ co .mul (exB xs) (pw k) = if b then 9223372036854775808 + rd N' else rd N' := by
      intro N N' b hN hp hS
      have hmod : exB xs % 9223372036854775808 = rd N := by
        have := rd_le N
        rw [hS]; cases b
        · simp; omega
        · simp; omega
      have hpos := rg_pos hp
      have hrdpos : 0 < rd N := by unfold rd; omega
      rw [hmod] at hw
      have hw2 : 73 * 4503599627370496 ≤ rd N ∧ rd N ≤ 1973 * 4503599627370496 := by
        rcases hw with h | ⟨ha, hb⟩
        · omega
        · omega
      have hr : rd N = rg N (-1074) := by unfold rd at *; omega
      have hlog : 116 ≤ N.log2 := log_of_rg (by omega)
      have k1 := rgk hlog h1 h2
      have hN' : rg N' (-1074) = rg N (k - 1074) := by
        have a1 := rg_scale N' 64 (-1138)
        have a2 := rg_scale N (64 + k).toNat (-1138)
        rw [hN, a2] at a1
        rw [show (-1138 : Int) + ((64 : Nat) : Int) = -1074 by omega] at a1
        rw [← a1]
        congr 1; omega
      have hfin : fin (exB xs) := ⟨hSl, by omega⟩
      have hm := mul_pw hfin h1 h2
      have hvl : vl (exB xs) = vr (rd N) := by unfold vl; rw [hmod]
      have hl2 := log_vr (r := rd N) (e := 72) (by omega)
      have k2 := rgk (m := vr (rd N)) (by omega) h1 h2
      rw [rg_vr (by omega)] at k2
      have hsg : sg (exB xs) = b := by
        unfold sg
        rw [hS]
        have := rd_le N
        cases b
        · simp; omega
        · simp
      rw [hvl, hsg, word_eq] at hm
      have hRR : rg (vr (rd N)) (k - 1074) = rg N' (-1074) := by omega
      rw [hRR] at hm
      have hrd' : rd N' = min (rg N' (-1074)) 9218868437227405312 := rfl
      rw [← hrd'] at hm
      refine ⟨?_, hm⟩
      rw [hm]
      have := rd_le N'
      unfold nanB; rw [decide_eq_false_iff_not]
      cases b
      · simp; omega
      · simp; omega
    by_cases c : Sm.up xs < Sm.dn xs
    · have c' := cmp.2 c
      have hN : (d' - u') * 2 ^ 64 = (Sm.dn xs - Sm.up xs) * 2 ^ (64 + k).toNat := by rw [Nat.sub_mul, Nat.sub_mul, s1, s2]
      obtain ⟨r1, r2⟩ := core (Sm.dn xs - Sm.up xs) (d' - u') true hN (by omega) (by rw [f1]; unfold exF; rw [if_pos c]; rfl)
      refine ⟨r1, ?_⟩
      rw [r2]
      unfold exF
      rw [if_pos c', if_pos rfl]
    · have c' : ¬ u' < d' := fun h => c (cmp.1 h)
      have hN : (u' - d') * 2 ^ 64 = (Sm.up xs - Sm.dn xs) * 2 ^ (64 + k).toNat := by rw [Nat.sub_mul, Nat.sub_mul, s1, s2]
      obtain ⟨r1, r2⟩ := core (Sm.up xs - Sm.dn xs) (u' - d') false hN (by omega) (by rw [f1]; unfold exF; rw [if_neg c]; rfl)
      refine ⟨r1, ?_⟩
      rw [r2]
      unfold exF
      rw [if_neg c', if_neg Bool.false_ne_true]
end Go.Proofs.Ytmfnjmgdindlaaa.Sd
