/-
  Plain mathematics: sums and products of numbers that are turned or scaled by a power of two, where what comes out is calm.
-/
import Derived.Test.YtehaokdjdhejlaaDoorDs0
import Derived.Test.YtehaokdjdhejlaaDoorRts
namespace Go.Proofs.YtehaokdjdhejlaaDoor.Tr
open Ieee Go.Proofs.YtehaokdjdhejlaaDoor.Ari
open Go.Proofs.YtehaokdjdhejlaaDoor.Flo (nanB mg ex mg_lt)
open Go.Proofs.YtehaokdjdhejlaaDoor (co bt)
/-- 2^k, as a float -/
def pw (k : Int) : Nat := (1023 + k).toNat * 4503599627370496
/-- 0, or of a size from 2^-900 to 2^900 -/
def Ok (x : Nat) : Prop := x < 18446744073709551616 ∧ (x % 9223372036854775808 = 0 ∨ (pw (-900) ≤ x % 9223372036854775808 ∧ x % 9223372036854775808 ≤ pw 900))
theorem pw_lo : pw (-900) = 123 * 4503599627370496 := by decide
theorem pw_hi : pw 900 = 1923 * 4503599627370496 := by decide
theorem Ok.fin {x : Nat} (h : Ok x) : fin x := by
  have e := pw_hi
  refine ⟨h.1, ?_⟩
  rcases h.2 with h | h <;> omega
theorem rgk {m : Nat} {i : Int} (hm : m ≠ 0) (h : -958 ≤ i + m.log2) {k : Int} (h1 : -64 ≤ k) (h2 : k ≤ 64) : (rg m (i + k) : Int) = rg m i + k * 4503599627370496 := by
  by_cases c : 0 ≤ k
  · have := rg_shift hm (i := i) (by omega) k.toNat
    rw [show i + (k.toNat : Int) = i + k by omega] at this
    rw [this]
    omega
  · have := rg_shift hm (i := i + k) (by omega) (-k).toNat
    rw [show i + k + ((-k).toNat : Int) = i by omega] at this
    rw [this]
    omega
theorem rg_one : rg 1 (-958) = 65 * 4503599627370496 := by decide +kernel
theorem log_rg {m : Nat} {i : Int} (h : 73 * 4503599627370496 ≤ rg m i) : m ≠ 0 ∧ -958 ≤ i + m.log2 := by
  have hm : m ≠ 0 := fun e => by
    rw [e, show rg 0 i = 0 by unfold rg; rw [if_pos rfl]] at h; omega
  refine ⟨hm, ?_⟩
  apply Int.not_lt.1
  intro c
  have h1 : m ≤ 2 ^ (m.log2 + 1) := Nat.le_of_lt Nat.lt_log2_self
  obtain ⟨d, hd⟩ : ∃ d : Nat, i + ((m.log2 + 1 + d : Nat) : Int) = -958 := ⟨(-958 - i - m.log2 - 1).toNat, by omega⟩
  have h2 : m ≤ 1 * 2 ^ (m.log2 + 1 + d) := by
    rw [Nat.one_mul]
    exact Nat.le_trans h1 (Nat.pow_le_pow_right (by omega) (by omega))
  have h3 := rg_mono_at h2 i
  rw [rg_scale, hd, rg_one] at h3
  omega
theorem vr_move {r r' : Nat} {k : Int} (h1 : -64 ≤ k) (hr : 122 * 4503599627370496 + 4503599627370496 ≤ r) (e : (r' : Int) = r + k * 4503599627370496) : vr r' * 2 ^ 64 = vr r * 2 ^ (64 + k).toNat := by
  have e1 : ((ex r' : Nat) : Int) = ex r + k := by unfold ex; omega
  have e2 : mg r' = mg r := by
    have h4 := Flo.mg_eq r'
    have h5 := Flo.mg_eq r
    generalize mg r' = a at *
    generalize mg r = b at *
    generalize ex r' = c at *
    generalize ex r = d at *
    omega
  unfold vr
  rw [e2, Nat.mul_assoc, Nat.mul_assoc, ← Nat.pow_add, ← Nat.pow_add]
  congr 2
  omega
/-- rounding goes with a power of two -/
theorem rnd {m m' : Nat} {i k : Int} (h1 : -64 ≤ k) (h2 : k ≤ 64) (hm : m' * 2 ^ 64 = m * 2 ^ (64 + k).toNat) (h0 : rg m i = 0 → m = 0) (hOk : rg m i = 0 ∨ (pw (-900) ≤ rg m i ∧ rg m i ≤ pw 900)) :
    rg m' i < 9218868437227405312 ∧ vr (rg m' i) * 2 ^ 64 = vr (rg m i) * 2 ^ (64 + k).toNat := by
  have e1 := pw_lo
  have e2 := pw_hi
  rcases hOk with hz | ⟨ha, hb⟩
  · have hm0 := h0 hz
    have hm' : m' = 0 := by
      rw [hm0, Nat.zero_mul] at hm
      rcases Nat.mul_eq_zero.1 hm with h | h
      · exact h
      · exact absurd h (Nat.ne_of_gt (Nat.two_pow_pos 64))
    have e : rg 0 i = 0 := by unfold rg; rw [if_pos rfl]
    rw [hm', hm0, e, vr_zero, Nat.zero_mul, Nat.zero_mul]
    exact ⟨by decide, rfl⟩
  · obtain ⟨hne, hl⟩ := log_rg (m := m) (i := i) (by omega)
    have e3 := rg_scale m' 64 (i - 64)
    have e4 := rg_scale m (64 + k).toNat (i - 64)
    rw [hm, e4, show i - 64 + ((64 + k).toNat : Int) = i + k by omega, show i - 64 + ((64 : Nat) : Int) = i by omega] at e3
    have e5 := rgk hne hl h1 h2
    rw [e3] at e5
    exact ⟨by omega, vr_move h1 (by omega) e5⟩
/-- x' is x turned by the sign and scaled -/
def P (σ k : Int) (x x' : Nat) : Prop := fin x ∧ fin x' ∧ fz x' * 2 ^ 64 = σ * fz x * ((2 ^ (64 + k).toNat : Nat) : Int)
def sgi (a : Int) : Int := if a < 0 then -1 else 1
/-- what is rounded: the sign and the size -/
def rz (a : Int) (i : Int) : Int := sgi a * (vr (rg a.natAbs i) : Int)
theorem core {a a' σ i k : Int} (hσ : σ = 1 ∨ σ = -1) (h1 : -64 ≤ k) (h2 : k ≤ 64) (ha : a' * 2 ^ 64 = σ * a * ((2 ^ (64 + k).toNat : Nat) : Int)) (h0 : rg a.natAbs i = 0 → a = 0) (hOk : rg a.natAbs i = 0 ∨ (pw (-900) ≤ rg a.natAbs i ∧ rg a.natAbs i ≤ pw 900)) :
    rg a'.natAbs i < 9218868437227405312 ∧ rz a' i * 2 ^ 64 = σ * rz a i * ((2 ^ (64 + k).toNat : Nat) : Int) := by
  have hp : 0 < ((2 ^ (64 + k).toNat : Nat) : Int) := by have := Nat.two_pow_pos (64 + k).toNat; omega
  have hn : a'.natAbs * 2 ^ 64 = a.natAbs * 2 ^ (64 + k).toNat := by
    have := congrArg Int.natAbs ha
    rw [Int.natAbs_mul, Int.natAbs_mul, Int.natAbs_mul, Int.natAbs_natCast] at this
    have hs : σ.natAbs = 1 := by rcases hσ with rfl | rfl <;> rfl
    rw [hs, Nat.one_mul] at this
    exact this
  obtain ⟨g1, g2⟩ := rnd h1 h2 hn (fun h => by rw [h0 h]; rfl) hOk
  refine ⟨g1, ?_⟩
  unfold rz
  by_cases hz : a = 0
  · have hz' : a' = 0 := by
      rw [hz, Int.mul_zero, Int.zero_mul] at ha
      rcases Int.mul_eq_zero.1 ha with h | h
      · exact h
      · omega
    have e : rg (0 : Int).natAbs i = 0 := by unfold rg; rw [if_pos Int.natAbs_zero]
    rw [hz, hz', e, vr_zero]
    simp
  · have hsg : sgi a' = σ * sgi a := by
      generalize ((2 ^ (64 + k).toNat : Nat) : Int) = Q at *
      unfold sgi
      rcases Int.lt_or_gt_of_ne hz with hlt | hgt
      · have hq := Int.mul_neg_of_neg_of_pos hlt hp
        rcases hσ with rfl | rfl
        · rw [Int.one_mul] at ha
          have : a' < 0 := by omega
          rw [if_pos this, if_pos hlt]; rfl
        · have e : -1 * a * Q = -(a * Q) := by rw [Int.neg_mul, Int.one_mul, Int.neg_mul]
          have : ¬ a' < 0 := by omega
          rw [if_neg this, if_pos hlt]; rfl
      · have hq := Int.mul_pos hgt hp
        rcases hσ with rfl | rfl
        · rw [Int.one_mul] at ha
          have : ¬ a' < 0 := by omega
          rw [if_neg this, if_neg (by omega)]; rfl
        · have e : -1 * a * Q = -(a * Q) := by rw [Int.neg_mul, Int.one_mul, Int.neg_mul]
          have : a' < 0 := by omega
          rw [if_pos this, if_neg (by omega)]; rfl
    have g3 : (vr (rg a'.natAbs i) : Int) * 2 ^ 64 = (vr (rg a.natAbs i) : Int) * ((2 ^ (64 + k).toNat : Nat) : Int) := by
      have := congrArg (fun n : Nat => (n : Int)) g2
      simp only [Int.natCast_mul] at this
      exact this
    rw [hsg, Int.mul_assoc, g3]
    simp only [Int.mul_assoc]
theorem fz_word (s : Bool) {r : Nat} (h : r < 9218868437227405312) : fz (double.word s r) = (if s then -1 else 1) * (vr r : Int) := by
  obtain ⟨_, h2, h3⟩ := word_facts s h
  rw [fz_eq, h2, h3]
theorem word_mod (s : Bool) {r : Nat} (h : r < 9223372036854775808) : double.word s r % 9223372036854775808 = r := by
  rw [word_eq]; cases s <;> simp <;> omega
theorem near_fz {s : Bool} {a i : Int} (hs : a ≠ 0 → s = decide (a < 0)) (h : rg a.natAbs i < 9218868437227405312) : fin (double.nearest s a.natAbs i) ∧ fz (double.nearest s a.natAbs i) = rz a i := by
  rw [nearest_eq, Nat.min_eq_left (by omega)]
  refine ⟨(word_facts s h).1, ?_⟩
  rw [fz_word s h]
  unfold rz sgi
  by_cases h0 : a = 0
  · have e : rg (0 : Int).natAbs i = 0 := by unfold rg; rw [if_pos Int.natAbs_zero]
    rw [h0, e, vr_zero]; simp
  · rw [hs h0]
    by_cases c : a < 0 <;> simp [c]
theorem near_ok {s : Bool} {m : Nat} {i : Int} (h : Ok (double.nearest s m i)) : rg m i < 9218868437227405312 ∧ double.nearest s m i % 9223372036854775808 = rg m i := by
  have e := pw_hi
  have h2 := h.2
  rw [nearest_eq] at h2 ⊢
  have hmin : min (rg m i) 9218868437227405312 < 9223372036854775808 := Nat.lt_of_le_of_lt (Nat.min_le_right _ _) (by decide)
  rw [word_mod s hmin] at h2 ⊢
  have : min (rg m i) 9218868437227405312 < 9218868437227405312 := by rcases h2 with h | h <;> omega
  have h3 : rg m i < 9218868437227405312 := by omega
  exact ⟨h3, Nat.min_eq_left (by omega)⟩
theorem rg_pos {n : Nat} (h : rg n (-1074) = 0) : n = 0 := by
  apply Nat.eq_zero_of_not_pos
  intro hp
  have h1 := rg_mono_at (show 1 ≤ n from hp) (-1074)
  have h2 : rg 1 (-1074) = 1 := by decide +kernel
  omega
theorem co_addE {x y : Nat} (hx : fin x) (hy : fin y) : co .add x y = double.nearest (if fz x + fz y = 0 then sg x && sg y else decide (fz x + fz y < 0)) (fz x + fz y).natAbs (-1074) := by
  unfold co
  rw [show floatBits .add .f64 x y = double.add x y from rfl, add_fin hx hy]
theorem co_subE {x y : Nat} (hy : fin y) : co .sub x y = co .add x (ng y) := by
  unfold co
  rw [show floatBits .sub .f64 x y = double.sub x y from rfl, show floatBits .add .f64 x (ng y) = double.add x (ng y) from rfl, sub_eq x hy.1]
theorem co_mulE {x y : Nat} (hx : fin x) (hy : fin y) : co .mul x y = double.nearest (sg x ^^ sg y) (fz x * fz y).natAbs (-2148) := by
  unfold co
  rw [show floatBits .mul .f64 x y = double.mul x y from rfl, mul_fin hx hy, Int.natAbs_mul, vl_abs, vl_abs]
theorem sg_fz {x : Nat} (h : fz x ≠ 0) : sg x = decide (fz x < 0) := by
  unfold fz at *
  cases hs : sg x
  · rw [hs] at h; simp at h ⊢; all_goals omega
  · rw [hs] at h; simp at h ⊢; all_goals omega
theorem sg_mul {x y : Nat} (h : fz x * fz y ≠ 0) : (sg x ^^ sg y) = decide (fz x * fz y < 0) := by
  have ha : fz x ≠ 0 := fun c => h (by rw [c, Int.zero_mul])
  have hb : fz y ≠ 0 := fun c => h (by rw [c, Int.mul_zero])
  rw [sg_fz ha, sg_fz hb]
  generalize fz x = a at *
  generalize fz y = b at *
  by_cases c1 : a < 0 <;> by_cases c2 : b < 0
  · have : ¬ a * b < 0 := by have := Int.mul_pos_of_neg_of_neg c1 c2; omega
    simp [c1, c2, this]
  · have : a * b < 0 := Int.mul_neg_of_neg_of_pos c1 (by omega)
    simp [c1, c2, this]
  · have : a * b < 0 := Int.mul_neg_of_pos_of_neg (by omega) c2
    simp [c1, c2, this]
  · have : ¬ a * b < 0 := by have := Int.mul_pos (show 0 < a by omega) (show 0 < b by omega); omega
    simp [c1, c2, this]
theorem add_P {σ k : Int} (hσ : σ = 1 ∨ σ = -1) (h1 : -64 ≤ k) (h2 : k ≤ 64) {x x' y y' : Nat} (hx : P σ k x x') (hy : P σ k y y') (hOk : Ok (co .add x y)) : P σ k (co .add x y) (co .add x' y') := by
  obtain ⟨a1, a2, a3⟩ := hx
  obtain ⟨b1, b2, b3⟩ := hy
  rw [co_addE a1 b1] at hOk ⊢
  rw [co_addE a2 b2]
  obtain ⟨n1, n2⟩ := near_ok hOk
  have hz := hOk.2
  rw [n2] at hz
  obtain ⟨c1, c2⟩ := core (a := fz x + fz y) (a' := fz x' + fz y') (i := -1074) hσ h1 h2 (by rw [Int.add_mul, a3, b3, ← Int.add_mul, ← Int.mul_add]) (fun h => Int.natAbs_eq_zero.1 (rg_pos h)) hz
  obtain ⟨d1, d2⟩ := near_fz (s := if fz x + fz y = 0 then sg x && sg y else decide (fz x + fz y < 0)) (a := fz x + fz y) (i := -1074) (fun h => if_neg h) n1
  obtain ⟨e1, e2⟩ := near_fz (s := if fz x' + fz y' = 0 then sg x' && sg y' else decide (fz x' + fz y' < 0)) (a := fz x' + fz y') (i := -1074) (fun h => if_neg h) c1
  exact ⟨d1, e1, by rw [d2, e2]; exact c2⟩
theorem ng_P {σ k : Int} {x x' : Nat} (h : P σ k x x') : P σ k (ng x) (ng x') := by
  obtain ⟨a1, a2, a3⟩ := h
  refine ⟨fin_ng a1, fin_ng a2, ?_⟩
  rw [fz_ng a1.1, fz_ng a2.1, Int.neg_mul, a3, Int.mul_neg, Int.neg_mul]
theorem ng_P' {σ k : Int} {x x' : Nat} (h : P σ k x x') : P (-σ) k x (ng x') := by
  obtain ⟨a1, a2, a3⟩ := h
  refine ⟨a1, fin_ng a2, ?_⟩
  rw [fz_ng a2.1, Int.neg_mul, a3, Int.neg_mul, Int.neg_mul]
theorem ng_P'' {σ k : Int} {x x' : Nat} (h : P σ k x x') : P (-σ) k (ng x) x' := by
  obtain ⟨a1, a2, a3⟩ := h
  refine ⟨fin_ng a1, a2, ?_⟩
  rw [fz_ng a1.1, a3, Int.neg_mul_neg]
theorem sub_P {σ k : Int} (hσ : σ = 1 ∨ σ = -1) (h1 : -64 ≤ k) (h2 : k ≤ 64) {x x' y y' : Nat} (hx : P σ k x x') (hy : P σ k y y') (hOk : Ok (co .sub x y)) : P σ k (co .sub x y) (co .sub x' y') := by
  rw [co_subE hy.1] at hOk ⊢
  rw [co_subE hy.2.1]
  exact add_P hσ h1 h2 hx (ng_P hy) hOk
/-- a product that is calm and has not vanished -/
def Vm (x c : Nat) : Prop := Ok (co .mul x c) ∧ (co .mul x c % 9223372036854775808 = 0 → x % 9223372036854775808 = 0 ∨ c % 9223372036854775808 = 0)
theorem fz_zero {x : Nat} (h : x % 9223372036854775808 = 0) : fz x = 0 := by
  unfold fz vl; rw [h, vr_zero]; cases sg x <;> rfl
theorem mul_P {σ k : Int} (hσ : σ = 1 ∨ σ = -1) (h1 : -64 ≤ k) (h2 : k ≤ 64) {x x' c : Nat} (hx : P σ k x x') (hc : fin c) (hV : Vm x c) : P σ k (co .mul x c) (co .mul x' c) := by
  obtain ⟨a1, a2, a3⟩ := hx
  obtain ⟨hOk, hv⟩ := hV
  rw [co_mulE a1 hc] at hOk hv ⊢
  rw [co_mulE a2 hc]
  obtain ⟨n1, n2⟩ := near_ok hOk
  have hz := hOk.2
  rw [n2] at hz hv
  obtain ⟨c1, c2⟩ := core (a := fz x * fz c) (a' := fz x' * fz c) (i := -2148) hσ h1 h2 (by rw [Int.mul_right_comm, a3]; simp only [Int.mul_assoc, Int.mul_comm (fz c)]) (fun h => by
    rcases hv h with h | h
    · rw [fz_zero h, Int.zero_mul]
    · rw [fz_zero h, Int.mul_zero]) hz
  obtain ⟨d1, d2⟩ := near_fz (s := sg x ^^ sg c) (a := fz x * fz c) (i := -2148) sg_mul n1
  obtain ⟨e1, e2⟩ := near_fz (s := sg x' ^^ sg c) (a := fz x' * fz c) (i := -2148) sg_mul c1
  exact ⟨d1, e1, by rw [d2, e2]; exact c2⟩
theorem pw_facts {k : Int} (h1 : -64 ≤ k) (h2 : k ≤ 64) : fin (pw k) ∧ sg (pw k) = false ∧ vl (pw k) = 2 ^ (1074 + k).toNat := by
  obtain ⟨e, he⟩ : ∃ e : Nat, (e : Int) = 1022 + k := ⟨(1022 + k).toNat, by omega⟩
  have hp : pw k = e * 4503599627370496 + 4503599627370496 := by unfold pw; omega
  refine ⟨⟨by omega, by omega⟩, by unfold sg; exact decide_eq_false (by omega), ?_⟩
  unfold vl
  rw [Nat.mod_eq_of_lt (by omega), hp, vr_rung (by omega) (.inr (Nat.le_refl _)), show (4503599627370496 : Nat) = 2 ^ 52 from rfl, ← Nat.pow_add]
  congr 1
  omega
theorem vr_top {r : Nat} (h : r < 9218868437227405312) : vr r < 2 ^ tp := by
  have := mg_lt r
  obtain ⟨t, ht⟩ : ∃ t : Nat, t = 2045 := ⟨_, rfl⟩
  have he : ex r ≤ t := by unfold ex; omega
  have h2 : vr r < 2 ^ 53 * 2 ^ t := by
    unfold vr
    exact Nat.lt_of_lt_of_le (Nat.mul_lt_mul_of_pos_right (by omega) (Nat.two_pow_pos _)) (Nat.mul_le_mul_left _ (Nat.pow_le_pow_right (by omega) he))
  rw [← Nat.pow_add, show 53 + t = tp by rw [ht]; rfl] at h2; exact h2
theorem rg_vr {r : Nat} (h : r < 9218868437227405312) : rg (vr r) (-1074) = r := by
  have := (rg_rep (a := mg r) (k := ex r) (mg_lt r) (vr_top h)).2
  exact vr_inj.1 this
/-- times 2^k, exact where the number is calm -/
theorem pw_P {k : Int} (h1 : -64 ≤ k) (h2 : k ≤ 64) {x : Nat} (h : Ok x) : P 1 k x (co .mul x (pw k)) := by
  obtain ⟨p1, p2, p3⟩ := pw_facts h1 h2
  have hf := h.fin
  have e1 := pw_lo
  have e2 := pw_hi
  have hc : co .mul x (pw k) = double.nearest (sg x) (vl x) (-1074 + k) := by
    unfold co
    rw [show floatBits .mul .f64 x (pw k) = double.mul x (pw k) from rfl, mul_fin hf p1, p2, p3, Bool.xor_false]
    show double.nearest _ _ _ = _
    rw [nearest_scale, show (-2148 : Int) + ((1074 + k).toNat : Int) = -1074 + k by omega]
  have hr := rg_vr hf.2
  have hk2 := h.2
  rw [hc, nearest_eq]
  have key : rg (vl x) (-1074 + k) < 9218868437227405312 ∧ vr (rg (vl x) (-1074 + k)) * 2 ^ 64 = vl x * 2 ^ (64 + k).toNat := by
    unfold vl
    generalize x % 9223372036854775808 = r at *
    rcases hk2 with hz | ⟨ha, hb⟩
    · rw [hz, vr_zero, show rg 0 (-1074 + k) = 0 by unfold rg; rw [if_pos rfl], vr_zero]
      exact ⟨by decide, by rw [Nat.zero_mul, Nat.zero_mul]⟩
    · obtain ⟨hne, hl⟩ := log_rg (m := vr r) (i := -1074) (by rw [hr]; omega)
      have e5 := rgk hne hl h1 h2
      rw [hr] at e5
      exact ⟨by omega, vr_move h1 (by omega) e5⟩
  rw [Nat.min_eq_left (by omega)]
  refine ⟨hf, (word_facts (sg x) key.1).1, ?_⟩
  rw [fz_word (sg x) key.1, fz_eq x, Int.one_mul, Int.mul_assoc, Int.mul_assoc]
  congr 1
  have := congrArg (fun n : Nat => (n : Int)) key.2
  simp only [Int.natCast_mul] at this
  exact this
theorem P_refl {x : Nat} (h : fin x) : P 1 0 x x := ⟨h, h, by rw [Int.one_mul]; rfl⟩
theorem P_ng {x : Nat} (h : fin x) : P (-1) 0 x (ng x) := ng_P' (P_refl h)
/-- parts by parts -/
def D (σ k : Int) (z z' : Nat × Nat) : Prop := P σ k z.1 z'.1 ∧ P σ k z.2 z'.2
/-- times i -/
def T (z z' : Nat × Nat) : Prop := P (-1) 0 z.2 z'.1 ∧ P 1 0 z.1 z'.2
def okc (z : Nat × Nat) : Prop := Ok z.1 ∧ Ok z.2
/-- all four products, and what comes out -/
structure Cm (z r : Nat × Nat) : Prop where
  v1 : Vm z.1 r.1
  v2 : Vm z.2 r.2
  v3 : Vm z.1 r.2
  v4 : Vm z.2 r.1
  ok : okc (mlc z r)
theorem mlc_D {σ k : Int} (hσ : σ = 1 ∨ σ = -1) (h1 : -64 ≤ k) (h2 : k ≤ 64) {z z' r : Nat × Nat} (h : D σ k z z') (hr : fin r.1 ∧ fin r.2) (hc : Cm z r) : D σ k (mlc z r) (mlc z' r) :=
  ⟨sub_P hσ h1 h2 (mul_P hσ h1 h2 h.1 hr.1 hc.v1) (mul_P hσ h1 h2 h.2 hr.2 hc.v2) hc.ok.1, add_P hσ h1 h2 (mul_P hσ h1 h2 h.1 hr.2 hc.v3) (mul_P hσ h1 h2 h.2 hr.1 hc.v4) hc.ok.2⟩
theorem add_co (x y : Nat) : co .add x y = co .add y x := by
  unfold co
  rw [show floatBits .add .f64 x y = double.add x y from rfl, show floatBits .add .f64 y x = double.add y x from rfl, add_comm]
theorem mlc_T {z z' r : Nat × Nat} (h : T z z') (hr : fin r.1 ∧ fin r.2) (hc : Cm z r) : T (mlc z r) (mlc z' r) := by
  obtain ⟨t1, t2⟩ := h
  have m4 := mul_P (.inr rfl) (by decide) (by decide) t1 hr.1 hc.v4
  have m2 := mul_P (.inr rfl) (by decide) (by decide) t1 hr.2 hc.v2
  have m1 := mul_P (.inl rfl) (by decide) (by decide) t2 hr.1 hc.v1
  have m3 := mul_P (.inl rfl) (by decide) (by decide) t2 hr.2 hc.v3
  have ok1 := hc.ok.1
  have ok2 := hc.ok.2
  unfold mlc mulRe mulIm at *
  simp only at *
  constructor
  · show P (-1) 0 (co .add _ _) (co .sub _ _)
    rw [co_subE m3.2.1, add_co (co .mul z.1 r.2)]
    rw [add_co (co .mul z.1 r.2)] at ok2
    exact add_P (.inr rfl) (by decide) (by decide) m4 (ng_P' m3) ok2
  · show P 1 0 (co .sub _ _) (co .add _ _)
    rw [co_subE m2.1, add_co (co .mul z'.1 r.2)]
    rw [co_subE m2.1] at ok1
    exact add_P (.inl rfl) (by decide) (by decide) m1 (ng_P'' m2) ok1
/-- a twist that is calm -/
def Ct (n m : Nat) (z : Nat × Nat) : Prop := m = 0 ∨ Cm z (Rp.pc n m, Rp.pim n m)
theorem tws_D {σ k : Int} (hσ : σ = 1 ∨ σ = -1) (h1 : -64 ≤ k) (h2 : k ≤ 64) {n m : Nat} (hn : 0 < n) (hn2 : n ≤ 4194304) {z z' : Nat × Nat} (h : D σ k z z') (hc : Ct n m z) : D σ k (tws n m z) (tws n m z') := by
  unfold tws
  by_cases h0 : m = 0
  · rw [if_pos h0, if_pos h0]; exact h
  · rw [if_neg h0, if_neg h0]
    exact mlc_D hσ h1 h2 h ⟨Rp.pc_fin m hn hn2, Rp.pim_fin m hn hn2⟩ (hc.resolve_left h0)
theorem tws_T {n m : Nat} (hn : 0 < n) (hn2 : n ≤ 4194304) {z z' : Nat × Nat} (h : T z z') (hc : Ct n m z) : T (tws n m z) (tws n m z') := by
  unfold tws
  by_cases h0 : m = 0
  · rw [if_pos h0, if_pos h0]; exact h
  · rw [if_neg h0, if_neg h0]
    exact mlc_T h ⟨Rp.pc_fin m hn hn2, Rp.pim_fin m hn hn2⟩ (hc.resolve_left h0)
theorem adc_D {σ k : Int} (hσ : σ = 1 ∨ σ = -1) (h1 : -64 ≤ k) (h2 : k ≤ 64) {z z' u u' : Nat × Nat} (h : D σ k z z') (h' : D σ k u u') (hc : okc (adc z u)) : D σ k (adc z u) (adc z' u') :=
  ⟨add_P hσ h1 h2 h.1 h'.1 hc.1, add_P hσ h1 h2 h.2 h'.2 hc.2⟩
theorem adc_T {z z' u u' : Nat × Nat} (h : T z z') (h' : T u u') (hc : okc (adc z u)) : T (adc z u) (adc z' u') :=
  ⟨add_P (.inr rfl) (by decide) (by decide) h.1 h'.1 hc.2, add_P (.inl rfl) (by decide) (by decide) h.2 h'.2 hc.1⟩
/-- the sum k, as far as element j, is calm -/
def Cs (n k : Nat) (f : Nat → Nat × Nat) (j : Nat) : Prop := ∀ i, i < j → Ct n ((i + 1) * k % n) (f (i + 1)) ∧ okc (dst n k f (i + 1))
theorem dst_D {σ e : Int} (hσ : σ = 1 ∨ σ = -1) (h1 : -64 ≤ e) (h2 : e ≤ 64) {n k : Nat} (hn : 0 < n) (hn2 : n ≤ 4194304) {f f' : Nat → Nat × Nat} : ∀ {j : Nat}, (∀ i, i ≤ j → D σ e (f i) (f' i)) → Cs n k f j → D σ e (dst n k f j) (dst n k f' j)
  | 0, h, _ => h 0 (Nat.le_refl _)
  | j + 1, h, hc => adc_D hσ h1 h2 (dst_D hσ h1 h2 hn hn2 (fun i hi => h i (by omega)) (fun i hi => hc i (by omega))) (tws_D hσ h1 h2 hn hn2 (h (j + 1) (Nat.le_refl _)) (hc j (by omega)).1) (hc j (by omega)).2
theorem dst_T {n k : Nat} (hn : 0 < n) (hn2 : n ≤ 4194304) {f f' : Nat → Nat × Nat} : ∀ {j : Nat}, (∀ i, i ≤ j → T (f i) (f' i)) → Cs n k f j → T (dst n k f j) (dst n k f' j)
  | 0, h, _ => h 0 (Nat.le_refl _)
  | j + 1, h, hc => adc_T (dst_T hn hn2 (fun i hi => h i (by omega)) (fun i hi => hc i (by omega))) (tws_T hn hn2 (h (j + 1) (Nat.le_refl _)) (hc j (by omega)).1) (hc j (by omega)).2
/-- all of the transform is calm -/
def Calm (n : Nat) (f : Nat → Nat × Nat) : Prop := (∀ i, i < n → okc (f i)) ∧ ∀ k, k < n → Cs n k f (n - 1)
theorem dsm_ok {n k : Nat} {f : Nat → Nat × Nat} (hn : 0 < n) (hk : k < n) (h : Calm n f) : okc (dsm n k f) := by
  unfold dsm
  rcases Nat.eq_zero_or_pos (n - 1) with e | e
  · rw [e]; exact h.1 0 hn
  · have := (h.2 k hk (n - 2) (by omega)).2
    rw [show n - 2 + 1 = n - 1 by omega] at this
    exact this
theorem P_ord {σ k : Int} {x y z : Nat} (h : P σ k x y) (h' : P σ k x z) : double.order y z = some .eq := by
  have e := eq_fin h.2.1 h'.2.1
  have : fz y = fz z := by
    have h1 := h.2.2.trans h'.2.2.symm
    exact Int.eq_of_mul_eq_mul_right (by decide) h1
  rw [decide_eq_true this] at e
  exact beq_iff_eq.1 e
theorem lk_eq {z u : Nat × Nat} (h : Lk z u) (hu : fin u.1 ∧ fin u.2) : z = u := by
  obtain ⟨x, y⟩ := z
  obtain ⟨a, b⟩ := u
  have n1 := nan_fin hu.1
  have n2 := nan_fin hu.2
  have h1 : bt x = bt a := h.1
  have h2 : bt y = bt b := h.2
  have m1 : nanB x = false := by rw [← nan_bt, h1, nan_bt]; exact n1
  have m2 : nanB y = false := by rw [← nan_bt, h2, nan_bt]; exact n2
  rw [bt_fin m1, bt_fin n1] at h1
  rw [bt_fin m2, bt_fin n2] at h2
  rw [h1, h2]
end Go.Proofs.YtehaokdjdhejlaaDoor.Tr
