/-
  Plain mathematics: whole numbers over 1, 2 and 4; the transform of 1, 2 and 4 whole numbers is exact.
-/
import Derived.Test.YtonfdfmhnamimaaDoorDs0
import Derived.Test.YtonfdfmhnamimaaDoorRts
namespace Go.Proofs.YtonfdfmhnamimaaDoor.Dw
open Ieee Go.Proofs.YtonfdfmhnamimaaDoor.Ari
open Go.Proofs.YtonfdfmhnamimaaDoor.Flo (mg ex mg_lt read_fin nanB)
open Go.Proofs.YtonfdfmhnamimaaDoor (co bt)
open Go.Proofs.YtonfdfmhnamimaaDoor.Rp (quotient_num write_num co_quo)
theorem coA {x y : Nat} {a b : Int} (hx : W x a) (hy : W y b) (h : (a + b).natAbs ≤ 9007199254740992) : W (co .add x y) (a + b) := by
  obtain ⟨r, e, hr⟩ := W_add hx hy h
  unfold co
  rw [show floatBits .add .f64 x y = double.add x y from rfl, e]
  exact hr
theorem coS {x y : Nat} {a b : Int} (hx : W x a) (hy : W y b) (h : (a - b).natAbs ≤ 9007199254740992) : W (co .sub x y) (a - b) := by
  obtain ⟨r, e, hr⟩ := W_sub hx hy h
  unfold co
  rw [show floatBits .sub .f64 x y = double.sub x y from rfl, e]
  exact hr
theorem coM {x y : Nat} {a b : Int} (hx : W x a) (hy : W y b) (h : (a * b).natAbs ≤ 9007199254740992) : W (co .mul x y) (a * b) := by
  obtain ⟨r, e, hr⟩ := W_mul hx hy h
  unfold co
  rw [show floatBits .mul .f64 x y = double.mul x y from rfl, e]
  exact hr
/-- 2^c, as a float -/
def p2 (c : Nat) : Nat := (1023 + c) * 4503599627370496
theorem p2_parts {c : Nat} (h : c ≤ 2) : fin (p2 c) ∧ sg (p2 c) = false ∧ mg (p2 c % 9223372036854775808) = 4503599627370496 ∧ ex (p2 c % 9223372036854775808) = 1022 + c := by
  have hc : c = 0 ∨ c = 1 ∨ c = 2 := by omega
  rcases hc with rfl | rfl | rfl <;> exact ⟨⟨by decide, by decide⟩, by decide, by decide, by decide⟩
theorem quo_near (s : Bool) {m c : Nat} (E : Int) (k : Nat) (j : Int) (hj : j = E - 1022 - (c : Int) - ((k + 52 : Nat) : Int) - 1) :
    double.nearest s (2 * (m * 2 ^ (k + 52) / 4503599627370496) + (m * 2 ^ (k + 52) % 4503599627370496 != 0).toNat) j = double.nearest s m (E - 1074 - (c : Int)) := by
  have hp : 2 ^ (k + 52) = 2 ^ k * 4503599627370496 := Nat.pow_add 2 k 52
  have e2 : m * 2 ^ (k + 52) / 4503599627370496 = m * 2 ^ k := by
    rw [hp, ← Nat.mul_assoc]
    exact Nat.mul_div_cancel _ (by decide)
  have e3 : m * 2 ^ (k + 52) % 4503599627370496 = 0 := by
    rw [hp, ← Nat.mul_assoc]
    exact Nat.mul_mod_left _ _
  rw [e2, e3]
  have e4 : 2 * (m * 2 ^ k) + ((0 : Nat) != 0).toNat = m * 2 ^ (k + 1) := by
    rw [Nat.pow_succ]; simp; rw [Nat.mul_comm 2, Nat.mul_assoc]
  have e6 : j + ((k + 1 : Nat) : Int) = E - 1074 - (c : Int) := by omega
  rw [e4, nearest_scale, e6]
theorem W_quo {x c : Nat} {R : Int} (hc : c ≤ 2) (hx : W x (R * ((2 ^ c : Nat) : Int))) (h : R.natAbs ≤ 9007199254740992) : W (co .quo x (p2 c)) R := by
  obtain ⟨q1, q2, q3, q4⟩ := p2_parts hc
  have r1 := read_fin x hx.1.1 hx.1.2
  have r2 := read_fin (p2 c) q1.1 q1.2
  rw [q3, q4, show decide (9223372036854775808 ≤ p2 c) = false from q2] at r2
  have hv := W_vl hx
  have hsg : R ≠ 0 → sg x = decide (R < 0) := fun h0 => by
    have hp : (0 : Int) < ((2 ^ c : Nat) : Int) := by have := Nat.two_pow_pos c; omega
    have h1 := W_sg hx (fun e => by rcases Int.mul_eq_zero.1 e with e | e <;> omega)
    rw [h1]
    congr 1
    apply propext
    constructor
    · intro h2
      by_cases h3 : R < 0
      · exact h3
      · have := Int.mul_nonneg (show 0 ≤ R by omega) (show 0 ≤ ((2 ^ c : Nat) : Int) by omega); omega
    · intro h2; exact Int.mul_neg_of_neg_of_pos h2 hp
  have hfr : double.fractionBits + 2 = 54 := rfl
  change double.read x = .number (sg x) (mg (x % 9223372036854775808)) _ at r1
  unfold vl vr at hv
  have hl : (mg (x % 9223372036854775808)).log2 < 53 := by
    by_cases h0 : mg (x % 9223372036854775808) = 0
    · rw [h0]; decide
    · exact (Nat.log2_lt h0).2 (mg_lt _)
  generalize sg x = s at *
  generalize mg (x % 9223372036854775808) = m at *
  generalize ex (x % 9223372036854775808) = E at *
  obtain ⟨k, hk⟩ : ∃ k, 54 + 52 - m.log2 = k + 52 := ⟨54 - m.log2, by omega⟩
  have hq : double.div x (p2 c) = some (double.nearest s m (E - 1074 - (c : Int))) := by
    unfold Format.div
    rw [r1, r2, hfr, quotient_num 54 s false m _ _ _ (by decide), Option.map_some, write_num]
    rw [show (4503599627370496 : Nat).log2 = 52 by decide, hk, least_d, Nat.shiftLeft_eq, Bool.xor_false, quo_near (c := c) s (E : Int) k _ (by omega)]
  have hn : double.nearest s m ((E : Int) - 1074 - (c : Int)) = double.nearest s (R.natAbs * 2 ^ ul) (-1074) := by
    have h1 := nearest_scale s m E (-1074 - (c : Int))
    have h2 := nearest_scale s (R.natAbs * 2 ^ ul) c (-1074 - (c : Int))
    rw [show (-1074 : Int) - (c : Int) + (E : Int) = (E : Int) - 1074 - (c : Int) by omega] at h1
    rw [show (-1074 : Int) - (c : Int) + (c : Int) = -1074 by omega] at h2
    rw [← h1, ← h2, hv, Int.natAbs_mul, Int.natAbs_natCast, Nat.mul_assoc, Nat.mul_comm (2 ^ c), ← Nat.mul_assoc]
  rw [co_quo, hq, Option.getD_some, hn]
  exact W_of s R h hsg
/-- turned by e quarters -/
def trm (e : Nat) (z : Int × Int) : Int × Int := if e = 0 then z else if e = 1 then (z.2, -z.1) else if e = 2 then (-z.1, -z.2) else (-z.2, z.1)
/-- the sum k of whole numbers, as far as element j -/
def tsm (n k : Nat) (F : Nat → Int × Int) : Nat → Int × Int
  | 0 => (0, 0)
  | j + 1 => ((tsm n k F j).1 + (trm (4 / n * j * k % 4) (F j)).1, (tsm n k F j).2 + (trm (4 / n * j * k % 4) (F j)).2)
def WP (z : Nat × Nat) (p : Int × Int) : Prop := W z.1 p.1 ∧ W z.2 p.2
def Sml (p : Int × Int) (B : Nat) : Prop := p.1.natAbs ≤ B ∧ p.2.natAbs ≤ B
theorem W_0 : W 0 0 := ⟨⟨by decide, by decide⟩, by rw [Int.zero_mul]; decide⟩
theorem W_1 : W 4607182418800017408 1 := W_int (n := 1) (by decide)
theorem W_m1 : W 13830554455654793216 (-1) := W_ng W_1
theorem r21 : Rp.pc 2 1 = 13830554455654793216 ∧ Rp.pim 2 1 = 0 := by decide +kernel
theorem r41 : Rp.pc 4 1 = 0 ∧ Rp.pim 4 1 = 13830554455654793216 := by decide +kernel
theorem r42 : Rp.pc 4 2 = 13830554455654793216 ∧ Rp.pim 4 2 = 0 := by decide +kernel
theorem r43 : Rp.pc 4 3 = 0 ∧ Rp.pim 4 3 = 4607182418800017408 := by decide +kernel
theorem mlc_W {z : Nat × Nat} {p : Int × Int} {C S : Nat} {c s : Int} (h : WP z p) (hb : Sml p 35184372088832) (hC : W C c) (hS : W S s) (hc : c = 0 ∨ c = 1 ∨ c = -1) (hs : s = 0 ∨ s = 1 ∨ s = -1) : WP (mlc z (C, S)) (p.1 * c - p.2 * s, p.1 * s + p.2 * c) := by
  obtain ⟨b1, b2⟩ := hb
  have m1 : (p.1 * c).natAbs ≤ 35184372088832 := by rcases hc with rfl | rfl | rfl <;> omega
  have m2 : (p.2 * s).natAbs ≤ 35184372088832 := by rcases hs with rfl | rfl | rfl <;> omega
  have m3 : (p.1 * s).natAbs ≤ 35184372088832 := by rcases hs with rfl | rfl | rfl <;> omega
  have m4 : (p.2 * c).natAbs ≤ 35184372088832 := by rcases hc with rfl | rfl | rfl <;> omega
  exact ⟨coS (coM h.1 hC (by omega)) (coM h.2 hS (by omega)) (by omega), coA (coM h.1 hS (by omega)) (coM h.2 hC (by omega)) (by omega)⟩
theorem tws_W {n m : Nat} (hn : n = 1 ∨ n = 2 ∨ n = 4) (hm : m < n) {z : Nat × Nat} {p : Int × Int} (h : WP z p) (hb : Sml p 35184372088832) : WP (tws n m z) (trm (4 / n * m) p) := by
  by_cases h0 : m = 0
  · subst h0
    unfold tws trm
    rw [if_pos rfl, Nat.mul_zero, if_pos rfl]
    exact h
  · unfold tws
    rw [if_neg h0]
    rcases hn with rfl | rfl | rfl
    · omega
    · obtain rfl : m = 1 := by omega
      rw [r21.1, r21.2]
      have := mlc_W h hb W_m1 W_0 (by omega) (by omega)
      have e : (p.1 * -1 - p.2 * 0, p.1 * 0 + p.2 * -1) = trm (4 / 2 * 1) p := by
        unfold trm
        rw [if_neg (by decide), if_neg (by decide), if_pos (by decide)]
        exact Prod.ext (by show _ = -p.1; omega) (by show _ = -p.2; omega)
      rw [← e]; exact this
    · have hm3 : m = 1 ∨ m = 2 ∨ m = 3 := by omega
      rcases hm3 with rfl | rfl | rfl
      · rw [r41.1, r41.2]
        have := mlc_W h hb W_0 W_m1 (by omega) (by omega)
        have e : (p.1 * 0 - p.2 * -1, p.1 * -1 + p.2 * 0) = trm (4 / 4 * 1) p := by
          unfold trm
          rw [if_neg (by decide), if_pos (by decide)]
          exact Prod.ext (by show _ = p.2; omega) (by show _ = -p.1; omega)
        rw [← e]; exact this
      · rw [r42.1, r42.2]
        have := mlc_W h hb W_m1 W_0 (by omega) (by omega)
        have e : (p.1 * -1 - p.2 * 0, p.1 * 0 + p.2 * -1) = trm (4 / 4 * 2) p := by
          unfold trm
          rw [if_neg (by decide), if_neg (by decide), if_pos (by decide)]
          exact Prod.ext (by show _ = -p.1; omega) (by show _ = -p.2; omega)
        rw [← e]; exact this
      · rw [r43.1, r43.2]
        have := mlc_W h hb W_0 W_1 (by omega) (by omega)
        have e : (p.1 * 0 - p.2 * 1, p.1 * 1 + p.2 * 0) = trm (4 / 4 * 3) p := by
          unfold trm
          rw [if_neg (by decide), if_neg (by decide), if_neg (by decide)]
          exact Prod.ext (by show _ = -p.2; omega) (by show _ = p.1; omega)
        rw [← e]; exact this
theorem trm_sml {e : Nat} {p : Int × Int} {B : Nat} (h : Sml p B) : Sml (trm e p) B := by
  unfold trm Sml at *
  repeat' split
  all_goals (first | exact h | exact ⟨by show (p.2).natAbs ≤ B; omega, by show (-p.1).natAbs ≤ B; omega⟩ | exact ⟨by show (-p.1).natAbs ≤ B; omega, by show (-p.2).natAbs ≤ B; omega⟩ | exact ⟨by show (-p.2).natAbs ≤ B; omega, by show (p.1).natAbs ≤ B; omega⟩)
theorem idx {n : Nat} (hn : n = 1 ∨ n = 2 ∨ n = 4) (j k : Nat) : 4 / n * j * k % 4 = 4 / n * (j * k % n) := by
  rw [Nat.mul_assoc]
  generalize j * k = x
  rcases hn with rfl | rfl | rfl
  · omega
  · have : 4 / 2 = 2 := by decide
    omega
  · have : 4 / 4 = 1 := by decide
    omega
theorem dst_W {n k B : Nat} (hn : n = 1 ∨ n = 2 ∨ n = 4) {f : Nat → Nat × Nat} {F : Nat → Int × Int} (hf : ∀ i, i < n → WP (f i) (F i) ∧ Sml (F i) B) (hB : B ≤ 8796093022208) :
    ∀ j, j < n → WP (dst n k f j) (tsm n k F (j + 1)) ∧ Sml (tsm n k F (j + 1)) ((j + 1) * B)
  | 0, hj => by
    obtain ⟨h1, h2⟩ := hf 0 hj
    have e : tsm n k F 1 = F 0 := by
      have e0 : 4 / n * 0 * k % 4 = 0 := by simp
      unfold tsm tsm trm
      rw [e0, if_pos rfl]
      simp
    rw [e]
    exact ⟨h1, by rw [Nat.zero_add, Nat.one_mul]; exact h2⟩
  | j + 1, hj => by
    obtain ⟨h1, h2⟩ := dst_W (k := k) hn hf hB j (by omega)
    obtain ⟨h3, h4⟩ := hf (j + 1) hj
    have hjn : j + 1 < 4 := by omega
    have h5 := tws_W (m := (j + 1) * k % n) hn (Nat.mod_lt _ (by omega)) h3 ⟨by have := h4.1; omega, by have := h4.2; omega⟩
    rw [← idx hn] at h5
    have h6 := trm_sml (e := 4 / n * (j + 1) * k % 4) h4
    obtain ⟨a1, a2⟩ := h2
    obtain ⟨b1, b2⟩ := h6
    have hs : (j + 1 + 1) * B = (j + 1) * B + B := Nat.succ_mul (j + 1) B
    have hle : (j + 1) * B ≤ 3 * B := Nat.mul_le_mul_right B (by omega)
    have e : tsm n k F (j + 1 + 1) = ((tsm n k F (j + 1)).1 + (trm (4 / n * (j + 1) * k % 4) (F (j + 1))).1, (tsm n k F (j + 1)).2 + (trm (4 / n * (j + 1) * k % 4) (F (j + 1))).2) := rfl
    rw [e, hs]
    generalize tsm n k F (j + 1) = P at *
    generalize trm (4 / n * (j + 1) * k % 4) (F (j + 1)) = Q at *
    generalize (j + 1) * B = M at *
    exact ⟨⟨coA h1.1 h5.1 (by omega), coA h1.2 h5.2 (by omega)⟩, ⟨by show (P.1 + Q.1).natAbs ≤ _; omega, by show (P.2 + Q.2).natAbs ≤ _; omega⟩⟩
/-- the sum k of whole numbers -/
def ts (n k : Nat) (F : Nat → Int × Int) : Int × Int := tsm n k F n
theorem dsm_W {n k B : Nat} (hn : n = 1 ∨ n = 2 ∨ n = 4) {f : Nat → Nat × Nat} {F : Nat → Int × Int} (hf : ∀ i, i < n → WP (f i) (F i) ∧ Sml (F i) B) (hB : B ≤ 8796093022208) :
    WP (dsm n k f) (ts n k F) ∧ Sml (ts n k F) (n * B) := by
  have h := dst_W (k := k) hn hf hB (n - 1) (by omega)
  rw [show n - 1 + 1 = n by omega] at h
  exact h
def cjw (p : Int × Int) : Int × Int := (p.1, -p.2)
theorem back {n j : Nat} (hn : n = 1 ∨ n = 2 ∨ n = 4) (hj : j < n) (F : Nat → Int × Int) : ts n j (fun k => cjw (ts n k F)) = (n * (F j).1, -(n * (F j).2)) := by
  rcases hn with rfl | rfl | rfl
  · obtain rfl : j = 0 := by omega
    simp [ts, tsm, trm, cjw]
  · have : j = 0 ∨ j = 1 := by omega
    rcases this with rfl | rfl <;> (simp [ts, tsm, trm, cjw]; omega)
  · have : j = 0 ∨ j = 1 ∨ j = 2 ∨ j = 3 := by omega
    rcases this with rfl | rfl | rfl | rfl <;> (simp [ts, tsm, trm, cjw]; omega)
theorem intF_p2 {n : Nat} (hn : n = 1 ∨ n = 2 ∨ n = 4) : ∃ c, c ≤ 2 ∧ n = 2 ^ c ∧ intF (n : Int) = p2 c := by
  rcases hn with rfl | rfl | rfl
  · exact ⟨0, by decide, by decide, by decide +kernel⟩
  · exact ⟨1, by decide, by decide, by decide +kernel⟩
  · exact ⟨2, by decide, by decide, by decide +kernel⟩
theorem ivk_W {n i B : Nat} (hn : n = 1 ∨ n = 2 ∨ n = 4) (hi : i < n) {f : Nat → Nat × Nat} {F : Nat → Int × Int} (hf : ∀ k, k < n → WP (f k) (ts n k F)) (hF : ∀ k, k < n → Sml (F k) B) (hs : ∀ k, k < n → Sml (ts n k F) (n * B)) (hB : B ≤ 1099511627776) : WP (ivk n i f) (F i) := by
  have hnB : n * B ≤ 4 * 1099511627776 := Nat.mul_le_mul (by omega) hB
  have h1 := dsm_W (k := i) (B := n * B) (f := fun j => cjp (f j)) (F := fun k => cjw (ts n k F)) hn (fun k hk => ⟨⟨(hf k hk).1, W_ng (hf k hk).2⟩, ⟨(hs k hk).1, by show (-(ts n k F).2).natAbs ≤ _; rw [Int.natAbs_neg]; exact (hs k hk).2⟩⟩) (by omega)
  rw [back hn hi] at h1
  obtain ⟨⟨g1, g2⟩, _⟩ := h1
  obtain ⟨c, hc, rfl, e⟩ := intF_p2 hn
  obtain ⟨b1, b2⟩ := hF i hi
  have g2' := W_ng g2
  rw [Int.neg_neg] at g2'
  unfold ivk ovp
  rw [e]
  refine ⟨W_quo hc ?_ (by omega), W_quo hc ?_ (by omega)⟩
  · rw [Int.mul_comm]; exact g1
  · rw [Int.mul_comm]; exact g2'
theorem flW {r : Int} (h : r.natAbs ≤ 9007199254740992) : W (floatOfInt .f64 r) r := W_int h
theorem W_lt {x : Nat} {a : Int} (h : W x a) : x < 18446744073709551616 := h.1.1
theorem WP_eq {z u : Nat × Nat} {p : Int × Int} (h : Lk z u) (hu : WP u p) : WP z p := by
  have e1 : z.1 = u.1 := by
    have hn := nan_fin hu.1.1
    have h1 : nanB z.1 = false := by rw [← nan_bt, h.1, nan_bt, hn]
    have := h.1
    rw [bt_fin hn, bt_fin h1] at this
    exact this
  have e2 : z.2 = u.2 := by
    have hn := nan_fin hu.2.1
    have h1 : nanB z.2 = false := by rw [← nan_bt, h.2, nan_bt, hn]
    have := h.2
    rw [bt_fin hn, bt_fin h1] at this
    exact this
  unfold WP
  rw [e1, e2]
  exact hu
theorem W_ord {x y : Nat} {a : Int} (hx : W x a) (hy : W y a) : double.order x y = some .eq := by
  have := W_eq hx hy
  rw [decide_eq_true rfl] at this
  exact beq_iff_eq.1 this
end Go.Proofs.YtonfdfmhnamimaaDoor.Dw
