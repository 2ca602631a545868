/-
  Plain mathematics: the butterfly of 4 whole numbers is exact; rows of four whole numbers, of four complex numbers.
-/
import Derived.Test.YtonfdfmhnamimaaDoorDw0
import Derived.Test.YtonfdfmhnamimaaDoorFl3
namespace Go.Proofs.YtonfdfmhnamimaaDoor
open Flo Go.RowKit Dw Ari
theorem adc_W {x y : Nat × Nat} {p q : Int × Int} (hx : WP x p) (hy : WP y q) (h1 : (p.1 + q.1).natAbs ≤ 9007199254740992) (h2 : (p.2 + q.2).natAbs ≤ 9007199254740992) : WP (adc x y) (p.1 + q.1, p.2 + q.2) := ⟨coA hx.1 hy.1 h1, coA hx.2 hy.2 h2⟩
theorem sbc_W {x y : Nat × Nat} {p q : Int × Int} (hx : WP x p) (hy : WP y q) (h1 : (p.1 - q.1).natAbs ≤ 9007199254740992) (h2 : (p.2 - q.2).natAbs ≤ 9007199254740992) : WP (sbc x y) (p.1 - q.1, p.2 - q.2) := ⟨coS hx.1 hy.1 h1, coS hx.2 hy.2 h2⟩
theorem mic_W {x : Nat × Nat} {p : Int × Int} (h : WP x p) : WP (mic x) (p.2, -p.1) := ⟨h.2, W_ng h.1⟩
theorem tic_W {x : Nat × Nat} {p : Int × Int} (h : WP x p) : WP (tic x) (-p.2, p.1) := ⟨W_ng h.2, h.1⟩
/-- the butterfly of 4 -/
def f4 (a b c d : Nat × Nat) (k : Nat) : Nat × Nat := if k = 0 then adc (adc a c) (adc b d) else if k = 1 then adc (sbc a c) (mic (sbc b d)) else if k = 2 then sbc (adc a c) (adc b d) else adc (sbc a c) (tic (sbc b d))
theorem nbA {a b : Int} {B C : Nat} (hC : B + B ≤ C) (h1 : a.natAbs ≤ B) (h2 : b.natAbs ≤ B) : (a + b).natAbs ≤ C := by omega
theorem nbS {a b : Int} {B C : Nat} (hC : B + B ≤ C) (h1 : a.natAbs ≤ B) (h2 : b.natAbs ≤ B) : (a - b).natAbs ≤ C := by omega
theorem ts40 (F : Nat → Int × Int) : ts 4 0 F = ((F 0).1 + (F 2).1 + ((F 1).1 + (F 3).1), (F 0).2 + (F 2).2 + ((F 1).2 + (F 3).2)) := by simp [ts, tsm, trm]; omega
theorem ts41 (F : Nat → Int × Int) : ts 4 1 F = ((F 0).1 - (F 2).1 + ((F 1).2 - (F 3).2), (F 0).2 - (F 2).2 + -((F 1).1 - (F 3).1)) := by simp [ts, tsm, trm]; omega
theorem ts42 (F : Nat → Int × Int) : ts 4 2 F = ((F 0).1 + (F 2).1 - ((F 1).1 + (F 3).1), (F 0).2 + (F 2).2 - ((F 1).2 + (F 3).2)) := by simp [ts, tsm, trm]; omega
theorem ts43 (F : Nat → Int × Int) : ts 4 3 F = ((F 0).1 - (F 2).1 + -((F 1).2 - (F 3).2), (F 0).2 - (F 2).2 + ((F 1).1 - (F 3).1)) := by simp [ts, tsm, trm]; omega
theorem f4_W {a b c d : Nat × Nat} {F : Nat → Int × Int} (ha : WP a (F 0)) (hb : WP b (F 1)) (hc : WP c (F 2)) (hd : WP d (F 3)) (hs : ∀ j, Sml (F j) 1125899906842624) {k : Nat} (hk : k < 4) : WP (f4 a b c d k) (ts 4 k F) := by
  obtain ⟨a1, a2⟩ := hs 0
  obtain ⟨b1, b2⟩ := hs 1
  obtain ⟨c1, c2⟩ := hs 2
  obtain ⟨d1, d2⟩ := hs 3
  have e : k = 0 ∨ k = 1 ∨ k = 2 ∨ k = 3 := by omega
  clear hs hk
  unfold f4
  rcases e with rfl | rfl | rfl | rfl
  all_goals first | rw [ts40, if_pos rfl] | rw [ts41, if_neg (by decide), if_pos rfl] | rw [ts42, if_neg (by decide), if_neg (by decide), if_pos rfl] | rw [ts43, if_neg (by decide), if_neg (by decide), if_neg (by decide)]
  all_goals
    generalize F 0 = p0 at *
    generalize F 1 = p1 at *
    generalize F 2 = p2 at *
    generalize F 3 = p3 at *
    obtain ⟨x0, y0⟩ := p0
    obtain ⟨x1, y1⟩ := p1
    obtain ⟨x2, y2⟩ := p2
    obtain ⟨x3, y3⟩ := p3
    simp only at a1 a2 b1 b2 c1 c2 d1 d2 ⊢
    have P := adc_W ha hc (nbA (by decide) a1 c1) (nbA (by decide) a2 c2)
    have Q := sbc_W ha hc (nbS (by decide) a1 c1) (nbS (by decide) a2 c2)
    have S := adc_W hb hd (nbA (by decide) b1 d1) (nbA (by decide) b2 d2)
    have U := sbc_W hb hd (nbS (by decide) b1 d1) (nbS (by decide) b2 d2)
    have s1 : (x0 + x2).natAbs ≤ 2251799813685248 := nbA (by decide) a1 c1
    have s2 : (y0 + y2).natAbs ≤ 2251799813685248 := nbA (by decide) a2 c2
    have s3 : (x0 - x2).natAbs ≤ 2251799813685248 := nbS (by decide) a1 c1
    have s4 : (y0 - y2).natAbs ≤ 2251799813685248 := nbS (by decide) a2 c2
    have t1 : (x1 + x3).natAbs ≤ 2251799813685248 := nbA (by decide) b1 d1
    have t2 : (y1 + y3).natAbs ≤ 2251799813685248 := nbA (by decide) b2 d2
    have t3 : (x1 - x3).natAbs ≤ 2251799813685248 := nbS (by decide) b1 d1
    have t4 : (y1 - y3).natAbs ≤ 2251799813685248 := nbS (by decide) b2 d2
    have u3 : (-(x1 - x3)).natAbs ≤ 2251799813685248 := by rw [Int.natAbs_neg]; exact t3
    have u4 : (-(y1 - y3)).natAbs ≤ 2251799813685248 := by rw [Int.natAbs_neg]; exact t4
    clear a1 a2 b1 b2 c1 c2 d1 d2 ha hb hc hd
    simp only at P Q S U
  · exact adc_W P S (nbA (by decide) s1 t1) (nbA (by decide) s2 t2)
  · exact adc_W Q (mic_W U) (nbA (by decide) s3 t4) (nbA (by decide) s4 u3)
  · exact sbc_W P S (nbS (by decide) s1 t1) (nbS (by decide) s2 t2)
  · exact adc_W Q (tic_W U) (nbA (by decide) s3 u4) (nbA (by decide) s4 t3)
theorem trm_step {q : Nat} (hq : q < 3) (z : Int × Int) : trm (q + 1) z = ((trm q z).2, -(trm q z).1) := by
  have e : q = 0 ∨ q = 1 ∨ q = 2 := by omega
  rcases e with rfl | rfl | rfl <;> simp [trm]
theorem tsm_step (k j : Nat) (F : Nat → Int × Int) : tsm 4 k F (j + 1) = ((tsm 4 k F j).1 + (trm (j * k % 4) (F j)).1, (tsm 4 k F j).2 + (trm (j * k % 4) (F j)).2) := by
  rw [tsm]
  rw [show 4 / 4 * j * k % 4 = j * k % 4 by rw [show 4 / 4 = 1 from rfl, Nat.one_mul]]
theorem tsm_sml {k B : Nat} {F : Nat → Int × Int} (hs : ∀ j, Sml (F j) B) : ∀ j, Sml (tsm 4 k F j) (j * B)
  | 0 => by rw [Nat.zero_mul]; exact ⟨Nat.le_refl _, Nat.le_refl _⟩
  | j + 1 => by
    obtain ⟨h1, h2⟩ := tsm_sml (k := k) hs j
    obtain ⟨g1, g2⟩ := trm_sml (e := j * k % 4) (hs j)
    rw [tsm_step, Nat.succ_mul]
    generalize tsm 4 k F j = P at *
    generalize trm (j * k % 4) (F j) = Q at *
    generalize j * B = M at *
    exact ⟨by show (P.1 + Q.1).natAbs ≤ _; omega, by show (P.2 + Q.2).natAbs ≤ _; omega⟩
/-- four whole numbers in a row -/
def rI (f : Nat → Int) : Array Value := #[.int .i64 (f 0), .int .i64 (f 1), .int .i64 (f 2), .int .i64 (f 3)]
theorem rI_at (f : Nat → Int) {j : Nat} (h : j < 4) : (rI f)[j]? = some (.int .i64 (f j)) := by
  match j, h with
  | 0, _ => rfl | 1, _ => rfl | 2, _ => rfl | 3, _ => rfl
theorem rI_set (f : Nat → Int) {j : Nat} (h : j < 4) (v : Int) : (rI f).setIfInBounds j (.int .i64 v) = rI (fun i => if i = j then v else f i) := by
  match j, h with
  | 0, _ => rfl | 1, _ => rfl | 2, _ => rfl | 3, _ => rfl
/-- four complex numbers in a row -/
def rC (f : Nat → Nat × Nat) : Array Value := #[.complex .f64 (f 0).1 (f 0).2, .complex .f64 (f 1).1 (f 1).2, .complex .f64 (f 2).1 (f 2).2, .complex .f64 (f 3).1 (f 3).2]
theorem rC_at (f : Nat → Nat × Nat) {j : Nat} (h : j < 4) : (rC f)[j]? = some (.complex .f64 (f j).1 (f j).2) := by
  match j, h with
  | 0, _ => rfl | 1, _ => rfl | 2, _ => rfl | 3, _ => rfl
theorem rC_set (f : Nat → Nat × Nat) {j : Nat} (h : j < 4) (a b : Nat) : (rC f).setIfInBounds j (.complex .f64 a b) = rC (fun i => if i = j then (a, b) else f i) := by
  match j, h with
  | 0, _ => rfl | 1, _ => rfl | 2, _ => rfl | 3, _ => rfl
/-- eight whole numbers in a row -/
def rE (z : Nat → Int) : Array Value := #[.int .i64 (z 0), .int .i64 (z 1), .int .i64 (z 2), .int .i64 (z 3), .int .i64 (z 4), .int .i64 (z 5), .int .i64 (z 6), .int .i64 (z 7)]
theorem rE_at (z : Nat → Int) {j : Nat} (h : j < 8) : (rE z)[j]? = some (.int .i64 (z j)) := by
  match j, h with
  | 0, _ => rfl | 1, _ => rfl | 2, _ => rfl | 3, _ => rfl | 4, _ => rfl | 5, _ => rfl | 6, _ => rfl | 7, _ => rfl
end Go.Proofs.YtonfdfmhnamimaaDoor
