/-
  Plain mathematics of the roots: the squares of the two parts of an eighth make 1, but for 86 times 2 to the power -54. No condition; nothing of the program.
-/
import Derived.Test.YtgfmimmiaalhcaaDoorRtw
namespace Go.Proofs.YtgfmimmiaalhcaaDoor.Rp
open Flo Ieee Ari

/-- polynomials with whole coefficients -/
def ev : List Int → Rat → Rat
  | [], _ => 0
  | a :: l, y => (a : Rat) + y * ev l y
def padd : List Int → List Int → List Int
  | [], m => m
  | a :: l, [] => a :: l
  | a :: l, b :: m => (a + b) :: padd l m
def psc (c : Int) : List Int → List Int
  | [] => []
  | a :: l => (c * a) :: psc c l
def pmul : List Int → List Int → List Int
  | [], _ => []
  | a :: l, m => padd (psc a m) (0 :: pmul l m)
def pabs : List Int → Nat
  | [] => 0
  | a :: l => a.natAbs + pabs l
theorem ev_add (y : Rat) : ∀ l m, ev (padd l m) y = ev l y + ev m y
  | [], m => by unfold padd; show ev m y = 0 + ev m y; grind
  | a :: l, [] => by unfold padd; show ev (a :: l) y = ev (a :: l) y + 0; grind
  | a :: l, b :: m => by
    unfold padd
    show ((a + b : Int) : Rat) + y * ev (padd l m) y = ((a : Rat) + y * ev l y) + ((b : Rat) + y * ev m y)
    rw [ev_add y l m, Rat.intCast_add]; grind
theorem ev_sc (y : Rat) (c : Int) : ∀ l, ev (psc c l) y = (c : Rat) * ev l y
  | [] => by show (0 : Rat) = (c : Rat) * 0; grind
  | a :: l => by
    show ((c * a : Int) : Rat) + y * ev (psc c l) y = (c : Rat) * ((a : Rat) + y * ev l y)
    rw [ev_sc y c l, Rat.intCast_mul]; grind
theorem ev_mul (y : Rat) : ∀ l m, ev (pmul l m) y = ev l y * ev m y
  | [], m => by show (0 : Rat) = 0 * ev m y; grind
  | a :: l, m => by
    show ev (padd (psc a m) (0 :: pmul l m)) y = ((a : Rat) + y * ev l y) * ev m y
    rw [ev_add, ev_sc]
    show (a : Rat) * ev m y + (((0 : Int) : Rat) + y * ev (pmul l m) y) = _
    rw [ev_mul y l m, Rat.intCast_zero]; grind
theorem nb_mul {a b A B : Rat} (ha : nb a 0 A) (hb : nb b 0 B) : nb (a * b) 0 (A * B) := by
  obtain ⟨a1, a2⟩ := ha
  obtain ⟨b1, b2⟩ := hb
  have p1 := Rat.mul_nonneg (show 0 ≤ A - a by grind) (show 0 ≤ B - b by grind)
  have p2 := Rat.mul_nonneg (show 0 ≤ A + a by grind) (show 0 ≤ B + b by grind)
  have p3 := Rat.mul_nonneg (show 0 ≤ A - a by grind) (show 0 ≤ B + b by grind)
  have p4 := Rat.mul_nonneg (show 0 ≤ A + a by grind) (show 0 ≤ B - b by grind)
  exact ⟨by grind, by grind⟩
theorem nb_int (a : Int) : nb (a : Rat) 0 ((a.natAbs : Nat) : Rat) := by
  rw [← nat_int]
  have h1 := le_of_int (show a ≤ ((a.natAbs : Nat) : Int) by omega)
  have h2 := le_of_int (show -a ≤ ((a.natAbs : Nat) : Int) by omega)
  rw [Rat.intCast_neg] at h2
  exact ⟨by grind, by grind⟩
theorem ev_abs {y : Rat} (h0 : 0 ≤ y) (h1 : y ≤ 1) : ∀ l, nb (ev l y) 0 ((pabs l : Nat) : Rat)
  | [] => by
    show nb 0 0 ((0 : Nat) : Rat)
    exact ⟨by grind, by grind⟩
  | a :: l => by
    have ih := ev_abs h0 h1 l
    have ha := nb_int a
    have hy : nb y 0 1 := ⟨by grind, by grind⟩
    have hm := nb_mul hy ih
    show nb ((a : Rat) + y * ev l y) 0 ((a.natAbs + pabs l : Nat) : Rat)
    rw [Rat.natCast_add]
    obtain ⟨x1, x2⟩ := ha
    obtain ⟨m1, m2⟩ := hm
    exact ⟨by grind, by grind⟩
/-- the coefficients, in units of 2 to the power -104 -/
def tab : Nat → List Int
  | 0 => [20282409603651670423947251286016, 10141204801825835211973625643008, 845100400152152887418639351808, 28170013338405098886115885056, 503035952471519603332218880, 5589288360794661782028288, 42343093642383807479808, 232654360672438484992, 969393169468493696]
  | _ => [20282409603651670423947251286016, 3380401600608611549674557407232, 169020080030430584520602288128, 4024287619772156826657751040, 55892883607946626410217472, 508117123708605689757696, 3257161049414138593280, 15510290711495899136, 57023127615793744]
def tb (odd k : Nat) : Int := (tab odd).getD k 0
def w : Rat := ((2 ^ (ul - 104) : Nat) : Rat) * u
theorem tb_cf (odd k : Nat) (ho : odd < 2) (hk : k < 9) : fz (cf odd k) = tb odd k * ((2 ^ (ul - 104) : Nat) : Int) := by
  have key : ∀ o, o < 2 → ∀ j, j < 9 → fz (cf o j) = tb o j * ((2 ^ (ul - 104) : Nat) : Int) := by decide +kernel
  exact key odd ho k hk
theorem V_cf (odd k : Nat) (ho : odd < 2) (hk : k < 9) : V (cf odd k) = (tb odd k : Rat) * w := by
  unfold V w
  rw [tb_cf odd k ho hk, Rat.intCast_mul, nat_int]; grind
theorem w_eq : w * ((2 ^ 104 : Nat) : Rat) = 1 := by
  have h := u_mul
  have e : (2 ^ ul : Nat) = 2 ^ (ul - 104) * 2 ^ 104 := by rw [← Nat.pow_add, show ul - 104 + 104 = ul by have := ul_eq; omega]
  rw [e, Rat.natCast_mul] at h
  unfold w
  grind
/-- the series with nothing rounded -/
def hp (y : Rat) (odd : Nat) : Nat → Rat
  | 0 => V (cf odd 8)
  | i + 1 => V (cf odd (7 - i)) - y * hp y odd i
def hl (odd : Nat) : Nat → List Int
  | 0 => [tb odd 8]
  | i + 1 => tb odd (7 - i) :: psc (-1) (hl odd i)
theorem hp_ev {y : Rat} {odd : Nat} (ho : odd < 2) : ∀ i, i ≤ 8 → hp y odd i = w * ev (hl odd i) y := by
  intro i
  induction i with
  | zero =>
    intro _
    show V (cf odd 8) = w * ((tb odd 8 : Rat) + y * 0)
    rw [V_cf odd 8 ho (by omega)]; grind
  | succ i ih =>
    intro hi
    show V (cf odd (7 - i)) - y * hp y odd i = w * ((tb odd (7 - i) : Rat) + y * ev (psc (-1) (hl odd i)) y)
    rw [ih (by omega), V_cf odd (7 - i) ho (by omega), ev_sc]
    have : ((-1 : Int) : Rat) = -1 := by decide
    rw [this]; grind
/-- how far the squares of the two series are from 1 -/
def rest : List Int := padd (padd (pmul (hl 0 8) (hl 0 8)) (0 :: pmul (hl 1 8) (hl 1 8))) [-411376139330301510538742295639337626245683966408394965837152256]
theorem rest_le : pabs rest ≤ 365375409332725729550921208179070754913983135744 := by decide +kernel
theorem poly {y : Rat} (h0 : 0 ≤ y) (h1 : y ≤ 1) : nb (hp y 0 8 * hp y 0 8 + y * (hp y 1 8 * hp y 1 8)) 1 (16 * eps) := by
  rw [hp_ev (by omega) 8 (Nat.le_refl _), hp_ev (by omega) 8 (Nat.le_refl _)]
  have hr : ev rest y = ev (hl 0 8) y * ev (hl 0 8) y + y * (ev (hl 1 8) y * ev (hl 1 8) y) - 411376139330301510538742295639337626245683966408394965837152256 := by
    unfold rest
    rw [ev_add, ev_add, ev_mul]
    show ev (hl 0 8) y * ev (hl 0 8) y + (((0 : Int) : Rat) + y * ev (pmul (hl 1 8) (hl 1 8)) y) + (((-411376139330301510538742295639337626245683966408394965837152256 : Int) : Rat) + y * 0) = _
    rw [ev_mul, Rat.intCast_zero, Rat.intCast_neg]
    have : ((411376139330301510538742295639337626245683966408394965837152256 : Int) : Rat) = 411376139330301510538742295639337626245683966408394965837152256 := by decide
    rw [this]; grind
  have ha := ev_abs h0 h1 rest
  have hle : ((pabs rest : Nat) : Rat) ≤ ((365375409332725729550921208179070754913983135744 : Nat) : Rat) := Rat.natCast_le_natCast.2 rest_le
  have hn : ((365375409332725729550921208179070754913983135744 : Nat) : Rat) = 365375409332725729550921208179070754913983135744 := by decide
  rw [hn] at hle
  have hw := w_eq
  have hn2 : ((2 ^ 104 : Nat) : Rat) = 20282409603651670423947251286016 := by decide
  rw [hn2] at hw
  have he := eps_eq
  have hww : 0 ≤ w * w := by
    have : 0 ≤ w := Rat.mul_nonneg (Rat.le_of_lt (Rat.natCast_pos.2 (Nat.two_pow_pos _))) u_nonneg
    exact Rat.mul_nonneg this this
  have hw2 : w * w * 411376139330301510538742295639337626245683966408394965837152256 = 1 := by
    have : w * w * 411376139330301510538742295639337626245683966408394965837152256 = (w * 20282409603651670423947251286016) * (w * 20282409603651670423947251286016) := by grind
    rw [this, hw]; grind
  obtain ⟨a1, a2⟩ := ha
  have b1 := Rat.mul_le_mul_of_nonneg_left (show 0 - ev rest y ≤ 365375409332725729550921208179070754913983135744 by grind) hww
  have b2 := Rat.mul_le_mul_of_nonneg_left (show ev rest y - 0 ≤ 365375409332725729550921208179070754913983135744 by grind) hww
  have k : w * w * 365375409332725729550921208179070754913983135744 = 16 * eps := by grind
  rw [k] at b1 b2
  have e : w * ev (hl 0 8) y * (w * ev (hl 0 8) y) + y * (w * ev (hl 1 8) y * (w * ev (hl 1 8) y)) - 1 = w * w * ev rest y := by
    rw [hr]; grind
  exact ⟨by grind, by grind⟩
theorem V_word {c : Nat} (h : c ≤ one) : 0 ≤ V c ∧ V c ≤ 1 := by
  have o := one_lt
  have hu := u_mul
  unfold V
  rw [fz_word (by omega), nat_int]
  refine ⟨Rat.mul_nonneg (Rat.natCast_nonneg) u_nonneg, ?_⟩
  have h1 : ((vr c : Nat) : Rat) ≤ ((2 ^ ul : Nat) : Rat) := Rat.natCast_le_natCast.2 (by rw [← vr_one]; exact vr_le h)
  have h2 := Rat.mul_le_mul_of_nonneg_right h1 u_nonneg
  grind
theorem nb_tri {a b c A B : Rat} (h : nb a b A) (k : nb b c B) : nb a c (A + B) := by
  obtain ⟨h1, h2⟩ := h
  obtain ⟨k1, k2⟩ := k
  exact ⟨by grind, by grind⟩
theorem mul_nb {x y : Nat} (hx : x ≤ one) (hy : y ≤ one) : nb (V (co .mul x y)) (V x * V y) eps := by
  have o := one_lt
  obtain ⟨x0, x1⟩ := V_word hx
  obtain ⟨y0, y1⟩ := V_word hy
  have p := Rat.mul_nonneg x0 y0
  have q := Rat.mul_le_mul_of_nonneg_left y1 x0
  obtain ⟨r, e, _, h⟩ := mul_err (x := x) (y := y) (fin_word (by omega)) (fin_word (by omega)) (by grind) (by grind)
  rw [co_mul, e, Option.getD_some]
  exact h
theorem sub_nb {c z : Nat} (hc : c ≤ one) (hz : z ≤ c) : nb (V (co .sub c z)) (V c - V z) eps := by
  have o := one_lt
  obtain ⟨x0, x1⟩ := V_word hc
  obtain ⟨y0, y1⟩ := V_word (Nat.le_trans hz hc)
  obtain ⟨r, e, _, h⟩ := sub_err (x := c) (y := z) (fin_word (by omega)) (fin_word (by omega)) (by grind) (by grind)
  rw [co_sub, e, Option.getD_some]
  exact h
theorem ser_nb {y odd : Nat} (ho : odd < 2) (hy : y ≤ one) : ∀ i, i ≤ 8 → nb (V (ser y odd i)) (hp (V y) odd i) (2 * (i : Rat) * eps) := by
  intro i
  induction i with
  | zero =>
    intro _
    have : (((0 : Nat) : Nat) : Rat) = 0 := by decide
    show nb (V (cf odd 8)) (V (cf odd 8)) _
    rw [this]
    exact ⟨by grind, by grind⟩
  | succ i ih =>
    intro hi
    have o := one_lt
    obtain ⟨i1, i2⟩ := ih (by omega)
    have c0 := cf_le odd (7 - i) ho (by omega)
    have c1 := cf_le odd (8 - i) ho (by omega)
    have cd := cf_falls (k := 7 - i) ho (by omega)
    rw [show 7 - i + 1 = 8 - i by omega] at cd
    have hs := ser_le ho hy i (by omega)
    have hz := mul_word hy hs (by omega)
    have m := mul_nb hy (Nat.le_trans hs c1)
    have s := sub_nb c0 (Nat.le_trans hz cd)
    obtain ⟨y0, y1⟩ := V_word hy
    have d : nb (V y) 0 1 := ⟨by grind, by grind⟩
    have g : nb (V (ser y odd i) - hp (V y) odd i) 0 (2 * (i : Rat) * eps) := ⟨by grind, by grind⟩
    have dg := nb_mul d g
    show nb (V (co .sub (cf odd (7 - i)) (co .mul y (ser y odd i)))) (V (cf odd (7 - i)) - V y * hp (V y) odd i) (2 * ((i + 1 : Nat) : Rat) * eps)
    rw [Rat.natCast_add, show ((1 : Nat) : Rat) = 1 by decide]
    obtain ⟨m1, m2⟩ := m
    obtain ⟨s1, s2⟩ := s
    obtain ⟨g1, g2⟩ := dg
    exact ⟨by grind, by grind⟩
theorem eps_small : 0 < eps ∧ eps < 1 / 1000 := by
  unfold eps
  exact ⟨by grind, by grind⟩
theorem half_nb : nb (V half * V half + V half * V half) 1 (86 * eps) := by
  have h : fz half = 6369051672525773 * ((2 ^ (ul - 53) : Nat) : Int) := by decide +kernel
  have hv : V half * 9007199254740992 = 6369051672525773 := by
    have hu := u_mul
    have e : (2 ^ ul : Nat) = 2 ^ (ul - 53) * 2 ^ 53 := by rw [← Nat.pow_add, show ul - 53 + 53 = ul by have := ul_eq; omega]
    rw [e, Rat.natCast_mul, show ((2 ^ 53 : Nat) : Rat) = 9007199254740992 by decide] at hu
    unfold V
    rw [h, Rat.intCast_mul, nat_int, show ((6369051672525773 : Int) : Rat) = 6369051672525773 by decide]
    grind
  have he := eps_eq
  have e2 : V half = 6369051672525773 / 9007199254740992 := by grind
  rw [e2]
  exact ⟨by grind, by grind⟩
theorem ei_circle {r n : Nat} (h : 8 * r ≤ n) (hn : n < 33554432) : nb (V (eiC r n) * V (eiC r n) + V (eiS r n) * V (eiS r n)) 1 (86 * eps) := by
  unfold eiC eiS
  have he := eps_small
  by_cases h0 : r = 0
  · rw [if_pos h0, if_pos h0]
    have v1 : V one = 1 := by
      unfold V
      rw [fz_word (by decide), nat_int, vr_one]
      have := u_mul
      grind
    have v0 : V 0 = 0 := by
      unfold V
      rw [fz_word (by decide), vr_zero]
      show ((0 : Int) : Rat) * u = 0
      rw [Rat.intCast_zero]; grind
    rw [v1, v0]
    exact ⟨by grind, by grind⟩
  · by_cases h8 : 8 * r = n
    · rw [if_neg h0, if_neg h0, if_pos h8, if_pos h8]
      exact half_nb
    · rw [if_neg h0, if_neg h0, if_neg h8, if_neg h8]
      have ht := ang_le (r := r) (by omega) h hn
      generalize ang r n = t at *
      have hy : co .mul t t ≤ one := mul_word ht ht one_lt
      have ny := mul_nb ht ht
      generalize co .mul t t = y at *
      have hc := ser_le_one (odd := 0) (by omega) hy
      have hq := ser_le_one (odd := 1) (by omega) hy
      have nc := ser_nb (odd := 0) (by omega) hy 8 (Nat.le_refl _)
      have nq := ser_nb (odd := 1) (by omega) hy 8 (Nat.le_refl _)
      have ns := mul_nb ht hq
      have hs : co .mul t (ser y 1 8) ≤ one := mul_word ht hq one_lt
      generalize co .mul t (ser y 1 8) = s at *
      generalize ser y 0 8 = c at *
      generalize ser y 1 8 = q at *
      have tv := V_word ht
      have yv := V_word hy
      have cv := V_word hc
      have qv := V_word hq
      have sv := V_word hs
      have np := poly yv.1 yv.2
      rw [show ((8 : Nat) : Rat) = 8 by decide] at nc nq
      generalize hp (V y) 0 8 = P at *
      generalize hp (V y) 1 8 = Q at *
      generalize V t = T at *
      generalize V y = Y at *
      generalize V c = C at *
      generalize V q = q' at *
      generalize V s = S at *
      generalize eps = E at *
      obtain ⟨nc1, nc2⟩ := nc
      obtain ⟨nq1, nq2⟩ := nq
      obtain ⟨ns1, ns2⟩ := ns
      obtain ⟨ny1, ny2⟩ := ny
      obtain ⟨np1, np2⟩ := np
      obtain ⟨t0, t1⟩ := tv
      obtain ⟨y0, y1⟩ := yv
      obtain ⟨c0, c1⟩ := cv
      obtain ⟨q0, q1⟩ := qv
      obtain ⟨s0, s1⟩ := sv
      have d1 : nb ((C - P) * (C + P)) 0 (16 * E * (33 / 16)) := nb_mul ⟨by grind, by grind⟩ ⟨by grind, by grind⟩
      have d2 : nb ((q' - Q) * (q' + Q)) 0 (16 * E * (33 / 16)) := nb_mul ⟨by grind, by grind⟩ ⟨by grind, by grind⟩
      have d3 := nb_mul (a := Y) (A := 1) ⟨by grind, by grind⟩ d2
      have tq0 := Rat.mul_nonneg t0 q0
      have tq1 := Rat.mul_le_mul_of_nonneg_left q1 t0
      have d4 : nb ((S - T * q') * (S + T * q')) 0 (E * 3) := nb_mul ⟨by grind, by grind⟩ ⟨by grind, by grind⟩
      have qq0 := Rat.mul_nonneg q0 q0
      have qq1 := Rat.mul_le_mul_of_nonneg_left q1 q0
      have d5 : nb ((Y - T * T) * (q' * q')) 0 (E * 1) := nb_mul ⟨by grind, by grind⟩ ⟨by grind, by grind⟩
      obtain ⟨d11, d12⟩ := d1
      obtain ⟨d31, d32⟩ := d3
      obtain ⟨d41, d42⟩ := d4
      obtain ⟨d51, d52⟩ := d5
      clear d2 qq0 qq1 tq0 tq1 nc1 nc2 nq1 nq2 ns1 ns2 ny1 ny2
      have key : C * C + S * S - 1 = (C - P) * (C + P) + Y * ((q' - Q) * (q' + Q)) + (S - T * q') * (S + T * q') - (Y - T * T) * (q' * q') + (P * P + Y * (Q * Q) - 1) := by grind
      generalize (C - P) * (C + P) = z1 at *
      generalize Y * ((q' - Q) * (q' + Q)) = z2 at *
      generalize (S - T * q') * (S + T * q') = z3 at *
      generalize (Y - T * T) * (q' * q') = z4 at *
      generalize P * P + Y * (Q * Q) = z5 at *
      exact ⟨by grind, by grind⟩
end Go.Proofs.YtgfmimmiaalhcaaDoor.Rp
