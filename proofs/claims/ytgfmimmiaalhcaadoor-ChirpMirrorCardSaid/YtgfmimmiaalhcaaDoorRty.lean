/-
  Plain mathematics of the roots: a root's parts lie from -1 to 1, the squares of both make 1 but for 86 times 2 to the power -54; and how far what is reckoned of them lies from that. No condition; nothing of the program.
-/
import Derived.Test.YtgfmimmiaalhcaaDoorRtx
import Derived.Test.YtgfmimmiaalhcaaDoorRtz
namespace Go.Proofs.YtgfmimmiaalhcaaDoor.Rp
open Flo Ieee Ari

theorem V_zp (x : Nat) : V (zp x) = V x := by unfold V; rw [fz_zp]
theorem b_circle {n r : Nat} (h : r < n) (hn : n ≤ 4194304) : nb (V (bc n r) * V (bc n r) + V (bs n r) * V (bs n r)) 1 (86 * eps) := by
  unfold bc bs
  by_cases h2 : 2 * r ≤ n
  · rw [if_pos h2, if_pos h2]
    exact ei_circle (by omega) (by omega)
  · rw [if_neg h2, if_neg h2, Rat.add_comm]
    exact ei_circle (by omega) (by omega)
theorem root_circle {n m : Nat} (h : m < n) (hn : n ≤ 4194304) :
    (-1 ≤ V (pc n m) ∧ V (pc n m) ≤ 1) ∧ (-1 ≤ V (pim n m) ∧ V (pim n m) ≤ 1) ∧ nb (V (pc n m) * V (pc n m) + V (pim n m) * V (pim n m)) 1 (86 * eps) := by
  obtain ⟨q, r, e1, e2, _, hr, hq⟩ := parts h
  have cb := b_circle hr hn
  have fc := (bc_fin hr hn).1
  have fs := (bs_fin hr hn).1
  obtain ⟨c0, c1⟩ := V_word (bc_le hr hn)
  obtain ⟨s0, s1⟩ := V_word (bs_le hr hn)
  have ep : V (pc n m) = V (qC q (bc n r) (bs n r)) := by unfold pc pcQ; rw [e1, e2, V_zp]
  have es : V (pim n m) = - V (qS q (bc n r) (bs n r)) := by
    have hf := ps_fin m (show 0 < n by omega) hn
    unfold pim
    rw [V_zp, V_ng hf.1]
    unfold ps psQ; rw [e1, e2, V_zp]
  rw [ep, es]
  generalize bc n r = c at *
  generalize bs n r = s at *
  obtain ⟨b1, b2⟩ := cb
  rcases (by omega : q = 0 ∨ q = 1 ∨ q = 2 ∨ q = 3) with rfl | rfl | rfl | rfl
  · rw [qC0, qS0]
    generalize V c = x at *
    generalize V s = y at *
    exact ⟨⟨by grind, by grind⟩, ⟨by grind, by grind⟩, by grind, by grind⟩
  · rw [qC1, qS1, V_ng fs]
    generalize V c = x at *
    generalize V s = y at *
    exact ⟨⟨by grind, by grind⟩, ⟨by grind, by grind⟩, by grind, by grind⟩
  · rw [qC2, qS2, V_ng fs, V_ng fc]
    generalize V c = x at *
    generalize V s = y at *
    exact ⟨⟨by grind, by grind⟩, ⟨by grind, by grind⟩, by grind, by grind⟩
  · rw [qC3, qS3, V_ng fc]
    generalize V c = x at *
    generalize V s = y at *
    exact ⟨⟨by grind, by grind⟩, ⟨by grind, by grind⟩, by grind, by grind⟩
/-- a square: not below 0 -/
theorem sq_err {x : Nat} (hx : fin x) (h1 : -1 ≤ V x) (h2 : V x ≤ 1) : ∃ r, double.mul x x = some r ∧ fin r ∧ 0 ≤ V r ∧ nb (V r) (V x * V x) eps ∧ 0 ≤ V x * V x ∧ V x * V x ≤ 1 := by
  have p1 := Rat.mul_nonneg (show 0 ≤ 1 - V x by grind) (show 0 ≤ 1 + V x by grind)
  have p2 : 0 ≤ V x * V x := by
    by_cases h : 0 ≤ V x
    · exact Rat.mul_nonneg h h
    · have := Rat.mul_nonneg (show 0 ≤ - V x by grind) (show 0 ≤ - V x by grind)
      grind
  have p3 : V x * V x ≤ 1 := by grind
  obtain ⟨r, e, f, n⟩ := mul_err hx hx (by grind) p3
  refine ⟨r, e, f, ?_, n, p2, p3⟩
  rw [mul_fin hx hx] at e
  have hs : sg r = false := by
    have e' := Option.some.inj e
    rw [← e', nearest_eq, word_eq]
    have : (sg x ^^ sg x) = false := by cases sg x <;> rfl
    rw [this, if_neg Bool.false_ne_true]
    exact sg_word (by omega)
  unfold V fz
  rw [hs]
  show 0 ≤ (((vl r : Nat) : Int) : Rat) * u
  rw [nat_int]
  exact Rat.mul_nonneg Rat.natCast_nonneg u_nonneg
theorem V_one : V one = 1 := by
  unfold V
  rw [fz_word (by decide), nat_int, vr_one]
  have := u_mul
  grind
/-- what the statement reckons of a root -/
theorem off_small {a b : Nat} (ha : fin a) (hb : fin b) (a1 : -1 ≤ V a) (a2 : V a ≤ 1) (b1 : -1 ≤ V b) (b2 : V b ≤ 1) (hc : nb (V a * V a + V b * V b) 1 (86 * eps)) :
    ∃ x y rx ry z1 z2 z3 z4, double.mul a a = some x ∧ double.mul b b = some y ∧ double.fma a a (ng x) = some rx ∧ double.fma b b (ng y) = some ry ∧
      double.sub x one = some z1 ∧ double.add z1 y = some z2 ∧ double.add z2 rx = some z3 ∧ double.add z3 ry = some z4 ∧ fin x ∧ fin y ∧ fin z4 ∧ nb (V z4) 0 (92 * eps) := by
  have he := eps_small
  obtain ⟨c1, c2⟩ := hc
  obtain ⟨x, ex, fx, x0, ⟨nx1, nx2⟩, ax0, ax1⟩ := sq_err ha a1 a2
  obtain ⟨y, ey, fy, y0, ⟨ny1, ny2⟩, by0, by1⟩ := sq_err hb b1 b2
  obtain ⟨rx, erx, frx, ⟨nrx1, nrx2⟩⟩ := fma_err ha ha (fin_ng fx) (by rw [V_ng fx.1]; grind) (by rw [V_ng fx.1]; grind)
  obtain ⟨ry, ery, fry, ⟨nry1, nry2⟩⟩ := fma_err hb hb (fin_ng fy) (by rw [V_ng fy.1]; grind) (by rw [V_ng fy.1]; grind)
  rw [V_ng fx.1] at nrx1 nrx2
  rw [V_ng fy.1] at nry1 nry2
  obtain ⟨z1, ez1, fz1, ⟨n11, n12⟩⟩ := sub_err fx (fin_word one_lt) (by rw [V_one]; grind) (by rw [V_one]; grind)
  rw [V_one] at n11 n12
  generalize V a * V a = A at *
  generalize V b * V b = B at *
  obtain ⟨z2, ez2, fz2, ⟨n21, n22⟩⟩ := add_err fz1 fy (by grind) (by grind)
  obtain ⟨z3, ez3, fz3, ⟨n31, n32⟩⟩ := add_err fz2 frx (by grind) (by grind)
  obtain ⟨z4, ez4, fz4, ⟨n41, n42⟩⟩ := add_err fz3 fry (by grind) (by grind)
  exact ⟨x, y, rx, ry, z1, z2, z3, z4, ex, ey, erx, ery, ez1, ez2, ez3, ez4, fx, fy, fz4, by grind, by grind⟩
theorem fz_lt {x y : Nat} (h : V x < V y) : fz x < fz y := by
  apply Int.lt_of_not_ge
  intro hc
  have h1 := Rat.mul_le_mul_of_nonneg_right (le_of_int hc) u_nonneg
  unfold V at h
  grind
theorem fz_le {x y : Nat} (h : V x ≤ V y) : fz x ≤ fz y := by
  apply Int.le_of_not_gt
  intro hc
  have h1 : (fz y : Rat) < (fz x : Rat) := Rat.intCast_lt_intCast.2 hc
  have h2 := u_pos
  have h3 : (fz y : Rat) * u < (fz x : Rat) * u := by
    have := (Rat.mul_lt_mul_left (a := (fz y : Rat)) (b := (fz x : Rat)) h2).2 h1
    grind
  unfold V at h
  grind
end Go.Proofs.YtgfmimmiaalhcaaDoor.Rp
