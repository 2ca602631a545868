/-
  What the statement TextShortest wants to know of a plain text. Plain.
-/
import Derived.Test.YtmfnjmgdindlaaaDoorQj
import Derived.Test.YtmfnjmgdindlaaaDoorDgu
namespace Go.Proofs.YtmfnjmgdindlaaaDoor
open Flo Go.RowKit
/-- the plain text of a float that is finite and not 0: sign, digits r, exponent x; no text with fewer digits is read as the float -/
structure FN (b : Nat) (txt r : List UInt8) (x : Int) : Prop where
  tx : txt = (if decide (9223372036854775808 ≤ b) then [45] else []) ++ dtd r ++ exl x (Lib.decDigits x.natAbs)
  dig : ∀ c ∈ r, Dg.isD c = true
  ne : r ≠ []
  len : r.length ≤ 19
  ds : Ds x.natAbs (Lib.decDigits x.natAbs)
  cnt : dcount txt = r.length
  less : ∀ (q el : List UInt8) (y : Int) (et er v : Value), (∀ c ∈ q, Dg.isD c = true) → q ≠ [] → q.length < r.length → Ds y.natAbs el → PP ((if decide (9223372036854775808 ≤ b) then [45] else []) ++ dtd q ++ exl y el) et er v →
    v = tup 0 er ∨ ∃ s, v = tup s .nilIface ∧ s < 18446744073709551616 ∧ FloatKind.f64.format.order s b ≠ some .eq
theorem dotted_dtd {r : List UInt8} (h : r ≠ []) : dotted r = dtd r := by
  unfold dotted dtd
  have : 0 < r.length := List.length_pos_iff.2 h
  by_cases c : r.length = 1
  · rw [if_pos c, if_pos (by omega)]
  · rw [if_neg c, if_neg (by omega)]
theorem itoa_exl (x : Int) : [101] ++ Lib.itoa x = exl x (Lib.decDigits x.natAbs) := by
  unfold Lib.itoa exl
  by_cases c : x < 0
  · rw [if_pos c, if_pos c]; rfl
  · rw [if_neg c, if_neg c, show x.toNat = x.natAbs by omega]; rfl
/-- unlike sizes, the same sign: not equal -/
theorem ord_ne {s b : Nat} (hb : b < 18446744073709551616) (hf : b % 9223372036854775808 < 9218868437227405312) (hs : s < 9218868437227405312) (hne : s ≠ b % 9223372036854775808) : FloatKind.f64.format.order (s + sg (decide (9223372036854775808 ≤ b))) b ≠ some .eq := by
  have h1 : sg (decide (9223372036854775808 ≤ b)) = if 9223372036854775808 ≤ b then 9223372036854775808 else 0 := by
    unfold sg
    by_cases c : 9223372036854775808 ≤ b
    · rw [if_pos (by simpa using c), if_pos c]
    · rw [if_neg (by simpa using c), if_neg c]
  rw [h1]
  intro he
  have h2 := order_of (s + if 9223372036854775808 ≤ b then 9223372036854775808 else 0) b (by split <;> omega) hb (by split <;> omega) (by omega)
  have h3 : FloatKind.f64.format.order (s + if 9223372036854775808 ≤ b then 9223372036854775808 else 0) b = Ieee.double.order (s + if 9223372036854775808 ≤ b then 9223372036854775808 else 0) b := rfl
  rw [h3, h2] at he
  have h4 := Option.some.inj he
  rw [Int.compare_eq_eq] at h4
  unfold sv at h4
  by_cases c : 9223372036854775808 ≤ b
  · rw [if_pos c, if_neg (by omega), if_neg (by omega)] at h4
    omega
  · rw [if_neg c, if_pos (by omega), if_pos (by omega)] at h4
    omega
theorem fn_of {b : Nat} {txt : List UInt8} (hb : b < 18446744073709551616) (hf : b % 9223372036854775808 < 9218868437227405312) (h0 : b % 9223372036854775808 ≠ 0) (h : PT b txt) : ∃ r x, FN b txt r x := by
  unfold PT at h
  rw [if_neg (by omega), if_neg (by omega), if_neg (by omega), if_neg (by omega), if_neg (by omega)] at h
  obtain ⟨E, m, t, W, L, H, n, X, e1, m0, m1, m2, v, hs, ht⟩ := h
  have hE : E ≤ 2045 := by omega
  have bd := srt_bounds hs v.lo v.hi
  have dl := Dg.dd_len (u := n) (by omega)
  have hd19 : (Lib.decDigits n).length ≤ 19 := by
    apply Nat.le_of_not_lt
    intro hc
    have : 10 ^ 19 ≤ 10 ^ ((Lib.decDigits n).length - 1) := Nat.pow_le_pow_right (by decide) (by omega)
    omega
  have t1 := v.t1
  have t2 := v.t2
  have hdig : ∀ c ∈ rz (Lib.decDigits n), Dg.isD c = true := fun c hc => Dg.dd_all n c (rz_mem hc)
  have hrl : (rz (Lib.decDigits n)).length ≤ (Lib.decDigits n).length := by
    have := Dg.rz_len (Lib.decDigits n)
    rw [← rz_eq] at this
    exact this
  obtain ⟨c, u, hcu, hc, _, _⟩ := ptx_head (n := n) (by omega) (t + (Lib.decDigits n).length - 1)
  have hne : rz (Lib.decDigits n) ≠ [] := by
    intro e
    rw [ptx_dot, e] at hcu
    have e2 : (46 : UInt8) = c := (List.cons.inj hcu).1
    exact (isD_ne hc).2.1 e2.symm
  have hsg : (if 9223372036854775808 ≤ b then ([45] : List UInt8) else []) = (if decide (9223372036854775808 ≤ b) then [45] else []) := by
    by_cases c : 9223372036854775808 ≤ b
    · rw [if_pos c, if_pos (by simpa using c)]
    · rw [if_neg c, if_neg (by simpa using c)]
  refine ⟨rz (Lib.decDigits n), t + (Lib.decDigits n).length - 1, ?_, hdig, hne, by omega, ?_, ?_, ?_⟩
  · rw [ht, hsg, ptx_dot, dotted_dtd hne, ← itoa_exl]
    simp only [List.append_assoc]
  · have hx : (t + (Lib.decDigits n).length - 1).natAbs < 10 ^ 19 := by omega
    refine ⟨Dg.dd_all _, Dg.dd_ne _, Dg.dd_dv _, ?_⟩
    rcases Nat.eq_zero_or_pos (t + (Lib.decDigits n).length - 1).natAbs with e | e
    · rw [e, Dg.dd_small (by decide)]; decide
    · have dl2 := Dg.dd_len e
      apply Nat.le_of_not_lt
      intro hc
      have : 10 ^ 19 ≤ 10 ^ ((Lib.decDigits (t + (Lib.decDigits n).length - 1).natAbs).length - 1) := Nat.pow_le_pow_right (by decide) (by omega)
      omega
  · rw [ht, hsg]
    exact dcount_ptx n _ _ (by omega)
  · intro q el y et er v' hq hqn hql hel hpp
    obtain ⟨s, sp, hh⟩ := pp_dot hq hqn (by omega) hel hpp
    rcases hh with ⟨_, e⟩ | ⟨hi, e⟩
    · exact .inl e
    · refine .inr ⟨_, e, ?_, ?_⟩
      · have : sg (decide (9223372036854775808 ≤ b)) ≤ 9223372036854775808 := by unfold sg; split <;> omega
        unfold Rd.inf at hi
        omega
      · have hne := sp_fewest v m0 m1 m2 hE hs hq hqn hql sp hi
        unfold Rd.inf at hi
        exact ord_ne hb hf hi (by omega)
/-- the view's power of ten is the only one -/
theorem ten_step (e t : Int) (d : Nat) : Rd.sU e t * Rd.sD e (t + d) = 10 ^ d * (Rd.sU e (t + d) * Rd.sD e t) := by
  unfold Rd.sU Rd.sD
  have h : (-t).toNat + (t + d).toNat = d + ((-(t + d)).toNat + t.toNat) := by omega
  have h2 : (10 : Nat) ^ (-t).toNat * 10 ^ (t + d).toNat = 10 ^ d * (10 ^ (-(t + d)).toNat * 10 ^ t.toNat) := by rw [← Nat.pow_add, h, Nat.pow_add, Nat.pow_add]
  generalize (2 : Nat) ^ e.toNat = x
  generalize (2 : Nat) ^ (-e).toNat = y
  generalize (10 : Nat) ^ (-t).toNat = p at *
  generalize (10 : Nat) ^ (t + d).toNat = q at *
  generalize (10 : Nat) ^ (-(t + d)).toNat = p' at *
  generalize (10 : Nat) ^ t.toNat = q' at *
  generalize (10 : Nat) ^ d = z at *
  calc p * x * (q * y) = (p * q) * (x * y) := by simp only [Nat.mul_left_comm, Nat.mul_comm]
    _ = (z * (p' * q')) * (x * y) := by rw [h2]
    _ = z * (p' * x * (q' * y)) := by simp only [Nat.mul_left_comm, Nat.mul_comm]
theorem floor_step {A u v u' v' z W W' : Nat} (hv : 0 < v) (hv' : 0 < v') (h : u * v' = z * (u' * v)) (hW : A * u / v = W) (hW' : A * u' / v' = W') : W' * z ≤ W := by
  have h1 : W' * v' ≤ A * u' := by rw [← hW']; exact Nat.div_mul_le_self _ _
  rw [← hW, Nat.le_div_iff_mul_le hv]
  have h2 : W' * z * v * v' ≤ A * u * v' := by
    calc W' * z * v * v' = (W' * v') * (z * v) := by simp only [Nat.mul_left_comm, Nat.mul_comm]
      _ ≤ (A * u') * (z * v) := Nat.mul_le_mul_right _ h1
      _ = A * (z * (u' * v)) := by simp only [Nat.mul_left_comm, Nat.mul_comm]
      _ = A * u * v' := by rw [← h, Nat.mul_assoc]
  exact Nat.le_of_mul_le_mul_right h2 hv'
theorem View.t_le {E m : Nat} {t t' : Int} {W L H W' L' H' : Nat} {X X' : Bool} (v : View E m t W X L H) (v' : View E m t' W' X' L' H') : ¬ t < t' := by
  intro hlt
  obtain ⟨d, rfl⟩ : ∃ d : Nat, t' = t + d := ⟨(t' - t).toNat, by omega⟩
  have h := floor_step (Rd.sD_pos _ _) (Rd.sD_pos _ _) (ten_step ((E : Int) - 1076) t d) v.wh v'.wh
  have h10 : 10 ≤ 10 ^ d := by
    calc 10 = 10 ^ 1 := rfl
      _ ≤ 10 ^ d := Nat.pow_le_pow_right (by decide) (by omega)
  have := Nat.mul_le_mul_left W' h10
  have l := v'.lo
  have hi := v.hi
  omega
theorem View.uniq {E m : Nat} {t t' : Int} {W L H W' L' H' : Nat} {X X' : Bool} (v : View E m t W X L H) (v' : View E m t' W' X' L' H') : t = t' ∧ W = W' ∧ X = X' ∧ L = L' ∧ H = H' := by
  have a := v.t_le v'
  have b := v'.t_le v
  obtain rfl : t = t' := by omega
  exact ⟨rfl, v.wh.symm.trans v'.wh, v.ex.symm.trans v'.ex, v.le.symm.trans v'.le, v.mo.symm.trans v'.mo⟩
/-- a float has one plain text -/
theorem PT_uniq {b : Nat} {txt txt' : List UInt8} (h : PT b txt) (h' : PT b txt') : txt = txt' := by
  unfold PT at h h'
  by_cases c1 : b = 9221120237041090560
  · rw [if_pos c1] at h h'; rw [h, h']
  rw [if_neg c1] at h h'
  by_cases c2 : b = 9218868437227405312
  · rw [if_pos c2] at h h'; rw [h, h']
  rw [if_neg c2] at h h'
  by_cases c3 : b = 18442240474082181120
  · rw [if_pos c3] at h h'; rw [h, h']
  rw [if_neg c3] at h h'
  by_cases c4 : b = 0
  · rw [if_pos c4] at h h'; rw [h, h']
  rw [if_neg c4] at h h'
  by_cases c5 : b = 9223372036854775808
  · rw [if_pos c5] at h h'; rw [h, h']
  rw [if_neg c5] at h h'
  obtain ⟨E, m, t, W, L, H, n, X, e1, m0, m1, m2, v, hs, ht⟩ := h
  obtain ⟨E', m', t', W', L', H', n', X', e1', m0', m1', m2', v', hs', ht'⟩ := h'
  obtain ⟨rfl, rfl⟩ : E = E' ∧ m = m' := by omega
  obtain ⟨rfl, rfl, rfl, rfl, rfl⟩ := v.uniq v'
  have hn := hs.uniq hs'
  subst hn
  rw [ht, ht']
end Go.Proofs.YtmfnjmgdindlaaaDoor
