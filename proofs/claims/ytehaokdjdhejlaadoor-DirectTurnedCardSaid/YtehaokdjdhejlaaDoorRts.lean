/-
  The pair (cosine, sine) of k/n of a turn as the document reckons it, as plain functions of words; that it is finite and never a nought below; what quarter turns, half turns, the way back and a common factor of two do to it. No condition; nothing of the program.
-/
import Derived.Test.YtehaokdjdhejlaaDoorRtr
namespace Go.Proofs.YtehaokdjdhejlaaDoor.Rp
open Flo Ieee Ari

/-- a nought is the nought above -/
def zp (x : Nat) : Nat := if x % 9223372036854775808 = 0 then 0 else x
theorem zp_zp (x : Nat) : zp (zp x) = zp x := by
  unfold zp
  by_cases h : x % 9223372036854775808 = 0
  · rw [if_pos h]; rfl
  · rw [if_neg h, if_neg h]
theorem fin_zp {x : Nat} (h : fin x) : fin (zp x) := by
  unfold zp; split
  · exact ⟨by decide, by decide⟩
  · exact h
theorem zp_ng_zp {x : Nat} (h : x < 18446744073709551616) : zp (ng (zp x)) = zp (ng x) := by
  unfold zp
  rw [ng_mod h]
  by_cases h0 : x % 9223372036854775808 = 0
  · rw [if_pos h0, if_pos h0]; decide
  · rw [if_neg h0, if_neg h0, ng_mod h, if_neg h0]
theorem zp_pos (x : Nat) : zp x % 9223372036854775808 = 0 → zp x = 0 := by
  unfold zp
  split
  · intro _; rfl
  · intro h; contradiction
theorem zp_ng_ng {x : Nat} (h : x < 18446744073709551616) : zp (ng (zp (ng x))) = zp x := by
  rw [zp_ng_zp (ng_lt h), ng_ng h]

def bc (n r : Nat) : Nat := if 2 * r ≤ n then eiC r (4 * n) else eiS (n - r) (4 * n)
def bs (n r : Nat) : Nat := if 2 * r ≤ n then eiS r (4 * n) else eiC (n - r) (4 * n)
def qC (q c s : Nat) : Nat := if q = 1 then ng s else if q = 2 then ng c else if q = 3 then s else c
def qS (q c s : Nat) : Nat := if q = 1 then c else if q = 2 then ng s else if q = 3 then ng c else s
def pcQ (q n r : Nat) : Nat := zp (qC q (bc n r) (bs n r))
def psQ (q n r : Nat) : Nat := zp (qS q (bc n r) (bs n r))
def pc (n m : Nat) : Nat := pcQ (4 * m / n) n (4 * m % n)
def ps (n m : Nat) : Nat := psQ (4 * m / n) n (4 * m % n)
/-- the root's imaginary part -/
def pim (n m : Nat) : Nat := zp (ng (ps n m))
/-- k modulo n -/
def md (n : Nat) (k : Int) : Nat := (k % (n : Int)).toNat
theorem md_lt {n : Nat} (h : 0 < n) (k : Int) : md n k < n := by
  unfold md
  have := Int.emod_nonneg k (show (n : Int) ≠ 0 by omega)
  have := Int.emod_lt_of_pos k (show (0 : Int) < n by omega)
  omega
theorem md_eq {n : Nat} (h : 0 < n) (k : Int) : ((md n k : Nat) : Int) = k % (n : Int) := by
  unfold md
  have := Int.emod_nonneg k (show (n : Int) ≠ 0 by omega)
  omega

theorem bc_fin {n r : Nat} (h : r < n) (hn : n ≤ 4194304) : fin (bc n r) := by
  unfold bc; split
  · exact (eiC_bd (by omega) (by omega)).1
  · exact (eiS_bd (by omega) (by omega)).1
theorem bs_fin {n r : Nat} (h : r < n) (hn : n ≤ 4194304) : fin (bs n r) := by
  unfold bs; split
  · exact (eiS_bd (by omega) (by omega)).1
  · exact (eiC_bd (by omega) (by omega)).1
theorem qC_fin {q c s : Nat} (hc : fin c) (hs : fin s) : fin (qC q c s) := by
  unfold qC; split
  · exact fin_ng hs
  · split
    · exact fin_ng hc
    · split
      · exact hs
      · exact hc
theorem qS_fin {q c s : Nat} (hc : fin c) (hs : fin s) : fin (qS q c s) := by
  unfold qS; split
  · exact hc
  · split
    · exact fin_ng hs
    · split
      · exact fin_ng hc
      · exact hs
theorem pcQ_fin (q : Nat) {n r : Nat} (h : r < n) (hn : n ≤ 4194304) : fin (pcQ q n r) := fin_zp (qC_fin (bc_fin h hn) (bs_fin h hn))
theorem psQ_fin (q : Nat) {n r : Nat} (h : r < n) (hn : n ≤ 4194304) : fin (psQ q n r) := fin_zp (qS_fin (bc_fin h hn) (bs_fin h hn))
theorem pc_fin {n : Nat} (m : Nat) (h : 0 < n) (hn : n ≤ 4194304) : fin (pc n m) := pcQ_fin _ (Nat.mod_lt _ h) hn
theorem ps_fin {n : Nat} (m : Nat) (h : 0 < n) (hn : n ≤ 4194304) : fin (ps n m) := psQ_fin _ (Nat.mod_lt _ h) hn
theorem pim_fin {n : Nat} (m : Nat) (h : 0 < n) (hn : n ≤ 4194304) : fin (pim n m) := fin_zp (fin_ng (ps_fin m h hn))
theorem zp_pc (n m : Nat) : zp (pc n m) = pc n m := zp_zp _
theorem zp_ps (n m : Nat) : zp (ps n m) = ps n m := zp_zp _
theorem zp_pim (n m : Nat) : zp (pim n m) = pim n m := zp_zp _

theorem qC0 (c s : Nat) : qC 0 c s = c := by unfold qC; rw [if_neg (by decide), if_neg (by decide), if_neg (by decide)]
theorem qC1 (c s : Nat) : qC 1 c s = ng s := by unfold qC; rw [if_pos rfl]
theorem qC2 (c s : Nat) : qC 2 c s = ng c := by unfold qC; rw [if_neg (by decide), if_pos rfl]
theorem qC3 (c s : Nat) : qC 3 c s = s := by unfold qC; rw [if_neg (by decide), if_neg (by decide), if_pos rfl]
theorem qS0 (c s : Nat) : qS 0 c s = s := by unfold qS; rw [if_neg (by decide), if_neg (by decide), if_neg (by decide)]
theorem qS1 (c s : Nat) : qS 1 c s = c := by unfold qS; rw [if_pos rfl]
theorem qS2 (c s : Nat) : qS 2 c s = ng s := by unfold qS; rw [if_neg (by decide), if_pos rfl]
theorem qS3 (c s : Nat) : qS 3 c s = ng c := by unfold qS; rw [if_neg (by decide), if_neg (by decide), if_pos rfl]
/-- a quarter turn on -/
theorem quarterQ {q n r : Nat} (hq : q < 4) (h : r < n) (hn : n ≤ 4194304) : pcQ ((q + 1) % 4) n r = zp (ng (psQ q n r)) ∧ psQ ((q + 1) % 4) n r = pcQ q n r := by
  have fc := (bc_fin h hn).1
  have fs := (bs_fin h hn).1
  unfold pcQ psQ
  generalize bc n r = c at *
  generalize bs n r = s at *
  rcases (by omega : q = 0 ∨ q = 1 ∨ q = 2 ∨ q = 3) with rfl | rfl | rfl | rfl
  · show zp (qC 1 c s) = zp (ng (zp (qS 0 c s))) ∧ zp (qS 1 c s) = zp (qC 0 c s)
    rw [qC1, qS0, qS1, qC0, zp_ng_zp fs]
    exact ⟨rfl, rfl⟩
  · show zp (qC 2 c s) = zp (ng (zp (qS 1 c s))) ∧ zp (qS 2 c s) = zp (qC 1 c s)
    rw [qC2, qS1, qS2, qC1, zp_ng_zp fc]
    exact ⟨rfl, rfl⟩
  · show zp (qC 3 c s) = zp (ng (zp (qS 2 c s))) ∧ zp (qS 3 c s) = zp (qC 2 c s)
    rw [qC3, qS2, qS3, qC2, zp_ng_ng fs]
    exact ⟨rfl, rfl⟩
  · show zp (qC 0 c s) = zp (ng (zp (qS 3 c s))) ∧ zp (qS 0 c s) = zp (qC 3 c s)
    rw [qC0, qS3, qS0, qC3, zp_ng_ng fc]
    exact ⟨rfl, rfl⟩
theorem eq_half {r n : Nat} (h0 : r ≠ 0) (h : 8 * r = n) : eiC r n = half ∧ eiS r n = half := by
  unfold eiC eiS
  rw [if_neg h0, if_pos h, if_neg h0, if_pos h]
  exact ⟨rfl, rfl⟩
theorem b_back {n r : Nat} (h0 : 0 < r) (h : r < n) : bc n (n - r) = bs n r ∧ bs n (n - r) = bc n r := by
  unfold bc bs
  rw [show n - (n - r) = r by omega]
  rcases Nat.lt_trichotomy (2 * r) n with h2 | h2 | h2
  · rw [if_neg (by omega), if_pos (by omega), if_neg (by omega), if_pos (by omega)]; exact ⟨rfl, rfl⟩
  · rw [if_pos (by omega), if_pos (by omega), if_pos (by omega), if_pos (by omega), show n - r = r by omega]
    have e := eq_half (r := r) (n := 4 * n) (by omega) (by omega)
    rw [e.1, e.2]; exact ⟨rfl, rfl⟩
  · rw [if_pos (by omega), if_neg (by omega), if_pos (by omega), if_neg (by omega)]; exact ⟨rfl, rfl⟩
/-- the way back -/
theorem backQ {q n r : Nat} (hq : q < 4) (h0 : 0 < r) (h : r < n) (hn : n ≤ 4194304) : pcQ (3 - q) n (n - r) = pcQ q n r ∧ psQ (3 - q) n (n - r) = zp (ng (psQ q n r)) := by
  have fc := (bc_fin h hn).1
  have fs := (bs_fin h hn).1
  have e := b_back h0 h
  unfold pcQ psQ
  rw [e.1, e.2]
  generalize bc n r = c at *
  generalize bs n r = s at *
  rcases (by omega : q = 0 ∨ q = 1 ∨ q = 2 ∨ q = 3) with rfl | rfl | rfl | rfl
  · show zp (qC 3 s c) = zp (qC 0 c s) ∧ zp (qS 3 s c) = zp (ng (zp (qS 0 c s)))
    rw [qC3, qC0, qS3, qS0, zp_ng_zp fs]
    exact ⟨rfl, rfl⟩
  · show zp (qC 2 s c) = zp (qC 1 c s) ∧ zp (qS 2 s c) = zp (ng (zp (qS 1 c s)))
    rw [qC2, qC1, qS2, qS1, zp_ng_zp fc]
    exact ⟨rfl, rfl⟩
  · show zp (qC 1 s c) = zp (qC 2 c s) ∧ zp (qS 1 s c) = zp (ng (zp (qS 2 c s)))
    rw [qC1, qC2, qS1, qS2, zp_ng_ng fs]
    exact ⟨rfl, rfl⟩
  · show zp (qC 0 s c) = zp (qC 3 c s) ∧ zp (qS 0 s c) = zp (ng (zp (qS 3 c s)))
    rw [qC0, qC3, qS0, qS3, zp_ng_ng fc]
    exact ⟨rfl, rfl⟩
theorem b_zero (n : Nat) : bc n 0 = one ∧ bs n 0 = 0 := by
  unfold bc bs eiC eiS
  simp
theorem backQ0 {q n : Nat} (h0 : 0 < q) (hq : q < 4) : pcQ (4 - q) n 0 = pcQ q n 0 ∧ psQ (4 - q) n 0 = zp (ng (psQ q n 0)) := by
  unfold pcQ psQ
  rw [(b_zero n).1, (b_zero n).2]
  rcases (by omega : q = 1 ∨ q = 2 ∨ q = 3) with rfl | rfl | rfl <;> decide
theorem qr_of {n a q r : Nat} (h : a = q * n + r) (hr : r < n) : a / n = q ∧ a % n = r := by
  subst h
  have hn : 0 < n := by omega
  refine ⟨?_, ?_⟩
  · rw [Nat.mul_comm q n, Nat.mul_add_div hn, Nat.div_eq_of_lt hr]; omega
  · rw [Nat.mul_comm q n, Nat.mul_add_mod, Nat.mod_eq_of_lt hr]
theorem parts {n m : Nat} (h : m < n) : ∃ q r, 4 * m / n = q ∧ 4 * m % n = r ∧ 4 * m = q * n + r ∧ r < n ∧ q < 4 := by
  have hn : 0 < n := by omega
  refine ⟨_, _, rfl, rfl, ?_, Nat.mod_lt _ hn, (Nat.div_lt_iff_lt_mul hn).2 (by omega)⟩
  have := Nat.div_add_mod (4 * m) n
  rw [Nat.mul_comm] at this; omega
/-- a common factor of two -/
theorem pair_scale {n m j : Nat} (h : m < n) (hn : n * 2 ^ j ≤ 4194304) : pc (n * 2 ^ j) (m * 2 ^ j) = pc n m ∧ ps (n * 2 ^ j) (m * 2 ^ j) = ps n m := by
  have hj := Nat.two_pow_pos j
  obtain ⟨q, r, e1, e2, e3, hr, hq⟩ := parts h
  have hr2 : r * 2 ^ j < n * 2 ^ j := Nat.mul_lt_mul_of_pos_right hr hj
  have e4 : 4 * (m * 2 ^ j) = q * (n * 2 ^ j) + r * 2 ^ j := by
    rw [← Nat.mul_assoc, e3, Nat.add_mul, Nat.mul_assoc]
  obtain ⟨d1, d2⟩ := qr_of e4 hr2
  have hb : bc (n * 2 ^ j) (r * 2 ^ j) = bc n r ∧ bs (n * 2 ^ j) (r * 2 ^ j) = bs n r := by
    unfold bc bs
    have c1 : (2 * (r * 2 ^ j) ≤ n * 2 ^ j) = (2 * r ≤ n) := by
      apply propext
      rw [← Nat.mul_assoc]
      exact Nat.mul_le_mul_right_iff hj
    have e5 : 4 * (n * 2 ^ j) = 4 * n * 2 ^ j := by rw [Nat.mul_assoc]
    have e6 : n * 2 ^ j - r * 2 ^ j = (n - r) * 2 ^ j := by rw [Nat.sub_mul]
    have hn4 : 4 * n * 2 ^ j < 33554432 := by rw [← e5]; omega
    simp only [c1, e5, e6]
    by_cases h2 : 2 * r ≤ n
    · have s := ei_scale (r := r) (n := 4 * n) (j := j) (by omega) hn4
      rw [if_pos h2, if_pos h2, if_pos h2, if_pos h2]
      exact s
    · have s := ei_scale (r := n - r) (n := 4 * n) (j := j) (by omega) hn4
      rw [if_neg h2, if_neg h2, if_neg h2, if_neg h2]
      exact ⟨s.2, s.1⟩
  unfold pc ps pcQ psQ
  rw [d1, d2, e1, e2, hb.1, hb.2]
  exact ⟨rfl, rfl⟩
/-- the way back -/
theorem pair_back {n m : Nat} (h0 : 0 < m) (h : m < n) (hn : n ≤ 4194304) : pc n (n - m) = pc n m ∧ ps n (n - m) = zp (ng (ps n m)) := by
  obtain ⟨q, r, e1, e2, e3, hr, hq⟩ := parts h
  unfold pc ps
  rw [e1, e2]
  by_cases hz : r = 0
  · subst hz
    have q0 : 0 < q := by
      rcases Nat.eq_zero_or_pos q with h | h
      · subst h; omega
      · exact h
    have e4 : 4 * (n - m) = (4 - q) * n + 0 := by rw [Nat.sub_mul]; omega
    obtain ⟨d1, d2⟩ := qr_of e4 (by omega)
    rw [d1, d2]
    exact backQ0 q0 hq
  · have e4 : 4 * (n - m) = (3 - q) * n + (n - r) := by
      have : q * n + n ≤ 4 * n := by
        have := Nat.mul_le_mul_right n (show q + 1 ≤ 4 by omega)
        rw [Nat.add_mul] at this; omega
      rw [Nat.sub_mul]; omega
    obtain ⟨d1, d2⟩ := qr_of e4 (by omega)
    rw [d1, d2]
    exact backQ hq (by omega) hr hn
/-- a quarter turn on -/
theorem pair_quarter {n m t : Nat} (h : m < n) (hn : n ≤ 4194304) (ht : n = 4 * t) : pc n ((m + t) % n) = zp (ng (ps n m)) ∧ ps n ((m + t) % n) = pc n m := by
  obtain ⟨q, r, e1, e2, e3, hr, hq⟩ := parts h
  have t0 : 0 < t := by omega
  have e4 : 4 * ((m + t) % n) = ((q + 1) % 4) * n + r := by
    by_cases h3 : q = 3
    · subst h3
      have hge : n ≤ m + t := by omega
      rw [Nat.mod_eq_sub_mod hge, Nat.mod_eq_of_lt (by omega)]
      omega
    · have hlt : m + t < n := by
        have := Nat.mul_le_mul_right n (show q ≤ 2 by omega)
        omega
      rw [Nat.mod_eq_of_lt hlt, Nat.mod_eq_of_lt (show q + 1 < 4 by omega), Nat.add_mul]
      omega
  obtain ⟨d1, d2⟩ := qr_of e4 hr
  unfold pc ps
  rw [d1, d2, e1, e2]
  exact quarterQ hq hr hn
/-- half a turn on -/
theorem pair_half {n m t : Nat} (h : m < n) (hn : n ≤ 4194304) (ht : n = 2 * t) : pc n ((m + t) % n) = zp (ng (pc n m)) ∧ ps n ((m + t) % n) = zp (ng (ps n m)) := by
  obtain ⟨q, r, e1, e2, e3, hr, hq⟩ := parts h
  have e4 : 4 * ((m + t) % n) = ((q + 1) % 4 + 1) % 4 * n + r := by
    by_cases h3 : 2 ≤ q
    · have hge : n ≤ m + t := by
        have := Nat.mul_le_mul_right n h3
        omega
      rw [Nat.mod_eq_sub_mod hge, Nat.mod_eq_of_lt (by omega)]
      rcases (by omega : q = 2 ∨ q = 3) with rfl | rfl <;> simp only [Nat.reduceAdd, Nat.reduceMod] <;> omega
    · have hlt : m + t < n := by
        have := Nat.mul_le_mul_right n (show q ≤ 1 by omega)
        omega
      rw [Nat.mod_eq_of_lt hlt]
      rcases (by omega : q = 0 ∨ q = 1) with rfl | rfl <;> simp only [Nat.reduceAdd, Nat.reduceMod] <;> omega
  obtain ⟨d1, d2⟩ := qr_of e4 hr
  have q1 := quarterQ hq hr hn
  have q2 := quarterQ (q := (q + 1) % 4) (by omega) hr hn
  unfold pc ps
  rw [d1, d2, e1, e2, q2.1, q2.2, q1.1, q1.2]
  exact ⟨rfl, rfl⟩
/-- the exact places -/
theorem pair_zero (n : Nat) : pc n 0 = one ∧ ps n 0 = 0 := by
  unfold pc ps pcQ psQ
  rw [Nat.mul_zero, Nat.zero_div, Nat.zero_mod, (b_zero n).1, (b_zero n).2]
  decide
theorem pair_at {n m q : Nat} (hm : 4 * m = q * n) (hn : 0 < n) : pc n m = zp (qC q one 0) ∧ ps n m = zp (qS q one 0) := by
  obtain ⟨d1, d2⟩ := qr_of (q := q) (r := 0) (n := n) (a := 4 * m) (by omega) hn
  unfold pc ps pcQ psQ
  rw [d1, d2, (b_zero n).1, (b_zero n).2]
  exact ⟨rfl, rfl⟩
theorem pair_eighth {n m : Nat} (hm : n = 8 * m) (h0 : 0 < m) : pc n m = half ∧ ps n m = half := by
  obtain ⟨d1, d2⟩ := qr_of (q := 0) (r := 4 * m) (n := n) (a := 4 * m) (by omega) (by omega)
  have e := eq_half (r := 4 * m) (n := 4 * n) (by omega) (by omega)
  unfold pc ps pcQ psQ bc bs
  rw [d1, d2, if_pos (by omega), if_pos (by omega), e.1, e.2]
  decide
end Go.Proofs.YtehaokdjdhejlaaDoor.Rp
