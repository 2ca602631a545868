/-
  The contract of math/bits.Div64 where the upper word is not 0.
-/
import Derived.Test.YtoaccmblaifnmaaDoorAa1
import Derived.Test.YtoaccmblaifnmaaDoorAb1
import Derived.Test.YtoaccmblaifnmaaDoorAa7
namespace Go.Proofs.YtoaccmblaifnmaaDoor
open Flo Go.RowKit Go.Lib

/-- the facts of one look at a guess -/
theorem look {q r b m : Nat} (hq : q < 4294967296) (hr : r < 4294967296) (hb : b < 4294967296) (hm : m < 4294967296) :
    ∃ c d t : Nat, c = q * b ∧ t = 4294967296 * r + m ∧ IntKind.u64.wrap ((q : Int) * (b : Int)) = (c : Int) ∧ IntKind.u64.wrap (4294967296 * (r : Int)) = (d : Int) ∧ IntKind.u64.wrap ((d : Int) + (m : Int)) = (t : Int) := by
  have h1 : q * b ≤ 4294967295 * 4294967295 := Nat.mul_le_mul (by omega) (by omega)
  refine ⟨q * b, 4294967296 * r, 4294967296 * r + m, rfl, rfl, ?_, ?_, ?_⟩
  · rw [castMul]; exact wrapId _ (by omega)
  · have e : (4294967296 : Int) * (r : Int) = ((4294967296 * r : Nat) : Int) := by omega
    rw [e]; exact wrapId _ (by omega)
  · rw [castAdd]; exact wrapId _ (by omega)
theorem wrap_pred {q : Nat} (h : 0 < q) (h2 : q < 18446744073709551616) : IntKind.u64.wrap ((q : Int) - 1) = ((q - 1 : Nat) : Int) := by
  rw [IntKind.wrap_u64]; omega
theorem wrap_plus {r a : Nat} (h : r < 4294967296) (h2 : a < 4294967296) : IntKind.u64.wrap ((r : Int) + (a : Int)) = ((r + a : Nat) : Int) := by
  rw [IntKind.wrap_u64]; omega

/-- quotient and rest of two words by one -/
def dq (hi lo y : Nat) : Nat := (hi * 18446744073709551616 + lo) / y
def dr (hi lo y : Nat) : Nat := (hi * 18446744073709551616 + lo) % y
theorem dr_lt {y : Nat} (hi lo : Nat) (h : 0 < y) : dr hi lo y < y := Nat.mod_lt _ h
/-- the upper and the lower word of a product -/
def mh (x y : Nat) : Nat := x * y / 18446744073709551616
def ml (x y : Nat) : Nat := x * y % 18446744073709551616
theorem mh_lt {x y : Nat} (hx : x < 18446744073709551616) (hy : y < 18446744073709551616) : mh x y < 18446744073709551616 := by
  unfold mh
  rw [Nat.div_lt_iff_lt_mul (by decide)]
  exact Nat.mul_lt_mul'' hx hy
theorem ml_lt (x y : Nat) : ml x y < 18446744073709551616 := Nat.mod_lt _ (by decide)
theorem dr_mul (x y m : Nat) : dr (mh x y) (ml x y) m = x * y % m := by
  unfold dr mh ml
  rw [Nat.mul_comm (x * y / 18446744073709551616), Nat.div_add_mod]
end Go.Proofs.YtoaccmblaifnmaaDoor
/-
  Plain mathematics of rests: inverses and the number that leaves two told rests are one; Euclid's way with its factors. No condition; nothing of the program.
-/
namespace Go.Proofs.YtoaccmblaifnmaaDoor.Cr
theorem dvd_iff_mod (m a b : Nat) : (m : Int) ∣ (a : Int) - (b : Int) ↔ a % m = b % m := by
  rw [Int.dvd_iff_emod_eq_zero, ← Int.emod_eq_emod_iff_emod_sub_eq_zero]
  constructor
  · intro h
    have h1 : ((a % m : Nat) : Int) = ((b % m : Nat) : Int) := by rw [Int.natCast_emod, Int.natCast_emod]; exact h
    exact Int.ofNat_inj.1 h1
  · intro h
    rw [← Int.natCast_emod, ← Int.natCast_emod, h]

theorem cop_cancel {m a x y : Nat} (h : Nat.gcd a m = 1) (e : a * x % m = a * y % m) : x % m = y % m := by
  rw [← dvd_iff_mod] at e ⊢
  have e1 : (a : Int) * (x : Int) - (a : Int) * (y : Int) = (a : Int) * ((x : Int) - (y : Int)) := by rw [Int.mul_sub]
  rw [Int.natCast_mul, Int.natCast_mul, e1] at e
  have h1 : m ∣ a * ((x : Int) - (y : Int)).natAbs := by
    have := Int.ofNat_dvd_left.1 e
    rwa [Int.natAbs_mul, Int.natAbs_natCast] at this
  have h2 : Nat.Coprime m a := by rw [Nat.coprime_iff_gcd_eq_one, Nat.gcd_comm]; exact h
  exact Int.ofNat_dvd_left.2 (h2.dvd_of_dvd_mul_left h1)

theorem inv_unique {m a x y : Nat} (h : Nat.gcd a m = 1) (hx : x < m) (hy : y < m) (ex : a * x % m = 1 % m) (ey : a * y % m = 1 % m) : x = y := by
  have := cop_cancel h (ex.trans ey.symm)
  rwa [Nat.mod_eq_of_lt hx, Nat.mod_eq_of_lt hy] at this

theorem crt_unique {m n x y : Nat} (h : Nat.gcd m n = 1) (hx : x < m * n) (hy : y < m * n) (e1 : x % m = y % m) (e2 : x % n = y % n) : x = y := by
  rw [← dvd_iff_mod] at e1 e2
  have d1 := Int.ofNat_dvd_left.1 e1
  have d2 := Int.ofNat_dvd_left.1 e2
  have d3 : m * n ∣ ((x : Int) - (y : Int)).natAbs := Nat.Coprime.mul_dvd_of_dvd_of_dvd h d1 d2
  apply Classical.byContradiction
  intro hne
  have : m * n ≤ ((x : Int) - (y : Int)).natAbs := Nat.le_of_dvd (by omega) d3
  omega

/-- one step of Euclid's way with its factors -/
theorem step {m : Nat} {a s0 s1 s2 r0 r1 r2 q t : Int} (h0 : (m : Int) ∣ s0 * a - r0) (h1 : (m : Int) ∣ s1 * a - r1) (hr : r0 = q * r1 + r2) (hs : s2 + q * s1 = s0 + t * m) : (m : Int) ∣ s2 * a - r2 := by
  have e : s2 * a - r2 = (s0 * a - r0) - q * (s1 * a - r1) + t * a * m := by
    have : s2 = s0 + t * m - q * s1 := by omega
    rw [this, hr, Int.sub_mul, Int.add_mul, Int.mul_sub, Int.mul_assoc q s1 a, Int.mul_right_comm t m a]
    omega
  rw [e]
  exact Int.dvd_add (Int.dvd_sub h0 (Int.dvd_mul_of_dvd_right h1)) (Int.dvd_mul_left _ _)

def ls (a b m : Nat) : Nat := if b ≤ a then a - b else m - (b - a)
theorem ls_lt {a b m : Nat} (ha : a < m) : ls a b m < m := by unfold ls; split <;> omega
theorem ls_eq {a b m : Nat} (hb : b < m) : ∃ t : Int, (ls a b m : Int) + (b : Int) = (a : Int) + t * (m : Int) := by
  unfold ls
  by_cases h : b ≤ a
  · rw [if_pos h]; exact ⟨0, by omega⟩
  · rw [if_neg h]; exact ⟨1, by omega⟩
theorem ls_add {a b m : Nat} (hb : b < m) : (ls a b m + b) % m = a % m := by
  unfold ls
  by_cases h : b ≤ a
  · rw [if_pos h, Nat.sub_add_cancel h]
  · rw [if_neg h]
    have : m - (b - a) + b = a + m := by omega
    rw [this, Nat.add_mod_right]

/-- the joined number -/
theorem join_ok {a m b n v : Nat} (hm : 0 < m) (hn : 0 < n) (hv : m * v % n = 1 % n) :
    a % m + m * (ls (b % n) (a % m % n) n * v % n) < m * n ∧ (a % m + m * (ls (b % n) (a % m % n) n * v % n)) % m = a % m ∧ (a % m + m * (ls (b % n) (a % m % n) n * v % n)) % n = b % n := by
  have ha : a % m < m := Nat.mod_lt _ hm
  have hb : b % n < n := Nat.mod_lt _ hn
  have hr : a % m % n < n := Nat.mod_lt _ hn
  have hk : ls (b % n) (a % m % n) n * v % n < n := Nat.mod_lt _ hn
  refine ⟨?_, ?_, ?_⟩
  · calc a % m + m * (ls (b % n) (a % m % n) n * v % n) < m + m * (ls (b % n) (a % m % n) n * v % n) := by omega
      _ = m * (ls (b % n) (a % m % n) n * v % n + 1) := by rw [Nat.mul_add, Nat.mul_one, Nat.add_comm]
      _ ≤ m * n := Nat.mul_le_mul_left _ hk
  · rw [Nat.add_mul_mod_self_left, Nat.mod_mod]
  · have h1 := ls_add (a := b % n) hr
    generalize ls (b % n) (a % m % n) n = d at *
    have e1 : m * (d * v % n) % n = d % n := by
      rw [Nat.mul_mod, Nat.mod_mod, ← Nat.mul_mod, Nat.mul_left_comm, Nat.mul_mod, hv, ← Nat.mul_mod, Nat.mul_one]
    rw [Nat.add_mod, e1, ← Nat.add_mod (a % m), Nat.add_comm, Nat.add_mod, ← Nat.mod_mod (a % m), ← Nat.add_mod, h1, Nat.mod_mod]
end Go.Proofs.YtoaccmblaifnmaaDoor.Cr
/-
  Contracts of the document's answers of layer 5 (timbreref05) that take words: gcd, Mul, Pow, less, Inverse, Join.
-/
namespace Go.Proofs.YtoaccmblaifnmaaDoor
open Flo Go.RowKit Go.Lib

/-- the product modulo m; 0 modulo 0 -/
def mm (a b m : Nat) : Nat := if m = 0 then 0 else a * b % m
theorem mm_lt {m : Nat} (a b : Nat) (h : m < 18446744073709551616) : mm a b m < 18446744073709551616 := by
  unfold mm; split
  · decide
  · exact Nat.lt_trans (Nat.mod_lt _ (by omega)) h
theorem mm_pos {a b m : Nat} (h : 0 < m) : mm a b m = a * b % m := if_neg (by omega)
/-- the power modulo m; 0 modulo 0 -/
def pw (a e m : Nat) : Nat := if m = 0 then 0 else a ^ e % m
theorem pw_pos {a e m : Nat} (h : 0 < m) : pw a e m = a ^ e % m := if_neg (by omega)
theorem pw_lt {m : Nat} (a e : Nat) (h : m < 18446744073709551616) : pw a e m < 18446744073709551616 := by
  unfold pw; split
  · decide
  · exact Nat.lt_trans (Nat.mod_lt _ (by omega)) h
/-- one digit of the exponent more -/
theorem pw_step {a e m k : Nat} (h : 0 < m) (d : Nat) (hd : e / 2 ^ k = 2 * (e / 2 ^ (k + 1)) + d) (hd2 : d = 0 ∨ d = 1) :
    pw a (e / 2 ^ k) m = if d = 0 then mm (pw a (e / 2 ^ (k + 1)) m) (pw a (e / 2 ^ (k + 1)) m) m else mm (mm (pw a (e / 2 ^ (k + 1)) m) (pw a (e / 2 ^ (k + 1)) m) m) a m := by
  rw [hd]
  generalize e / 2 ^ (k + 1) = f
  rw [pw_pos h, pw_pos h, mm_pos h, mm_pos h]
  have e1 : a ^ f % m * (a ^ f % m) % m = a ^ (2 * f) % m := by rw [← Nat.mul_mod, ← Nat.pow_add, Nat.two_mul]
  rcases hd2 with rfl | rfl
  · rw [if_pos rfl, e1, Nat.add_zero]
  · rw [if_neg (by decide), e1, Nat.mod_mul_mod, Nat.pow_succ]
theorem low_bit (x : Nat) (h : x < 18446744073709551616) : bits .and .u64 (x : Int) 1 = ((x % 2 : Nat) : Int) := by
  have h1 := bits_and_u64_nat x 1 h (by omega)
  have e : x &&& 1 = x % 2 := Nat.and_two_pow_sub_one_eq_mod x 1
  rw [e] at h1; exact h1
/-- may a be turned round modulo m? -/
def ivOk (a m : Nat) : Prop := m ≠ 0 ∧ Nat.gcd (a % m) m = 1
/-- the number of which a times it is 1 modulo m; the one -/
def Iv (a m x : Nat) : Prop := x < m ∧ a * x % m = 1 % m
theorem Iv.eq {a m x y : Nat} (h : ivOk a m) (hx : Iv a m x) (hy : Iv a m y) : x = y := by
  refine Cr.inv_unique ?_ hx.1 hy.1 hx.2 hy.2
  rw [← h.2, ← Nat.gcd_rec, Nat.gcd_comm]
end Go.Proofs.YtoaccmblaifnmaaDoor
/-
  Contracts of the document's answers of layer 5: Inverse, Join.
-/
namespace Go.Proofs.YtoaccmblaifnmaaDoor
open Flo Go.RowKit Go.Lib

/-- what Euclid's way with its factors keeps -/
def Euc (a m p q s t : Nat) : Prop := q < p ∧ p ≤ m ∧ s < m ∧ t < m ∧ Nat.gcd p q = 1 ∧ (m : Int) ∣ (s : Int) * (a : Int) - (p : Int) ∧ (m : Int) ∣ (t : Int) * (a : Int) - (q : Int)
theorem euc_start {a m : Nat} (hm : 0 < m) (h : Nat.gcd (a % m) m = 1) : Euc a m m (a % m) 0 (1 % m) := by
  refine ⟨Nat.mod_lt _ hm, Nat.le_refl _, hm, Nat.mod_lt _ hm, by rw [Nat.gcd_comm]; exact h, ?_, ?_⟩
  · rw [Int.natCast_zero, Int.zero_mul, Int.zero_sub]; exact Int.dvd_neg.2 (Int.dvd_refl _)
  · rw [← Int.natCast_mul, Cr.dvd_iff_mod, Nat.mod_mul_mod, Nat.one_mul, Nat.mod_mod]
theorem euc_step {a m p q s t : Nat} (h : Euc a m p q s t) (hq : 0 < q) : Euc a m q (p % q) t (Cr.ls s (mm (p / q) t m) m) := by
  obtain ⟨h1, h2, h3, h4, h5, h6, h7⟩ := h
  have m0 : 0 < m := by omega
  have hz : mm (p / q) t m = p / q * t % m := mm_pos m0
  have hzl : p / q * t % m < m := Nat.mod_lt _ m0
  rw [hz]
  refine ⟨Nat.mod_lt _ hq, by omega, h4, Cr.ls_lt h3, ?_, h7, ?_⟩
  · rw [Nat.gcd_comm q, ← Nat.gcd_rec, Nat.gcd_comm]; exact h5
  · obtain ⟨t1, ht1⟩ := Cr.ls_eq (a := s) hzl
    have hd := Nat.div_add_mod (p / q * t) m
    have hd' : ((p / q * t : Nat) : Int) = (m : Int) * ((p / q * t / m : Nat) : Int) + ((p / q * t % m : Nat) : Int) := by
      rw [← Int.natCast_mul, ← Int.natCast_add, hd]
    refine Cr.step (q := ((p / q : Nat) : Int)) (t := t1 + ((p / q * t / m : Nat) : Int)) h6 h7 ?_ ?_
    · have := Nat.div_add_mod p q
      rw [← Int.natCast_mul, ← Int.natCast_add]
      congr 1
      rw [Nat.mul_comm]; exact this.symm
    · rw [← Int.natCast_mul, hd', Int.add_mul, Int.mul_comm (m : Int)]
      omega
theorem euc_end {a m p s t : Nat} (h : Euc a m p 0 s t) : Iv a m s := by
  obtain ⟨h1, h2, h3, h4, h5, h6, h7⟩ := h
  rw [Nat.gcd_zero_right] at h5
  subst h5
  refine ⟨h3, ?_⟩
  rw [← Cr.dvd_iff_mod, Int.natCast_mul, Int.mul_comm]
  exact h6
/-- that number, looked for -/
def ivf (a m : Nat) : Nat := ((List.range m).find? fun x => a * x % m == 1 % m).getD 0
theorem ivf_of {a m x : Nat} (h : ivOk a m) (hx : Iv a m x) : ivf a m = x := by
  unfold ivf
  cases hf : (List.range m).find? fun x => a * x % m == 1 % m with
  | none =>
    have := List.find?_eq_none.1 hf x (List.mem_range.2 hx.1)
    exact absurd (beq_iff_eq.2 hx.2) this
  | some y =>
    have h1 := List.find?_some hf
    have h2 := List.mem_range.1 (List.mem_of_find?_eq_some hf)
    exact Iv.eq h ⟨h2, beq_iff_eq.1 h1⟩ hx
theorem Iv_ex {a m : Nat} (hm : 0 < m) (h : Nat.gcd (a % m) m = 1) : Iv a m (ivf a m) := by
  have key : ∀ n p q s t : Nat, q ≤ n → Euc a m p q s t → ∃ x, Iv a m x := by
    intro n
    induction n with
    | zero =>
      intro p q s t hq he
      have : q = 0 := by omega
      subst this
      exact ⟨s, euc_end he⟩
    | succ n ih =>
      intro p q s t hq he
      rcases Nat.eq_zero_or_pos q with h0 | h0
      · subst h0; exact ⟨s, euc_end he⟩
      · exact ih _ _ _ _ (by have := Nat.mod_lt p h0; omega) (euc_step he h0)
  obtain ⟨x, hx⟩ := key _ _ _ _ _ (Nat.le_refl _) (euc_start hm h)
  rw [ivf_of ⟨by omega, h⟩ hx]; exact hx

/-- the number that leaves a modulo m and b modulo n, as the document reckons it -/
def jn (a m b n : Nat) : Nat := a % m + m * mm (Cr.ls (b % n) (a % m % n) n) (ivf (m % n) n) n
theorem jn_ok {a m b n : Nat} (hm : 0 < m) (hn : 0 < n) (h : Nat.gcd m n = 1) : jn a m b n < m * n ∧ jn a m b n % m = a % m ∧ jn a m b n % n = b % n := by
  unfold jn
  rw [mm_pos hn]
  refine Cr.join_ok hm hn ?_
  have hg : Nat.gcd (m % n % n) n = 1 := by rw [Nat.mod_mod, Nat.gcd_comm, Nat.gcd_comm n, ← Nat.gcd_rec, Nat.gcd_comm]; exact h
  have := (Iv_ex hn hg).2
  rwa [Nat.mod_mul_mod] at this
theorem jn_eq {a m b n x : Nat} (hm : 0 < m) (hn : 0 < n) (h : Nat.gcd m n = 1) (h1 : x < m * n) (h2 : x % m = a % m) (h3 : x % n = b % n) : x = jn a m b n := by
  obtain ⟨j1, j2, j3⟩ := jn_ok (a := a) (b := b) hm hn h
  exact Cr.crt_unique h h1 j1 (h2.trans j2.symm) (h3.trans j3.symm)
end Go.Proofs.YtoaccmblaifnmaaDoor
/-
  The contract of the document's Join of layer 5.
-/
namespace Go.Proofs.YtoaccmblaifnmaaDoor
open Flo Go.RowKit Go.Lib

theorem mh_0 {m n : Nat} (h : m * n < 18446744073709551616) : mh m n = 0 := Nat.div_eq_of_lt h
/-- what Join answers -/
def jnR (a m b n : Nat) : Nat × Nat := if m = 0 ∨ n = 0 ∨ 18446744073709551616 ≤ m * n then (0, 5) else if Nat.gcd m n ≠ 1 then (0, 11) else (jn a m b n, 0)
end Go.Proofs.YtoaccmblaifnmaaDoor
/-
  The contract of the document's Factors of layer 5: a new list of the prime factors.
-/
namespace Go.Proofs.YtoaccmblaifnmaaDoor
open Flo Go.RowKit

set_option maxHeartbeats 2000000 in
theorem r5Factors_no (n : Int) (w : World) (h : n < 2 ∨ 4294967296 < n) :
    Calls Tryd.prog 104 #[.int .i64 n] w fun e w' => e = .returned (.slice none 0 0) ∧ w = w' := by
  by_cases h1 : n < 2
  · go_enter Tryd.func104, Tryd.ntmps104
    go_wp2
    go_ret
    exact ⟨rfl, rfl⟩
  · have c1 : decide (n < 2) = false := decide_eq_false h1
    have c2 : 4294967296 < n := by omega
    clear h
    go_enter Tryd.func104, Tryd.ntmps104
    go_wp2
    go_ret
    exact ⟨rfl, rfl⟩
set_option maxRecDepth 100000 in
set_option maxHeartbeats 2000000 in
theorem r5Factors_n (n : Nat) (w : World) (h2 : 2 ≤ n) (hn : n ≤ 4294967296) :
    Calls Tryd.prog 104 #[.int .i64 n] w fun e w' => ∃ v zs, e = .returned v ∧ Nt.Fac n zs ∧ w'.ownsRow w.heap.size 3 1 v zs.length (il zs) ∧ Below w.heap.size w w' := by
  obtain ⟨i0, hi, hz0, hz1, hz2⟩ := info_parts infoInt
  have c1 : decide ((n : Int) < 2) = false := decide_eq_false (by omega)
  have c2 : decide ((4294967296 : Int) < (n : Int)) = false := decide_eq_false (by omega)
  have hst : Hid (Nt.Tri n 2 n []) := Nt.Tri.start (by omega)
  have hnH : Hid (n ≤ 4294967296) := hn
  have h2H : Hid (2 ≤ n) := h2
  clear hn h2
  go_enter Tryd.func104, Tryd.ntmps104
  go_wp2
  go_loopw [0, 3, 4] (fun sn v sd wr => ∃ (N d : Nat) (zs : List Nat), Hid (Nt.Tri n d N zs) ∧ d ≤ 65537 ∧ sn = .int .i64 N ∧ sd = .int .i64 d ∧ wr.ownsRow w.heap.size 3 1 v zs.length (il zs) ∧ Below w.heap.size w wr) (fun _ _ sd _ => (n + 1) - (intOf sd).toNat)
  case atStart => exact ⟨n, 2, [], hst, by omega, rfl, rfl, World.ownsRow_nil _ _ _ _, Below.refl _ _⟩
  case round =>
    obtain ⟨N, d, zs, hT, hd, rfl, rfl, hown, hbl⟩ := hrel
    have hd2 : 2 ≤ d := hT.out.2.2.2.2.2
    have hNn : N ≤ n := hT.out.le
    have hN0 : 0 < N := hT.out.2.2.2.2.1
    have hlen : zs.length ≤ 32 := hT.out.len hnH.out
    have hnn := hnH.out
    obtain ⟨t, ht⟩ : ∃ t : Nat, t = d * d := ⟨_, rfl⟩
    have htl : t ≤ 4295098369 := by rw [ht]; exact Nat.mul_le_mul hd hd
    have ed : wrap64 ((d : Int) * (d : Int)) = (t : Int) := by
      rw [castMul, ← ht]; unfold wrap64; omega
    by_cases hc : t ≤ N
    · have hc' : (t : Int) ≤ (N : Int) := by omega
      have hd' : d < 65537 := by
        apply Nat.lt_of_not_le
        intro h9
        have : 4295098369 ≤ d * d := Nat.mul_le_mul h9 h9
        omega
      have hdn : d ≤ n := by
        have : d * 1 ≤ d * d := Nat.mul_le_mul_left d (by omega)
        omega
      have dz : ((d : Int) == 0) = false := beq_eq_false_iff_ne.2 (by omega)
      clear ht htl hc hNn hN0 hlen hnn
      go_wp2
      clear hc'
      go_loopw [0, 3] (fun sn v wx => ∃ (M : Nat) (ys : List Nat), Hid (Nt.Tri n d M ys) ∧ sn = .int .i64 M ∧ wx.ownsRow w.heap.size 3 1 v ys.length (il ys) ∧ Below w.heap.size w wx) (fun sn _ _ => (intOf sn).toNat)
      case atStart => exact ⟨N, zs, hT, rfl, hown, hbl⟩
      case round =>
        clear hT hown hbl
        obtain ⟨M, ys, hT, rfl, hown, hbl⟩ := hrel
        clear ed
        have hMn : M ≤ n := hT.out.le
        have hM0 : 0 < M := hT.out.2.2.2.2.1
        have hlen : ys.length ≤ 32 := hT.out.len hnH.out
        have hnn := hnH.out
        have hsz := hbl.size
        by_cases hm : M % d = 0
        · have m1 : ((M : Int) % (d : Int) == 0) = true := by rw [beq_iff_eq]; omega
          have hnew : Hid (Nt.Tri n d (M / d) (ys ++ [d])) := hT.out.push hm
          have hsn : Hid (il (ys ++ [d]) = il ys ++ [.int .i64 (d : Int)]) := il_snoc ys d
          obtain ⟨q, hq⟩ : ∃ q : Nat, q = M / d := ⟨_, rfl⟩
          have hqM : q < M := by rw [hq]; exact Nat.div_lt_self hM0 (by omega)
          have eq1 : wrap64 ((M : Int) / (d : Int)) = (q : Int) := by
            rw [show (M : Int) / (d : Int) = ((M / d : Nat) : Int) from rfl, ← hq]; unfold wrap64; omega
          rw [← hq] at hnew
          clear hm hq hM0 hMn hT
          go_wp2_with (at_builtin; refine wpList_append_own _ rfl _ _ 43 rfl w.heap.size 3 i0 (.int .i64 0) 1 8 Tryd.underlying43 hi hz0 hz1 hz2 rfl (by decide) _ _ _ rfl (hown.alloc _) ⟨wr.heap.size, 0, none⟩ 1 1 [.int .i64 (d : Int)] rfl rfl ?c1 ?c2 ?c3 ?c4 ?c5 ?_)
          case c1 =>
            intro j u hj
            match j, hj with
            | 0, hj => simp at hj; subst hj; simp [Addr.add]
          case c2 => intro u hu; simp at hu; subst hu; rfl
          case c3 => unfold maxLen; omega
          case c4 => omega
          case c5 => simp; omega
          · intro v' w1 hown' hgrow hnil
            have hbl' : Below w.heap.size w w1 := (hbl.alloc hsz _).grown hgrow (by simp; omega) (fun k' hk' => (hown.lt k' hk').1)
            rw [← hsn.out] at hown'
            have hl : (ys ++ [d]).length = ys.length + 1 := by simp
            clear hown hgrow hnil hbl
            go_wp2
            rw [eq1]
            clear eq1
            go_roundw
            case rel => exact ⟨q, ys ++ [d], hnew, rfl, by rw [hl]; exact hown', hbl'⟩
            case measure => simp [intOf]; exact hqM
        · have m1 : ((M : Int) % (d : Int) == 0) = false := beq_eq_false_iff_ne.2 (by omega)
          have hnew : Hid (Nt.Tri n (d + 1) M ys) := hT.out.next hm
          have hwd : wrap64 ((d : Int) + 1) = ((d + 1 : Nat) : Int) := by unfold wrap64; omega
          clear hm hM0 hMn hT
          go_wp2
          go_roundw
          case rel => exact ⟨M, d + 1, ys, hnew, by omega, rfl, by go_num, hown, hbl⟩
          case measure => simp [intOf]; omega
    · have hc' : decide ((t : Int) ≤ (N : Int)) = false := decide_eq_false (by omega)
      have hlt : Hid (N < d * d) := (by omega : N < d * d)
      have hsz := hbl.size
      by_cases h1 : 1 < N
      · have k1 : (1 : Int) < (N : Int) := by omega
        have hf : Hid (Nt.Fac n (zs ++ [N])) := hT.out.last hlt.out h1
        have hsn : Hid (il (zs ++ [N]) = il zs ++ [.int .i64 (N : Int)]) := il_snoc zs N
        clear ht htl hNn hN0 h1
        go_wp2_with (at_builtin; refine wpList_append_own _ rfl _ _ 43 rfl w.heap.size 3 i0 (.int .i64 0) 1 8 Tryd.underlying43 hi hz0 hz1 hz2 rfl (by decide) _ _ _ rfl (hown.alloc _) ⟨wr.heap.size, 0, none⟩ 1 1 [.int .i64 (N : Int)] rfl rfl ?c1 ?c2 ?c3 ?c4 ?c5 ?_)
        case c1 =>
          intro j u hj
          match j, hj with
          | 0, hj => simp at hj; subst hj; simp [Addr.add]
        case c2 => intro u hu; simp at hu; subst hu; rfl
        case c3 => unfold maxLen; omega
        case c4 => omega
        case c5 => simp; omega
        · intro v' w1 hown' hgrow hnil
          have hbl' : Below w.heap.size w w1 := (hbl.alloc hsz _).grown hgrow (by simp; omega) (fun k' hk' => (hown.lt k' hk').1)
          rw [← hsn.out] at hown'
          have hl : (zs ++ [N]).length = zs.length + 1 := by simp
          clear hown hgrow hnil hbl
          go_wp2
          go_ret
          exact ⟨_, zs ++ [N], rfl, hf.out, by rw [hl]; exact hown', hbl'⟩
      · have e1 : N = 1 := by omega
        subst e1
        have hf : Hid (Nt.Fac n zs) := hT.out.done
        clear ht htl hNn hN0 h1
        go_wp2
        go_ret
        exact ⟨_, zs, rfl, hf.out, hown, hbl⟩
end Go.Proofs.YtoaccmblaifnmaaDoor
/-
  Contracts of the document's Prime and Root of layer 5.
-/
namespace Go.Proofs.YtoaccmblaifnmaaDoor
open Flo Go.RowKit

def isP (n : Nat) : Bool := decide (2 ≤ n) && (List.range n).all fun d => decide (d < 2) || n % d != 0
theorem isP_iff {n : Nat} : isP n = true ↔ Nt.Pr n := by
  unfold isP
  rw [Bool.and_eq_true, decide_eq_true_eq, List.all_eq_true]
  constructor
  · rintro ⟨h2, h⟩
    refine ⟨h2, fun d hd => ?_⟩
    by_cases c1 : d = 1
    · exact Or.inl c1
    · by_cases c2 : d = n
      · exact Or.inr c2
      · exfalso
        have hle := Nat.le_of_dvd (by omega) hd
        have hd0 : d ≠ 0 := by intro c; subst c; have := Nat.eq_zero_of_zero_dvd hd; omega
        have := h d (List.mem_range.2 (by omega))
        rw [Bool.or_eq_true, decide_eq_true_eq, bne_iff_ne] at this
        rcases this with h3 | h3
        · omega
        · exact h3 (Nat.mod_eq_zero_of_dvd hd)
  · intro hp
    refine ⟨hp.1, fun d hd => ?_⟩
    rw [Bool.or_eq_true, decide_eq_true_eq, bne_iff_ne]
    by_cases c : d < 2
    · exact Or.inl c
    · right
      intro h3
      have := hp.2 d (Nat.dvd_of_mod_eq_zero h3)
      have := List.mem_range.1 hd
      omega
/-- is it a prime up to 2^32? -/
def prB (n : Int) : Bool := decide (2 ≤ n ∧ n ≤ 4294967296) && isP n.toNat
theorem prB_no {n : Int} (h : n < 2 ∨ 4294967296 < n) : prB n = false := by
  unfold prB; rw [decide_eq_false (by omega)]; rfl
theorem prB_nat {n : Nat} (h2 : 2 ≤ n) (hn : n ≤ 4294967296) : prB (n : Int) = isP n := by
  unfold prB; rw [decide_eq_true (by omega), Int.toNat_natCast]; rfl

/-- by no prime factor of p - 1 is the power 1 -/
def good (p h : Nat) : Prop := ∀ q, Nt.Pr q → q ∣ p - 1 → h ^ ((p - 1) / q) % p ≠ 1
/-- the least such number -/
def Rt (p g : Nat) : Prop := 1 ≤ g ∧ g < p ∧ good p g ∧ ∀ h, 1 ≤ h → h < g → ¬ good p h
theorem Rt.eq {p g h : Nat} (a : Rt p g) (b : Rt p h) : g = h := by
  rcases Nat.lt_trichotomy g h with c | c | c
  · exact absurd a.2.2.1 (b.2.2.2 g a.1 c)
  · exact c
  · exact absurd b.2.2.1 (a.2.2.2 h b.1 c)
/-- the prime factors of p - 1, as a list; none of 1 -/
def Fq (p : Nat) (zs : List Nat) : Prop := ∀ q, q ∈ zs ↔ (Nt.Pr q ∧ q ∣ p - 1)
theorem Fq_of {p : Nat} {zs : List Nat} (h : Nt.Fac (p - 1) zs) : Fq p zs := by
  intro q
  constructor
  · intro hq; exact ⟨h.2.1 q hq, by rw [← h.1]; exact Nt.dvd_prod_of_mem hq⟩
  · rintro ⟨hq, hd⟩
    rw [← h.1] at hd
    obtain ⟨x, hx, hxd⟩ := hq.dvd_prod zs hd
    rcases (h.2.1 x hx).2 q hxd with e | e
    · have := hq.1; omega
    · rw [e]; exact hx
theorem Fq_two : Fq 2 [] := by
  intro q
  constructor
  · intro h; cases h
  · rintro ⟨h1, h2⟩
    have := Nat.le_of_dvd (by omega) h2
    have := h1.1
    omega
/-- the look over the first i factors -/
def lookB (p g : Nat) (zs : List Nat) : Bool := zs.all fun q => pw g ((p - 1) / q) p != 1
theorem lookB_snoc (p g : Nat) (zs : List Nat) (i : Nat) (h : i < zs.length) : lookB p g (zs.take (i + 1)) = (lookB p g (zs.take i) && pw g ((p - 1) / zs.getD i 0) p != 1) := by
  unfold lookB
  have e : zs.getD i 0 = zs[i] := by simp [List.getD, h]
  rw [List.take_succ_eq_append_getElem h, List.all_append, e]
  simp
theorem lookB_good {p g : Nat} {zs : List Nat} (hp : 0 < p) (h : Fq p zs) : lookB p g zs = true ↔ good p g := by
  unfold lookB good
  rw [List.all_eq_true]
  constructor
  · intro h1 q hq hd
    have := h1 q ((h q).2 ⟨hq, hd⟩)
    rwa [pw_pos hp, bne_iff_ne] at this
  · intro h1 q hq
    have := (h q).1 hq
    rw [pw_pos hp, bne_iff_ne]
    exact h1 q this.1 this.2
theorem good_ex {p : Nat} {zs : List Nat} (hp : Nt.Pr p) (h : Fq p zs) : ∃ g, 0 < g ∧ g < p ∧ good p g := by
  obtain ⟨g, g1, g2, g3⟩ := Nt.prim_exists hp zs (fun q hq => (h q).1 hq)
  exact ⟨g, g1, g2, fun q hq hd => g3 q ((h q).2 ⟨hq, hd⟩)⟩

/-- Factors of p - 1, in one sentence for p = 2 too -/
theorem r5Factors_p (p : Nat) (w : World) (h2 : 2 ≤ p) (hp : p ≤ 4294967296) :
    Calls Tryd.prog 104 #[.int .i64 ((p : Int) - 1)] w fun e w' => ∃ v zs, e = .returned v ∧ Fq p zs ∧ zs.length ≤ 32 ∧ w'.ownsRow w.heap.size 3 1 v zs.length (il zs) ∧ Below w.heap.size w w' := by
  by_cases h : p = 2
  · subst h
    refine (r5Factors_no _ w (Or.inl (by omega))).mono ?_
    rintro e w' ⟨rfl, rfl⟩
    exact ⟨_, [], rfl, Fq_two, by simp, World.ownsRow_nil _ _ _ _, Below.refl _ _⟩
  · have e1 : (p : Int) - 1 = ((p - 1 : Nat) : Int) := by omega
    rw [e1]
    refine (r5Factors_n (p - 1) w (by omega) (by omega)).mono ?_
    rintro e w' ⟨v, zs, rfl, hf, hown, hbl⟩
    exact ⟨v, zs, rfl, Fq_of hf, hf.len (by omega), hown, hbl⟩

end Go.Proofs.YtoaccmblaifnmaaDoor
/-
  The contract of timbremem.SameInts: are two lists of whole numbers the same?
-/
namespace Go.Proofs.YtoaccmblaifnmaaDoor
open Flo Go.RowKit

theorem ne_at {xs ys : List Nat} {k : Nat} (h : xs.getD k 0 ≠ ys.getD k 0) : false = decide (xs = ys) := (decide_eq_false fun e => h (by rw [e])).symm
theorem ne_len {xs ys : List Nat} (h : xs.length ≠ ys.length) : false = decide (xs = ys) := (decide_eq_false fun e => h (by rw [e])).symm
theorem eq_all {xs ys : List Nat} {n : Nat} (h1 : xs.length = n) (h2 : ys.length = n) (h : ∀ j, j < n → xs.getD j 0 = ys.getD j 0) : true = decide (xs = ys) := by
  refine (decide_eq_true ?_).symm
  apply List.ext_getElem (by omega)
  intro i hi hj
  have := h i (by omega)
  simpa [List.getD, hi, hj] using this

end Go.Proofs.YtoaccmblaifnmaaDoor
/-
  What is asked of the program's own calls of layer 5, in one place; the statements' own 'fixed'.
-/
namespace Go.Proofs.YtoaccmblaifnmaaDoor
open Flo Go.RowKit

/-- the greatest common divisor, signs aside, as an int -/
def gcI (a b : Int) : Int := wrap64 (Nat.gcd a.natAbs b.natAbs : Nat)
structure inI (a : Int) : Prop where
  lo : -9223372036854775808 ≤ a
  hi : a ≤ 9223372036854775807
/-- the sentinel that Inverse answers -/
def ErR (w : World) (al : List Addr) : Prop := w.cell? ⟨10, 0, none⟩ = some (ek al 10)
theorem ErR.below {w w' : World} {al : List Addr} (h : ErR w al) (hb : Below w.heap.size w w') : ErR w' al := (hb.cell (p := ⟨10, 0, none⟩) (cell_lt h)).trans h
theorem ErR.drewN {w : World} {al : List Addr} (h : ErR w al) (k : Nat) : ErR (w.drewN k) al := h
theorem Errs.root {w : World} {al : List Addr} (h : Errs w al) : ErR w al := errRoot_cell h
theorem prime41 : Nt.Pr 41 := isP_iff.1 (by decide)
theorem fq41 : Fq 41 [2, 5] := by
  intro q
  constructor
  · intro h
    have : q = 2 ∨ q = 5 := by simpa using h
    rcases this with rfl | rfl
    · exact ⟨isP_iff.1 (by decide), by decide⟩
    · exact ⟨isP_iff.1 (by decide), by decide⟩
  · rintro ⟨h1, h2⟩
    have hl := Nat.le_of_dvd (by decide) h2
    have key : ∀ x, x < 41 → isP x = true → 40 % x = 0 → x = 2 ∨ x = 5 := by decide
    have := key q (by omega) (isP_iff.2 h1) (Nat.mod_eq_zero_of_dvd h2)
    simpa using this
theorem rt41 : Rt 41 6 := by
  refine ⟨by decide, by decide, (lookB_good (by decide) fq41).1 (by decide), ?_⟩
  intro h h1 h2 hg
  have hl := (lookB_good (by decide) fq41).2 hg
  have key : ∀ x, x < 6 → 1 ≤ x → lookB 41 x [2, 5] = false := by decide
  rw [key h h2 h1] at hl; cases hl
theorem fac360 : Nt.Fac 360 [2, 2, 2, 3, 3, 5] := by
  refine ⟨by decide, ?_, by decide⟩
  intro x hx
  have : x = 2 ∨ x = 3 ∨ x = 5 := by simp at hx; omega
  rcases this with rfl | rfl | rfl
  · exact isP_iff.1 (by decide)
  · exact isP_iff.1 (by decide)
  · exact isP_iff.1 (by decide)
theorem ivOk37 : ivOk 3 7 := ⟨by decide, by decide⟩
theorem ivf37 : ivf 3 7 = 5 := by decide
theorem jn2335 : jn 2 3 3 5 = 8 := by decide
theorem prB97 : prB 97 = true := by decide
theorem gcI12 : gcI (-12) 18 = 6 := by
  unfold gcI
  rw [show Nat.gcd (-12 : Int).natAbs (18 : Int).natAbs = 6 by decide]
  unfold wrap64; omega
theorem pw3 : pw 3 200 13 = 9 := by decide
end Go.Proofs.YtoaccmblaifnmaaDoor
