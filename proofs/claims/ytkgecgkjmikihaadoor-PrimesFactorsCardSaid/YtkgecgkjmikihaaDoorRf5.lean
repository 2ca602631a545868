/-
  Contracts of the document's answers of layer 5 (timbreref05) that take words: gcd, Mul, Pow, less, Inverse, Join.
-/
import Derived.Test.YtkgecgkjmikihaaDoorMo2
import Derived.Test.YtkgecgkjmikihaaDoorCrt
namespace Go.Proofs.YtkgecgkjmikihaaDoor
open Flo Go.RowKit Go.Lib

set_option maxHeartbeats 1000000 in
theorem r5gcd_c (a b : Nat) (w : World) (ha : a < 18446744073709551616) (hb : b < 18446744073709551616) :
    Calls Tryd.prog 40 #[.int .u64 a, .int .u64 b] w fun e w' => e = .returned (.int .u64 (Nat.gcd a b : Nat)) ∧ w = w' := by
  go_enter Tryd.func40, Tryd.ntmps40
  go_wp2
  go_loop [0, 1, 5] (fun x y _ => ∃ p q : Nat, p < 18446744073709551616 ∧ q < 18446744073709551616 ∧ x = .int .u64 p ∧ y = .int .u64 q ∧ Hid (Nat.gcd p q = Nat.gcd a b)) (fun _ y _ => (intOf y).toNat)
  case atStart => exact ⟨a, b, ha, hb, rfl, rfl, rfl⟩
  case round =>
    obtain ⟨p, q, hp, hq, rfl, rfl, hg⟩ := hrel
    by_cases h0 : q = 0
    · subst h0
      have hr : Hid (p = Nat.gcd a b) := by have := hg.out; rwa [Nat.gcd_zero_right] at this
      go_wp2
      go_ret
      exact ⟨ret_int (by rw [hr.out]), rfl⟩
    · have c1 : ((q : Int) == 0) = false := beq_eq_false_iff_ne.2 (by omega)
      have c2 : ((q : Int) != 0) = true := by simp [bne, c1]
      obtain ⟨t, ht⟩ : ∃ t : Nat, t = p % q := ⟨_, rfl⟩
      have e1 : (p : Int) % (q : Int) = (t : Int) := by rw [ht]; rfl
      have htq : t < q := by rw [ht]; exact Nat.mod_lt _ (by omega)
      have hg' : Hid (Nat.gcd q t = Nat.gcd a b) := by
        show _ = _
        rw [← hg.out, ht, Nat.gcd_comm q, ← Nat.gcd_rec, Nat.gcd_comm]
      clear ht
      go_wp2
      go_round
      case rel => exact ⟨q, t, hq, by omega, rfl, by rw [e1], hg'⟩
      case measure => simp [intOf]; omega
theorem mul64_q (x y : Int) (w : World) (hx0 : 0 ≤ x) (hx : x < 18446744073709551616) (hy0 : 0 ≤ y) (hy : y < 18446744073709551616) :
    Calls Tryd.prog 32 #[.int .u64 x, .int .u64 y] w fun e w' => e = .returned (.tuple #[.int .u64 (mh x.toNat y.toNat : Nat), .int .u64 (ml x.toNat y.toNat : Nat)]) ∧ w' = w := by
  obtain ⟨p, rfl⟩ := Int.eq_ofNat_of_zero_le hx0
  obtain ⟨q, rfl⟩ := Int.eq_ofNat_of_zero_le hy0
  rw [Int.toNat_natCast, Int.toNat_natCast]
  exact (mul64_m p q w (by omega) (by omega)).mono fun _ _ h => ⟨h.1, h.2.symm⟩
/-- the product modulo m; 0 modulo 0 -/
def mm (a b m : Nat) : Nat := if m = 0 then 0 else a * b % m
theorem mm_lt {m : Nat} (a b : Nat) (h : m < 18446744073709551616) : mm a b m < 18446744073709551616 := by
  unfold mm; split
  · decide
  · exact Nat.lt_trans (Nat.mod_lt _ (by omega)) h
theorem mm_pos {a b m : Nat} (h : 0 < m) : mm a b m = a * b % m := if_neg (by omega)
set_option maxHeartbeats 1000000 in
theorem r5Mul_c (a b m : Nat) (w : World) (ha : a < 18446744073709551616) (hb : b < 18446744073709551616) (hm : m < 18446744073709551616) :
    Calls Tryd.prog 27 #[.int .u64 a, .int .u64 b, .int .u64 m] w fun e w' => e = .returned (.int .u64 (mm a b m : Nat)) ∧ ∃ k, w' = w.drewN k := by
  by_cases h0 : m = 0
  · subst h0
    go_enter Tryd.func27, Tryd.ntmps27
    go_wp2
    go_ret
    exact ⟨rfl, 0, rfl⟩
  · have c1 : ((m : Int) == 0) = false := beq_eq_false_iff_ne.2 (by omega)
    have m0 : 0 < m := by omega
    have a0 : 0 ≤ (a : Int) % (m : Int) := Int.emod_nonneg _ (by omega)
    have b0 : 0 ≤ (b : Int) % (m : Int) := Int.emod_nonneg _ (by omega)
    have a1 : (a : Int) % (m : Int) < 18446744073709551616 := by have := Int.emod_lt_of_pos (a : Int) (show 0 < (m : Int) by omega); omega
    have b1 : (b : Int) % (m : Int) < 18446744073709551616 := by have := Int.emod_lt_of_pos (b : Int) (show 0 < (m : Int) by omega); omega
    have am : a % m < 18446744073709551616 := Nat.lt_trans (Nat.mod_lt _ m0) hm
    have bm : b % m < 18446744073709551616 := Nat.lt_trans (Nat.mod_lt _ m0) hm
    have hr : Hid (dr (mh (a % m) (b % m)) (ml (a % m) (b % m)) m = mm a b m) := by
      show _ = _
      rw [dr_mul, ← Nat.mul_mod, mm_pos (by omega)]
    go_enter Tryd.func27, Tryd.ntmps27
    go_wp2
    go_quiet ((go_at_call 32; exact Calls.quiet_of_same (mul64_q _ _ _ a0 a1 b0 b1)))
    go_wp2_with ((go_at_call 33; refine (rem64_c _ _ _ _ (mh_lt am bm) (ml_lt _ _) hm m0).mono ?_; rintro e w' ⟨rfl, k, rfl⟩))
    all_goals go_ret
    exact ⟨ret_int (by rw [hr.out]), _, rfl⟩

/-- the power modulo m; 0 modulo 0 -/
def pw (a e m : Nat) : Nat := if m = 0 then 0 else a ^ e % m
theorem pw_pos {a e m : Nat} (h : 0 < m) : pw a e m = a ^ e % m := if_neg (by omega)
theorem pw_lt {m : Nat} (a e : Nat) (h : m < 18446744073709551616) : pw a e m < 18446744073709551616 := by
  unfold pw; split
  · decide
  · exact Nat.lt_trans (Nat.mod_lt _ (by omega)) h
/-- one digit of the exponent more -/
theorem pw_step {a e m k : Nat} (h : 0 < m) (d : Nat) (hd : e / 2 ^ k = 2 * (e / 2 ^ (k + 1)) + d) (hd2 : d = 0 ∨ d = 1) :
    pw a (e / 2 ^ k) m = if d = 0 then mm (pw a (e / 2 ^ (k + 1)) m) (pw a (e / 2 ^ (k + 1)) m) m else mm (mm (pw a (e / 2 ^ (k + 1)) m) (pw a (e / 2 ^ (k + 1)) m) m) a m := by
  rw [hd]
  generalize e / 2 ^ (k + 1) = f
  rw [pw_pos h, pw_pos h, mm_pos h, mm_pos h]
  have e1 : a ^ f % m * (a ^ f % m) % m = a ^ (2 * f) % m := by rw [← Nat.mul_mod, ← Nat.pow_add, Nat.two_mul]
  rcases hd2 with rfl | rfl
  · rw [if_pos rfl, e1, Nat.add_zero]
  · rw [if_neg (by decide), e1, Nat.mod_mul_mod, Nat.pow_succ]
theorem low_bit (x : Nat) (h : x < 18446744073709551616) : bits .and .u64 (x : Int) 1 = ((x % 2 : Nat) : Int) := by
  have h1 := bits_and_u64_nat x 1 h (by omega)
  have e : x &&& 1 = x % 2 := Nat.and_two_pow_sub_one_eq_mod x 1
  rw [e] at h1; exact h1
set_option maxHeartbeats 1000000 in
theorem r5Pow_c (a x m : Nat) (w : World) (ha : a < 18446744073709551616) (hx : x < 18446744073709551616) (hm : m < 18446744073709551616) :
    Calls Tryd.prog 29 #[.int .u64 a, .int .u64 x, .int .u64 m] w fun e w' => e = .returned (.int .u64 (pw a x m : Nat)) ∧ ∃ k, w' = w.drewN k := by
  by_cases h0 : m = 0
  · subst h0
    go_enter Tryd.func29, Tryd.ntmps29
    go_wp2
    go_ret
    exact ⟨rfl, 0, rfl⟩
  · have c1 : ((m : Int) == 0) = false := beq_eq_false_iff_ne.2 (by omega)
    have m0 : 0 < m := by omega
    obtain ⟨o, ho⟩ : ∃ o : Nat, o = 1 % m := ⟨_, rfl⟩
    have e1 : (1 : Int) % (m : Int) = (o : Int) := by rw [ho]; rfl
    have hst : Hid (o = pw a (x / 2 ^ 64) m) := by
      show _ = _
      rw [ho, Nat.div_eq_of_lt (by omega), pw_pos m0, Nat.pow_zero]
    clear ho
    go_enter Tryd.func29, Tryd.ntmps29
    go_wp2
    go_loopw [7, 8] (fun s7 s8 wx => ∃ (k q o : Nat) , k ≤ 64 ∧ s8 = .int .i64 ((k : Int) - 1) ∧ s7 = .int .u64 o ∧ Hid (o = pw a (x / 2 ^ k) m) ∧ wx = w.drewN q) (fun _ s8 _ => (intOf s8 + 1).toNat)
    case atStart => exact ⟨64, 0, o, by omega, by rfl, by rw [e1], hst, rfl⟩
    case round =>
      obtain ⟨k, q, p, hk, rfl, rfl, hp, rfl⟩ := hrel
      clear e1 hst
      have lp : p < 18446744073709551616 := by rw [hp.out]; exact pw_lt a _ hm
      by_cases hk0 : k = 0
      · subst hk0
        have hfin : Hid (p = pw a x m) := by have := hp.out; rwa [Nat.pow_zero, Nat.div_one] at this
        go_wp2
        go_ret
        exact ⟨ret_int (by rw [hfin.out]), q, rfl⟩
      · obtain ⟨j, rfl⟩ : ∃ j, k = j + 1 := ⟨k - 1, by omega⟩
        have ej : ((j + 1 : Nat) : Int) - 1 = (j : Int) := by omega
        rw [ej]
        have lj : j < 64 := by omega
        obtain ⟨d, hd⟩ : ∃ d, d = x / 2 ^ j % 2 := ⟨_, rfl⟩
        have hdd : x / 2 ^ j = 2 * (x / 2 ^ (j + 1)) + d := by
          have : x / 2 ^ (j + 1) = x / 2 ^ j / 2 := by rw [Nat.pow_succ, Nat.div_div_eq_div_mul]
          omega
        have hst2 := pw_step (a := a) m0 d hdd (by omega)
        have lx : x / 2 ^ j < 18446744073709551616 := Nat.lt_of_le_of_lt (Nat.div_le_self _ _) hx
        have eb := low_bit (x / 2 ^ j) lx
        rw [← hd] at eb
        have ex : (x : Int) / 2 ^ j = ((x / 2 ^ j : Nat) : Int) := by
          rw [show ((2 : Int) ^ j) = ((2 ^ j : Nat) : Int) by rw [Int.natCast_pow]; rfl]; rfl
        rw [← ex] at eb
        have lsq := mm_lt p p hm
        rw [← hp.out] at hst2
        have hd2 : d = 0 ∨ d = 1 := by omega
        clear hd hdd lx ex
        rcases hd2 with rfl | rfl
        · rw [if_pos rfl] at hst2
          have hn : Hid (mm p p m = pw a (x / 2 ^ j) m) := hst2.symm
          have eb' : bits .and .u64 ((x : Int) / 2 ^ j) 1 = 0 := eb
          clear hst2 eb
          go_wp2_with (go_at_call 27; refine (r5Mul_c _ _ _ _ (by assumption) (by assumption) hm).mono ?_; rintro e w' ⟨rfl, k1, rfl⟩)
          go_roundw
          case rel => exact ⟨j, q + k1, mm p p m, by omega, by go_num, rfl, hn, rfl⟩
          case measure => simp [intOf]
        · rw [if_neg (by decide)] at hst2
          have hn : Hid (mm (mm p p m) a m = pw a (x / 2 ^ j) m) := hst2.symm
          have eb' : bits .and .u64 ((x : Int) / 2 ^ j) 1 = 1 := eb
          clear hst2 eb
          go_wp2_with (go_at_call 27; refine (r5Mul_c _ _ _ _ (by assumption) (by assumption) hm).mono ?_; rintro e w' ⟨rfl, k1, rfl⟩)
          go_roundw
          case rel => exact ⟨j, _, mm (mm p p m) a m, by omega, by go_num, rfl, hn, rfl⟩
          case measure => simp [intOf]
set_option maxHeartbeats 1000000 in
theorem r5less_c (a b m : Nat) (w : World) (ha : a < m) (hb : b < m) (hm : m < 18446744073709551616) :
    Calls Tryd.prog 44 #[.int .u64 a, .int .u64 b, .int .u64 m] w fun e w' => e = .returned (.int .u64 (Cr.ls a b m : Nat)) ∧ w = w' := by
  by_cases h : b ≤ a
  · have c1 : (b : Int) ≤ (a : Int) := by omega
    have hr : Hid (a - b = Cr.ls a b m) := by show _ = _; unfold Cr.ls; rw [if_pos h]
    go_enter Tryd.func44, Tryd.ntmps44
    go_wp2
    go_ret
    exact ⟨ret_int (by rw [← hr.out]; omega), rfl⟩
  · have c1 : decide ((b : Int) ≤ (a : Int)) = false := decide_eq_false (by omega)
    have hr : Hid (m - (b - a) = Cr.ls a b m) := by show _ = _; unfold Cr.ls; rw [if_neg h]
    go_enter Tryd.func44, Tryd.ntmps44
    go_wp2
    go_ret
    exact ⟨ret_int (by rw [← hr.out]; omega), rfl⟩

/-- may a be turned round modulo m? -/
def ivOk (a m : Nat) : Prop := m ≠ 0 ∧ Nat.gcd (a % m) m = 1
/-- the number of which a times it is 1 modulo m; the one -/
def Iv (a m x : Nat) : Prop := x < m ∧ a * x % m = 1 % m
theorem Iv.eq {a m x y : Nat} (h : ivOk a m) (hx : Iv a m x) (hy : Iv a m y) : x = y := by
  refine Cr.inv_unique ?_ hx.1 hy.1 hx.2 hy.2
  rw [← h.2, ← Nat.gcd_rec, Nat.gcd_comm]
end Go.Proofs.YtkgecgkjmikihaaDoor
