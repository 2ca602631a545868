/-
  Contracts of package primes that take words: gcd, size, Gcd, Mul, Pow, less.
-/
import Derived.Test.YtkgecgkjmikihabDoorLw5
namespace Go.Proofs.YtkgecgkjmikihabDoor
open Flo Go.RowKit Go.Lib

set_option maxHeartbeats 1000000 in
theorem pgcd_c (a b : Nat) (w : World) (ha : a < 18446744073709551616) (hb : b < 18446744073709551616) :
    Calls Tryd.prog 30 #[.int .u64 a, .int .u64 b] w fun e w' => e = .returned (.int .u64 (Nat.gcd a b : Nat)) ∧ ∃ k, w' = w.drewN k := by
  go_enter Tryd.func30, Tryd.ntmps30
  go_wp2
  go_loopw [0, 1] (fun x y wx => ∃ p q k : Nat, p < 18446744073709551616 ∧ q < 18446744073709551616 ∧ x = .int .u64 p ∧ y = .int .u64 q ∧ Hid (Nat.gcd p q = Nat.gcd a b) ∧ wx = w.drewN k) (fun _ y _ => (intOf y).toNat)
  case atStart => exact ⟨a, b, 0, ha, hb, rfl, rfl, rfl, rfl⟩
  case round =>
    obtain ⟨p, q, k, hp, hq, rfl, rfl, hg, rfl⟩ := hrel
    by_cases h0 : q = 0
    · subst h0
      have hr : Hid (p = Nat.gcd a b) := by have := hg.out; rwa [Nat.gcd_zero_right] at this
      go_wp2
      go_ret
      exact ⟨ret_int (by rw [hr.out]), k, rfl⟩
    · have c1 : ((q : Int) == 0) = false := beq_eq_false_iff_ne.2 (by omega)
      have c2 : ((q : Int) != 0) = true := by simp [bne, c1]
      obtain ⟨t, ht⟩ : ∃ t : Nat, t = p % q := ⟨_, rfl⟩
      have e1 : (p : Int) % (q : Int) = (t : Int) := by rw [ht]; rfl
      have htq : t < q := by rw [ht]; exact Nat.mod_lt _ (by omega)
      have hg' : Hid (Nat.gcd q t = Nat.gcd a b) := by
        show _ = _
        rw [← hg.out, ht, Nat.gcd_comm q, ← Nat.gcd_rec, Nat.gcd_comm]
      clear ht
      go_wp2
      go_quiet (fail)
      go_wp2
      go_roundw
      case rel => exact ⟨q, t, k + nq, hq, by omega, rfl, by rw [e1], hg', by rw [World.drewN_drewN]⟩
      case measure => simp [intOf]; omega
set_option maxHeartbeats 1000000 in
theorem psize_c (n : Int) (w : World) (h : inI n) :
    Calls Tryd.prog 31 #[.int .i64 n] w fun e w' => e = .returned (.int .u64 (n.natAbs : Nat)) ∧ w' = w := by
  obtain ⟨lo, hi⟩ := h
  by_cases h0 : n < 0
  · go_enter Tryd.func31, Tryd.ntmps31
    go_wp2
    go_ret
    refine ⟨ret_int ?_, rfl⟩
    simp only [IntKind.wrap_u64]; omega
  · have c1 : decide (n < 0) = false := decide_eq_false h0
    go_enter Tryd.func31, Tryd.ntmps31
    go_wp2
    go_ret
    exact ⟨ret_int (by omega), rfl⟩
set_option maxHeartbeats 1000000 in
theorem pGcd_c (a b : Int) (w : World) (ha : inI a) (hb : inI b) :
    Calls Tryd.prog 21 #[.int .i64 a, .int .i64 b] w fun e w' => e = .returned (.int .i64 (gcI a b)) ∧ ∃ k, w' = w.drewN k := by
  have la : a.natAbs < 18446744073709551616 := by obtain ⟨_, _⟩ := ha; omega
  have lb : b.natAbs < 18446744073709551616 := by obtain ⟨_, _⟩ := hb; omega
  have lg : Hid (Nat.gcd a.natAbs b.natAbs ≤ 18446744073709551615) := (by
    by_cases h : a.natAbs = 0
    · rw [h, Nat.gcd_zero_left]; omega
    · have := Nat.gcd_le_left b.natAbs (show 0 < a.natAbs by omega); omega : Nat.gcd a.natAbs b.natAbs ≤ 18446744073709551615)
  go_enter Tryd.func21, Tryd.ntmps21
  go_wp2_with fail
  refine (psize_c a _ ha).mono ?_
  rintro e w' ⟨rfl, rfl⟩
  go_wp2_with fail
  refine (psize_c b _ hb).mono ?_
  rintro e w' ⟨rfl, rfl⟩
  go_wp2_with fail
  refine (pgcd_c _ _ _ la lb).mono ?_
  rintro e w' ⟨rfl, k, rfl⟩
  go_wp2
  go_ret
  refine ⟨ret_int ?_, _, rfl⟩
  unfold gcI wrap64
  first | rfl | (simp only [IntKind.wrap_i64]; try omega)
set_option maxHeartbeats 1000000 in
theorem pMul_c (a b m : Nat) (w : World) (ha : a < 18446744073709551616) (hb : b < 18446744073709551616) (hm : m < 18446744073709551616) :
    Calls Tryd.prog 26 #[.int .u64 a, .int .u64 b, .int .u64 m] w fun e w' => e = .returned (.int .u64 (mm a b m : Nat)) ∧ ∃ k, w' = w.drewN k := by
  by_cases h0 : m = 0
  · subst h0
    go_enter Tryd.func26, Tryd.ntmps26
    go_wp2
    go_ret
    exact ⟨rfl, 0, rfl⟩
  · have c1 : ((m : Int) == 0) = false := beq_eq_false_iff_ne.2 (by omega)
    have m0 : 0 < m := by omega
    have hr : Hid (dr (mh a b) (ml a b) m = mm a b m) := by
      show _ = _
      rw [dr_mul, mm_pos (by omega)]
    go_enter Tryd.func26, Tryd.ntmps26
    go_wp2_with (first | (go_at_call 13; refine (mul64_m a b _ ha hb).mono ?_; rintro e w' ⟨rfl, rfl⟩) | (go_at_call 32; refine (rem64_c _ _ _ _ (mh_lt ha hb) (ml_lt _ _) hm m0).mono ?_; rintro e w' ⟨rfl, k, rfl⟩))
    all_goals go_ret
    exact ⟨ret_int (by rw [hr.out]), _, rfl⟩
set_option maxHeartbeats 1000000 in
theorem pless_c (a b m : Nat) (w : World) (ha : a < m) (hb : b < m) (hm : m < 18446744073709551616) :
    Calls Tryd.prog 27 #[.int .u64 a, .int .u64 b, .int .u64 m] w fun e w' => e = .returned (.int .u64 (Cr.ls a b m : Nat)) ∧ w = w' := by
  by_cases h : b ≤ a
  · have c1 : decide ((a : Int) < (b : Int)) = false := decide_eq_false (by omega)
    have hr : Hid (a - b = Cr.ls a b m) := by show _ = _; unfold Cr.ls; rw [if_pos h]
    go_enter Tryd.func27, Tryd.ntmps27
    go_wp2
    go_ret
    exact ⟨ret_int (by rw [← hr.out]; omega), rfl⟩
  · have c1 : (a : Int) < (b : Int) := by omega
    have hr : Hid (m - (b - a) = Cr.ls a b m) := by show _ = _; unfold Cr.ls; rw [if_neg h]
    go_enter Tryd.func27, Tryd.ntmps27
    go_wp2
    go_ret
    exact ⟨ret_int (by rw [← hr.out]; omega), rfl⟩

/-- what Pow keeps: what is reckoned so far times the rest of the power -/
def PwI (a x m o b y : Nat) : Prop := o < 18446744073709551616 ∧ b < 18446744073709551616 ∧ (m = 0 → o = 0) ∧ (0 < m → o < m ∧ o * b ^ y % m = a ^ x % m)
theorem PwI.start {a x m : Nat} (ha : a < 18446744073709551616) (hm : m < 18446744073709551616) : PwI a x m (mm 1 1 m) a x := by
  refine ⟨mm_lt _ _ hm, ha, fun h => by subst h; rfl, fun h => ?_⟩
  rw [mm_pos h]
  refine ⟨Nat.mod_lt _ h, ?_⟩
  rw [Nat.mod_mul_mod, Nat.one_mul]
theorem PwI.even {a x m o b y : Nat} (h : PwI a x m o b y) (hm : m < 18446744073709551616) (hy : y % 2 = 0) : PwI a x m o (mm b b m) (y / 2) := by
  obtain ⟨h1, h2, h3, h4⟩ := h
  refine ⟨h1, mm_lt _ _ hm, h3, fun hp => ⟨(h4 hp).1, ?_⟩⟩
  rw [← (h4 hp).2, mm_pos hp, Nat.mul_mod, ← Nat.pow_mod, ← Nat.mul_mod]
  congr 2
  rw [← Nat.pow_two, ← Nat.pow_mul]
  congr 1; omega
theorem PwI.odd {a x m o b y : Nat} (h : PwI a x m o b y) (hm : m < 18446744073709551616) (hy : y % 2 = 1) : PwI a x m (mm o b m) (mm b b m) (y / 2) := by
  obtain ⟨h1, h2, h3, h4⟩ := h
  refine ⟨mm_lt _ _ hm, mm_lt _ _ hm, fun h => by subst h; rfl, fun hp => ⟨?_, ?_⟩⟩
  · rw [mm_pos hp]; exact Nat.mod_lt _ hp
  · rw [← (h4 hp).2, mm_pos hp, mm_pos hp, Nat.mod_mul_mod, Nat.mul_mod, ← Nat.pow_mod, ← Nat.mul_mod, Nat.mul_assoc]
    congr 2
    rw [← Nat.pow_two, ← Nat.pow_mul, ← Nat.pow_succ']
    congr 1; omega
theorem PwI.done {a x m o b : Nat} (h : PwI a x m o b 0) : o = pw a x m := by
  obtain ⟨h1, h2, h3, h4⟩ := h
  by_cases hp : m = 0
  · rw [h3 hp, hp]; rfl
  · have := h4 (by omega)
    rw [Nat.pow_zero, Nat.mul_one, Nat.mod_eq_of_lt this.1] at this
    rw [pw_pos (by omega)]; exact this.2
set_option maxHeartbeats 1000000 in
theorem pPow_c (a x m : Nat) (w : World) (ha : a < 18446744073709551616) (hx : x < 18446744073709551616) (hm : m < 18446744073709551616) :
    Calls Tryd.prog 11 #[.int .u64 a, .int .u64 x, .int .u64 m] w fun e w' => e = .returned (.int .u64 (pw a x m : Nat)) ∧ ∃ k, w' = w.drewN k := by
  have hst : Hid (PwI a x m (mm 1 1 m) a x) := PwI.start ha hm
  go_enter Tryd.func11, Tryd.ntmps11
  go_wp2_with (go_at_call 26; refine (pMul_c 1 1 _ _ (by omega) (by omega) hm).mono ?_; rintro e w' ⟨rfl, k, rfl⟩)
  go_loopw [0, 1, 7] (fun s0 s1 s7 wx => ∃ (b y o q : Nat), Hid (PwI a x m o b y) ∧ y < 18446744073709551616 ∧ s0 = .int .u64 b ∧ s1 = .int .u64 y ∧ s7 = .int .u64 o ∧ wx = w.drewN q) (fun _ s1 _ _ => (intOf s1).toNat)
  case atStart => exact ⟨a, x, _, k, hst, hx, rfl, rfl, rfl, rfl⟩
  case round =>
    obtain ⟨b, y, o, q, hi, hy, rfl, rfl, rfl, rfl⟩ := hrel
    clear hst
    have lb := hi.out.2.1
    have lo := hi.out.1
    by_cases h0 : y = 0
    · subst h0
      have hr : Hid (o = pw a x m) := hi.out.done
      go_wp2
      go_ret
      exact ⟨ret_int (by rw [hr.out]), q, rfl⟩
    · have c1 : (0 : Int) < (y : Int) := by omega
      have eb := low_bit y hy
      by_cases hd : y % 2 = 0
      · rw [hd] at eb
        have eb' : bits .and .u64 (y : Int) 1 = 0 := eb
        have hn : Hid (PwI a x m o (mm b b m) (y / 2)) := hi.out.even hm hd
        clear eb hi hd
        go_wp2_with (go_at_call 26; refine (pMul_c _ _ _ _ (by assumption) (by assumption) hm).mono ?_; rintro e w' ⟨rfl, k1, rfl⟩)
        go_roundw
        case rel => exact ⟨mm b b m, y / 2, o, _, hn, by omega, rfl, by go_num, rfl, rfl⟩
        case measure => simp [intOf]; omega
      · have hd1 : y % 2 = 1 := by omega
        rw [hd1] at eb
        have eb' : bits .and .u64 (y : Int) 1 = 1 := eb
        have hn : Hid (PwI a x m (mm o b m) (mm b b m) (y / 2)) := hi.out.odd hm hd1
        clear eb hi hd hd1
        go_wp2_with (go_at_call 26; refine (pMul_c _ _ _ _ (by assumption) (by assumption) hm).mono ?_; rintro e w' ⟨rfl, k1, rfl⟩)
        go_wp2_with (go_at_call 26; refine (pMul_c _ _ _ _ (by assumption) (by assumption) hm).mono ?_; rintro e w' ⟨rfl, k2, rfl⟩)
        go_roundw
        case rel => exact ⟨mm b b m, y / 2, mm o b m, _, hn, by omega, rfl, by go_num, rfl, rfl⟩
        case measure => simp [intOf]; omega
end Go.Proofs.YtkgecgkjmikihabDoor
