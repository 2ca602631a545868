/-
  Contracts of the document's answers of layer 5: Inverse, Join.
-/
import Derived.Test.YtkgecgkjmikihaaDoorRf5
namespace Go.Proofs.YtkgecgkjmikihaaDoor
open Flo Go.RowKit Go.Lib

theorem r5gcd_i (a b : Int) (w : World) (ha0 : 0 ≤ a) (ha : a < 18446744073709551616) (hb0 : 0 ≤ b) (hb : b < 18446744073709551616) :
    Calls Tryd.prog 40 #[.int .u64 a, .int .u64 b] w fun e w' => e = .returned (.int .u64 (Nat.gcd a.toNat b.toNat : Nat)) ∧ w = w' := by
  obtain ⟨p, rfl⟩ := Int.eq_ofNat_of_zero_le ha0
  obtain ⟨q, rfl⟩ := Int.eq_ofNat_of_zero_le hb0
  rw [Int.toNat_natCast, Int.toNat_natCast]
  exact r5gcd_c p q w (by omega) (by omega)

set_option maxHeartbeats 1000000 in
theorem r5Inverse_no (a m : Nat) (w : World) (ha : a < 18446744073709551616) (hm : m < 18446744073709551616) (h : ¬ ivOk a m) :
    Calls Tryd.prog 23 #[.int .u64 a, .int .u64 m] w fun e w' => e = .returned (.tuple #[.int .u64 0, .int .i64 11]) ∧ w = w' := by
  by_cases h0 : m = 0
  · subst h0
    clear h
    go_enter Tryd.func23, Tryd.ntmps23
    go_wp2
    go_ret2
    exact ⟨rfl, rfl⟩
  · have c1 : ((m : Int) == 0) = false := beq_eq_false_iff_ne.2 (by omega)
    have a0 : Hid (0 ≤ (a : Int) % (m : Int)) := Int.emod_nonneg (a : Int) (show (m : Int) ≠ 0 by omega)
    have a1 : Hid ((a : Int) % (m : Int) < 18446744073709551616) := (by have := Int.emod_lt_of_pos (a : Int) (show 0 < (m : Int) by omega); omega : (a : Int) % (m : Int) < 18446744073709551616)
    have hg : Nat.gcd (a % m) m ≠ 1 := fun hc => h ⟨h0, hc⟩
    obtain ⟨g, hgg⟩ : ∃ g : Nat, g = Nat.gcd (a % m) m := ⟨_, rfl⟩
    have c2 : ((g : Int) == 1) = false := beq_eq_false_iff_ne.2 (by omega)
    have c3 : ((g : Int) != 1) = true := by simp [bne, c2]
    have e1 : Hid (((a : Int) % (m : Int)).toNat = a % m) := (rfl : ((a : Int) % (m : Int)).toNat = a % m)
    have hgh : Hid (g = Nat.gcd (a % m) m) := hgg
    clear hgg
    clear h hg
    go_enter Tryd.func23, Tryd.ntmps23
    go_wp2_with (go_at_call 40; refine (r5gcd_i _ _ _ a0.out a1.out (by omega) (by omega)).mono ?_; rintro e w' ⟨rfl, rfl⟩; rw [e1.out, Int.toNat_natCast, ← hgh.out])
    go_ret2
    exact ⟨rfl, rfl⟩

/-- what Euclid's way with its factors keeps -/
def Euc (a m p q s t : Nat) : Prop := q < p ∧ p ≤ m ∧ s < m ∧ t < m ∧ Nat.gcd p q = 1 ∧ (m : Int) ∣ (s : Int) * (a : Int) - (p : Int) ∧ (m : Int) ∣ (t : Int) * (a : Int) - (q : Int)
theorem euc_start {a m : Nat} (hm : 0 < m) (h : Nat.gcd (a % m) m = 1) : Euc a m m (a % m) 0 (1 % m) := by
  refine ⟨Nat.mod_lt _ hm, Nat.le_refl _, hm, Nat.mod_lt _ hm, by rw [Nat.gcd_comm]; exact h, ?_, ?_⟩
  · rw [Int.natCast_zero, Int.zero_mul, Int.zero_sub]; exact Int.dvd_neg.2 (Int.dvd_refl _)
  · rw [← Int.natCast_mul, Cr.dvd_iff_mod, Nat.mod_mul_mod, Nat.one_mul, Nat.mod_mod]
theorem euc_step {a m p q s t : Nat} (h : Euc a m p q s t) (hq : 0 < q) : Euc a m q (p % q) t (Cr.ls s (mm (p / q) t m) m) := by
  obtain ⟨h1, h2, h3, h4, h5, h6, h7⟩ := h
  have m0 : 0 < m := by omega
  have hz : mm (p / q) t m = p / q * t % m := mm_pos m0
  have hzl : p / q * t % m < m := Nat.mod_lt _ m0
  rw [hz]
  refine ⟨Nat.mod_lt _ hq, by omega, h4, Cr.ls_lt h3, ?_, h7, ?_⟩
  · rw [Nat.gcd_comm q, ← Nat.gcd_rec, Nat.gcd_comm]; exact h5
  · obtain ⟨t1, ht1⟩ := Cr.ls_eq (a := s) hzl
    have hd := Nat.div_add_mod (p / q * t) m
    have hd' : ((p / q * t : Nat) : Int) = (m : Int) * ((p / q * t / m : Nat) : Int) + ((p / q * t % m : Nat) : Int) := by
      rw [← Int.natCast_mul, ← Int.natCast_add, hd]
    refine Cr.step (q := ((p / q : Nat) : Int)) (t := t1 + ((p / q * t / m : Nat) : Int)) h6 h7 ?_ ?_
    · have := Nat.div_add_mod p q
      rw [← Int.natCast_mul, ← Int.natCast_add]
      congr 1
      rw [Nat.mul_comm]; exact this.symm
    · rw [← Int.natCast_mul, hd', Int.add_mul, Int.mul_comm (m : Int)]
      omega
theorem euc_end {a m p s t : Nat} (h : Euc a m p 0 s t) : Iv a m s := by
  obtain ⟨h1, h2, h3, h4, h5, h6, h7⟩ := h
  rw [Nat.gcd_zero_right] at h5
  subst h5
  refine ⟨h3, ?_⟩
  rw [← Cr.dvd_iff_mod, Int.natCast_mul, Int.mul_comm]
  exact h6
set_option maxHeartbeats 1000000 in
theorem r5Inverse_ok (a m : Nat) (w : World) (ha : a < 18446744073709551616) (hm : m < 18446744073709551616) (h : ivOk a m) :
    Calls Tryd.prog 23 #[.int .u64 a, .int .u64 m] w fun e w' => ∃ x : Nat, Iv a m x ∧ e = .returned (.tuple #[.int .u64 x, .int .i64 0]) ∧ ∃ k, w' = w.drewN k := by
  obtain ⟨h0, hg1⟩ := h
  have m0 : 0 < m := by omega
  have c1 : ((m : Int) == 0) = false := beq_eq_false_iff_ne.2 (by omega)
  have a0 : Hid (0 ≤ (a : Int) % (m : Int)) := Int.emod_nonneg (a : Int) (show (m : Int) ≠ 0 by omega)
  have a1 : Hid ((a : Int) % (m : Int) < 18446744073709551616) := (by have := Int.emod_lt_of_pos (a : Int) (show 0 < (m : Int) by omega); omega : (a : Int) % (m : Int) < 18446744073709551616)
  obtain ⟨g, hgg⟩ : ∃ g : Nat, g = Nat.gcd (a % m) m := ⟨_, rfl⟩
  have g1 : g = 1 := by omega
  subst g1
  have e1 : Hid (((a : Int) % (m : Int)).toNat = a % m) := (rfl : ((a : Int) % (m : Int)).toNat = a % m)
  have hgh : Hid (1 = Nat.gcd (a % m) m) := hgg
  clear hgg
  have hG : Hid (Nat.gcd (a % m) m = 1) := hg1
  clear hg1
  go_enter Tryd.func23, Tryd.ntmps23
  go_wp2_with (go_at_call 40; refine (r5gcd_i _ _ _ a0.out a1.out (by omega) (by omega)).mono ?_; rintro e w' ⟨rfl, rfl⟩; rw [e1.out, Int.toNat_natCast, ← hgh.out])
  go_quiet (fail)
  go_wp2
  go_quiet (fail)
  go_wp2
  go_loopw [6, 7, 8, 9, 10, 11, 12] (fun r0 r1 s0 s1 _ _ _ wx => ∃ p q s t k : Nat, Hid (Euc a m p q s t) ∧ r0 = .int .u64 p ∧ r1 = .int .u64 q ∧ s0 = .int .u64 s ∧ s1 = .int .u64 t ∧ wx = w.drewN k) (fun _ r1 _ _ _ _ _ _ => (intOf r1).toNat)
  case atStart => exact ⟨m, a % m, 0, 1 % m, _, euc_start m0 hG.out, rfl, rfl, rfl, rfl, by rw [World.drewN_drewN]⟩
  case round =>
    obtain ⟨p, q, s, t, k, he, rfl, rfl, rfl, rfl, rfl⟩ := hrel
    have b1 := he.out.1
    have b2 := he.out.2.1
    have b3 := he.out.2.2.1
    have b4 := he.out.2.2.2.1
    have lt : t < 18446744073709551616 := by omega
    by_cases hq : q = 0
    · subst hq
      have hf : Hid (Iv a m s) := euc_end he.out
      have es : (s : Int) % (m : Int) = (s : Int) := Int.emod_eq_of_lt (by omega) (by omega)
      clear b1 b2 b3 b4 he
      go_wp2
      go_ret2
      exact ⟨s, hf.out, ret_two es rfl, k, rfl⟩
    · have c2 : ((q : Int) == 0) = false := beq_eq_false_iff_ne.2 (by omega)
      have c3 : ((q : Int) != 0) = true := by simp [bne, c2]
      have hs : Hid (Euc a m q (p % q) t (Cr.ls s (mm (p / q) t m) m)) := euc_step he.out (by omega)
      have lz : mm (p / q) t m < m := by rw [mm_pos m0]; exact Nat.mod_lt _ m0
      obtain ⟨d, hd⟩ : ∃ d : Nat, d = p / q := ⟨_, rfl⟩
      have e2 : IntKind.u64.wrap ((p : Int) / (q : Int)) = (d : Int) := by rw [wrap_div q (by omega), hd]
      have ld : d < 18446744073709551616 := by rw [hd]; exact Nat.lt_of_le_of_lt (Nat.div_le_self _ _) (by omega)
      obtain ⟨r, hr⟩ : ∃ r : Nat, r = p % q := ⟨_, rfl⟩
      have e3 : IntKind.u64.wrap ((p : Int) - IntKind.u64.wrap ((d : Int) * (q : Int))) = (r : Int) := by
        have hh := Nat.div_add_mod p q
        have h1 : d * q + r = p := by rw [hd, hr, Nat.mul_comm]; exact hh
        rw [castMul, wrapId _ (by omega), IntKind.wrap_u64]; omega
      rw [← hd, ← hr] at hs
      rw [← hd] at lz
      have rq : r < q := by rw [hr]; exact Nat.mod_lt _ (by omega)
      clear hd hr he
      go_wp2_with (first | (go_at_call 27; refine (r5Mul_c _ _ _ _ ld lt hm).mono ?_; rintro e w' ⟨rfl, k1, rfl⟩) | (go_at_call 44; refine (r5less_c _ _ _ _ b3 lz hm).mono ?_; rintro e w' ⟨rfl, rfl⟩))
      go_roundw
      case rel => exact ⟨q, r, t, Cr.ls s (mm d t m) m, _, hs, rfl, rfl, rfl, rfl, rfl⟩
      case measure => simp [intOf]; omega
/-- that number, looked for -/
def ivf (a m : Nat) : Nat := ((List.range m).find? fun x => a * x % m == 1 % m).getD 0
theorem ivf_of {a m x : Nat} (h : ivOk a m) (hx : Iv a m x) : ivf a m = x := by
  unfold ivf
  cases hf : (List.range m).find? fun x => a * x % m == 1 % m with
  | none =>
    have := List.find?_eq_none.1 hf x (List.mem_range.2 hx.1)
    exact absurd (beq_iff_eq.2 hx.2) this
  | some y =>
    have h1 := List.find?_some hf
    have h2 := List.mem_range.1 (List.mem_of_find?_eq_some hf)
    exact Iv.eq h ⟨h2, beq_iff_eq.1 h1⟩ hx
theorem r5Inverse_f (a m : Nat) (w : World) (ha : a < 18446744073709551616) (hm : m < 18446744073709551616) (h : ivOk a m) :
    Calls Tryd.prog 23 #[.int .u64 a, .int .u64 m] w fun e w' => e = .returned (.tuple #[.int .u64 (ivf a m : Nat), .int .i64 0]) ∧ ∃ k, w' = w.drewN k :=
  (r5Inverse_ok a m w ha hm h).mono fun e w' ⟨x, hx, he, hw⟩ => ⟨by rw [he, ivf_of h hx], hw⟩
theorem Iv_ex {a m : Nat} (hm : 0 < m) (h : Nat.gcd (a % m) m = 1) : Iv a m (ivf a m) := by
  have key : ∀ n p q s t : Nat, q ≤ n → Euc a m p q s t → ∃ x, Iv a m x := by
    intro n
    induction n with
    | zero =>
      intro p q s t hq he
      have : q = 0 := by omega
      subst this
      exact ⟨s, euc_end he⟩
    | succ n ih =>
      intro p q s t hq he
      rcases Nat.eq_zero_or_pos q with h0 | h0
      · subst h0; exact ⟨s, euc_end he⟩
      · exact ih _ _ _ _ (by have := Nat.mod_lt p h0; omega) (euc_step he h0)
  obtain ⟨x, hx⟩ := key _ _ _ _ _ (Nat.le_refl _) (euc_start hm h)
  rw [ivf_of ⟨by omega, h⟩ hx]; exact hx

/-- the number that leaves a modulo m and b modulo n, as the document reckons it -/
def jn (a m b n : Nat) : Nat := a % m + m * mm (Cr.ls (b % n) (a % m % n) n) (ivf (m % n) n) n
theorem jn_ok {a m b n : Nat} (hm : 0 < m) (hn : 0 < n) (h : Nat.gcd m n = 1) : jn a m b n < m * n ∧ jn a m b n % m = a % m ∧ jn a m b n % n = b % n := by
  unfold jn
  rw [mm_pos hn]
  refine Cr.join_ok hm hn ?_
  have hg : Nat.gcd (m % n % n) n = 1 := by rw [Nat.mod_mod, Nat.gcd_comm, Nat.gcd_comm n, ← Nat.gcd_rec, Nat.gcd_comm]; exact h
  have := (Iv_ex hn hg).2
  rwa [Nat.mod_mul_mod] at this
theorem jn_eq {a m b n x : Nat} (hm : 0 < m) (hn : 0 < n) (h : Nat.gcd m n = 1) (h1 : x < m * n) (h2 : x % m = a % m) (h3 : x % n = b % n) : x = jn a m b n := by
  obtain ⟨j1, j2, j3⟩ := jn_ok (a := a) (b := b) hm hn h
  exact Cr.crt_unique h h1 j1 (h2.trans j2.symm) (h3.trans j3.symm)
end Go.Proofs.YtkgecgkjmikihaaDoor
