/-
  The contract of the document's Join of layer 5.
-/
import Derived.Test.YtkgecgkjmikihaaDoorRf6
namespace Go.Proofs.YtkgecgkjmikihaaDoor
open Flo Go.RowKit Go.Lib

theorem r5Inverse_i (a : Int) (x m : Nat) (w : World) (hx : a = (x : Int)) (ha : x < 18446744073709551616) (hm : m < 18446744073709551616) (h : ivOk x m) :
    Calls Tryd.prog 23 #[.int .u64 a, .int .u64 m] w fun e w' => e = .returned (.tuple #[.int .u64 (ivf x m : Nat), .int .i64 0]) ∧ ∃ k, w' = w.drewN k := by
  subst hx; exact r5Inverse_f x m w ha hm h
theorem r5less_i (a b : Int) (x y m : Nat) (w : World) (hx : a = (x : Int)) (hy : b = (y : Int)) (ha : x < m) (hb : y < m) (hm : m < 18446744073709551616) :
    Calls Tryd.prog 44 #[.int .u64 a, .int .u64 b, .int .u64 m] w fun e w' => e = .returned (.int .u64 (Cr.ls x y m : Nat)) ∧ w' = w := by
  subst hx hy; exact (r5less_c x y m w ha hb hm).mono fun _ _ h => ⟨h.1, h.2.symm⟩

set_option maxHeartbeats 1000000 in
theorem r5Join_0 (a m b n : Nat) (w : World) (hm : m < 18446744073709551616) (hn : n < 18446744073709551616) (h : m = 0 ∨ n = 0 ∨ 18446744073709551616 ≤ m * n) :
    Calls Tryd.prog 25 #[.int .u64 a, .int .u64 m, .int .u64 b, .int .u64 n] w fun e w' => e = .returned (.tuple #[.int .u64 0, .int .i64 5]) ∧ w = w' := by
  by_cases h1 : m = 0
  · subst h1; clear h
    go_enter Tryd.func25, Tryd.ntmps25
    go_wp2
    go_ret2
    exact ⟨rfl, rfl⟩
  · have c1 : ((m : Int) == 0) = false := beq_eq_false_iff_ne.2 (by omega)
    by_cases h2 : n = 0
    · subst h2; clear h
      go_enter Tryd.func25, Tryd.ntmps25
      go_wp2
      go_ret2
      exact ⟨rfl, rfl⟩
    · have c2 : ((n : Int) == 0) = false := beq_eq_false_iff_ne.2 (by omega)
      have h3 : 0 < mh m n := by
        unfold mh
        exact Nat.div_pos (by omega) (by omega)
      have c3 : ((mh m n : Int) == 0) = false := beq_eq_false_iff_ne.2 (by omega)
      have c4 : ((mh m n : Int) != 0) = true := by simp [bne, c3]
      clear h
      go_enter Tryd.func25, Tryd.ntmps25
      go_wp2_with (go_at_call 32; refine (mul64_m _ _ _ hm hn).mono ?_; rintro e w' ⟨rfl, rfl⟩)
      go_ret2
      exact ⟨rfl, rfl⟩
theorem mh_0 {m n : Nat} (h : m * n < 18446744073709551616) : mh m n = 0 := Nat.div_eq_of_lt h
set_option maxHeartbeats 1000000 in
theorem r5Join_1 (a m b n : Nat) (w : World) (hm : 0 < m) (hn : 0 < n) (h : m * n < 18446744073709551616) (hm2 : m < 18446744073709551616) (hn2 : n < 18446744073709551616) (hg : Nat.gcd m n ≠ 1) :
    Calls Tryd.prog 25 #[.int .u64 a, .int .u64 m, .int .u64 b, .int .u64 n] w fun e w' => e = .returned (.tuple #[.int .u64 0, .int .i64 11]) ∧ w = w' := by
  have c1 : ((m : Int) == 0) = false := beq_eq_false_iff_ne.2 (by omega)
  have c2 : ((n : Int) == 0) = false := beq_eq_false_iff_ne.2 (by omega)
  have e1 := mh_0 h
  obtain ⟨g, hgg⟩ : ∃ g : Nat, g = Nat.gcd m n := ⟨_, rfl⟩
  rw [← hgg] at hg
  have c3 : ((g : Int) == 1) = false := beq_eq_false_iff_ne.2 (by omega)
  have c4 : ((g : Int) != 1) = true := by simp [bne, c3]
  clear h hg
  go_enter Tryd.func25, Tryd.ntmps25
  go_wp2_with (first | (go_at_call 32; refine (mul64_m _ _ _ hm2 hn2).mono ?_; rintro e w' ⟨rfl, rfl⟩; rw [e1]) | (go_at_call 40; refine (r5gcd_c _ _ _ hm2 hn2).mono ?_; rintro e w' ⟨rfl, rfl⟩; rw [← hgg]))
  go_ret2
  exact ⟨rfl, rfl⟩
set_option maxHeartbeats 1000000 in
theorem r5Join_2 (a m b n : Nat) (w : World) (ha2 : a < 18446744073709551616) (hb2 : b < 18446744073709551616) (hm : 0 < m) (hn : 0 < n) (h : m * n < 18446744073709551616) (hm2 : m < 18446744073709551616) (hn2 : n < 18446744073709551616) (hg : Nat.gcd m n = 1) :
    Calls Tryd.prog 25 #[.int .u64 a, .int .u64 m, .int .u64 b, .int .u64 n] w fun e w' => e = .returned (.tuple #[.int .u64 (jn a m b n : Nat), .int .i64 0]) ∧ ∃ k, w' = w.drewN k := by
  have c1 : ((m : Int) == 0) = false := beq_eq_false_iff_ne.2 (by omega)
  have c2 : ((n : Int) == 0) = false := beq_eq_false_iff_ne.2 (by omega)
  have e1 := mh_0 h
  have hok : ivOk (m % n) n := ⟨by omega, by rw [Nat.mod_mod, ← Nat.gcd_rec, Nat.gcd_comm]; exact hg⟩
  have lm : Hid (m % n < 18446744073709551616) := Nat.lt_trans (Nat.mod_lt m hn) hn2
  have lb : Hid (b % n < n) := Nat.mod_lt b hn
  have la : Hid (a % m % n < n) := Nat.mod_lt (a % m) hn
  have hgh : Hid (1 = Nat.gcd m n) := hg.symm
  have ll := Cr.ls_lt (b := a % m % n) lb.out
  obtain ⟨d, hd⟩ : ∃ d : Nat, d = Cr.ls (b % n) (a % m % n) n := ⟨_, rfl⟩
  rw [← hd] at ll
  have ld : Hid (d < 18446744073709551616) := Nat.lt_trans ll hn2
  have hiv := (Iv_ex (a := m % n) hn hok.2).1
  have li : Hid (ivf (m % n) n < 18446744073709551616) := Nat.lt_trans hiv hn2
  have hd' : Hid (d = Cr.ls (b % n) (a % m % n) n) := hd
  have hlt : Hid (jn a m b n < 18446744073709551616) := Nat.lt_trans (jn_ok hm hn hg).1 h
  have hjn : Hid (jn a m b n = a % m + m * mm d (ivf (m % n) n) n) := (by unfold jn; rw [← hd] : jn a m b n = a % m + m * mm d (ivf (m % n) n) n)
  have hH : Hid (m * n < 18446744073709551616) := h
  clear h hg hd ll hiv
  go_enter Tryd.func25, Tryd.ntmps25
  go_wp2_with (first | (go_at_call 32; refine (mul64_m _ _ _ hm2 hn2).mono ?_; rintro e w' ⟨rfl, rfl⟩; rw [e1]) | (go_at_call 40; refine (r5gcd_c _ _ _ hm2 hn2).mono ?_; rintro e w' ⟨rfl, rfl⟩; rw [← hgh.out]) | (go_at_call 23; refine (r5Inverse_i _ (m % n) _ _ rfl lm.out hn2 hok).mono ?_; rintro e w' ⟨rfl, k1, rfl⟩))
  generalize hw1 : w.drewN k1 = w1
  have hw : Hid (w.drewN k1 = w1) := hw1
  clear hw1
  go_quiet (first | (go_at_call 44; exact Calls.quiet_of_same (r5less_i _ _ (b % n) (a % m % n) _ _ rfl rfl lb.out la.out hn2)) | (go_at_call 27; exact Calls.quiet_of (r5Mul_c _ _ _ _ (hd'.out ▸ ld.out) li.out hn2)))
  go_wp2
  go_ret2
  refine ⟨ret_two ?_ rfl, k1 + nq, by rw [← hw.out, World.drewN_drewN]⟩
  have hj := hjn.out
  have hl := hlt.out
  rw [hd'.out] at hj
  generalize mm (Cr.ls (b % n) (a % m % n) n) (ivf (m % n) n) n = K at hj ⊢
  rw [castMul, wrapId _ (by omega), show (a : Int) % (m : Int) = ((a % m : Nat) : Int) from rfl, castAdd, wrapId _ (by omega), hj]
/-- what Join answers -/
def jnR (a m b n : Nat) : Nat × Nat := if m = 0 ∨ n = 0 ∨ 18446744073709551616 ≤ m * n then (0, 5) else if Nat.gcd m n ≠ 1 then (0, 11) else (jn a m b n, 0)
theorem r5Join_c (a m b n : Nat) (w : World) (ha : a < 18446744073709551616) (hm : m < 18446744073709551616) (hb : b < 18446744073709551616) (hn : n < 18446744073709551616) :
    Calls Tryd.prog 25 #[.int .u64 a, .int .u64 m, .int .u64 b, .int .u64 n] w fun e w' => e = .returned (.tuple #[.int .u64 ((jnR a m b n).1 : Nat), .int .i64 ((jnR a m b n).2 : Nat)]) ∧ ∃ k, w' = w.drewN k := by
  unfold jnR
  by_cases h : m = 0 ∨ n = 0 ∨ 18446744073709551616 ≤ m * n
  · rw [if_pos h]
    exact (r5Join_0 a m b n w hm hn h).mono fun e w' ⟨h1, h2⟩ => ⟨h1, 0, h2.symm⟩
  · rw [if_neg h]
    by_cases hg : Nat.gcd m n ≠ 1
    · rw [if_pos hg]
      exact (r5Join_1 a m b n w (by omega) (by omega) (by omega) hm hn hg).mono fun e w' ⟨h1, h2⟩ => ⟨h1, 0, h2.symm⟩
    · rw [if_neg hg]
      exact r5Join_2 a m b n w ha hb (by omega) (by omega) (by omega) hm hn (Classical.not_not.1 hg)
end Go.Proofs.YtkgecgkjmikihaaDoor
