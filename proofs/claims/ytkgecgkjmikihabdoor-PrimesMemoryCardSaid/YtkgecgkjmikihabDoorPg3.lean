/-
  The contract of package primes' Join.
-/
import Derived.Test.YtkgecgkjmikihabDoorPg2
namespace Go.Proofs.YtkgecgkjmikihabDoor
open Flo Go.RowKit Go.Lib

theorem pless_i (a b : Int) (x y m : Nat) (w : World) (hx : a = (x : Int)) (hy : b = (y : Int)) (ha : x < m) (hb : y < m) (hm : m < 18446744073709551616) :
    Calls Tryd.prog 27 #[.int .u64 a, .int .u64 b, .int .u64 m] w fun e w' => e = .returned (.int .u64 (Cr.ls x y m : Nat)) ∧ w' = w := by
  subst hx hy; exact (pless_c x y m w ha hb hm).mono fun _ _ h => ⟨h.1, h.2.symm⟩
theorem ret_tupv {a b : Int} {v : Value} (h : a = b) : Ending.returned (.tuple #[.int .u64 a, v]) = .returned (.tuple #[.int .u64 b, v]) := by rw [h]
theorem ivf_mod (m n : Nat) : ivf (m % n) n = ivf m n := by
  unfold ivf
  have : (fun x => m % n * x % n == 1 % n) = (fun x => m * x % n == 1 % n) := by
    funext x; rw [Nat.mod_mul_mod]
  rw [this]
set_option maxHeartbeats 1000000 in
theorem pJoin_0 (a m b n : Nat) (w : World) (al : List Addr) (he : Errs w al) (hm : m < 18446744073709551616) (hn : n < 18446744073709551616) (h : m = 0 ∨ n = 0 ∨ 18446744073709551616 ≤ m * n) :
    Calls Tryd.prog 12 #[.int .u64 a, .int .u64 m, .int .u64 b, .int .u64 n] w fun e w' => e = .returned (.tuple #[.int .u64 0, ek al 4]) ∧ ∃ k, w' = w.drewN k := by
  have hv := errRange_cell he
  clear he
  by_cases h1 : m = 0
  · subst h1; clear h
    go_enter Tryd.func12, Tryd.ntmps12
    go_wp2
    go_quiet (fail)
    go_wp2
    go_ret2
    exact ⟨rfl, _, rfl⟩
  · have c1 : ((m : Int) == 0) = false := beq_eq_false_iff_ne.2 (by omega)
    by_cases h2 : n = 0
    · subst h2; clear h
      go_enter Tryd.func12, Tryd.ntmps12
      go_wp2
      go_quiet (fail)
      go_wp2
      go_ret2
      exact ⟨rfl, _, rfl⟩
    · have c2 : ((n : Int) == 0) = false := beq_eq_false_iff_ne.2 (by omega)
      have h3 : 0 < mh m n := by
        unfold mh
        exact Nat.div_pos (by omega) (by omega)
      have c3 : ((mh m n : Int) == 0) = false := beq_eq_false_iff_ne.2 (by omega)
      have c4 : ((mh m n : Int) != 0) = true := by simp [bne, c3]
      clear h
      go_enter Tryd.func12, Tryd.ntmps12
      go_wp2_with (go_at_call 13; refine (mul64_m _ _ _ hm hn).mono ?_; rintro e w' ⟨rfl, rfl⟩)
      go_quiet (fail)
      go_wp2
      go_ret2
      exact ⟨rfl, _, rfl⟩
set_option maxHeartbeats 1000000 in
theorem pJoin_1 (a m b n : Nat) (w : World) (al : List Addr) (he : Errs w al) (hm : 0 < m) (hn : 0 < n) (h : m * n < 18446744073709551616) (hm2 : m < 18446744073709551616) (hn2 : n < 18446744073709551616) (hg : Nat.gcd m n ≠ 1) :
    Calls Tryd.prog 12 #[.int .u64 a, .int .u64 m, .int .u64 b, .int .u64 n] w fun e w' => e = .returned (.tuple #[.int .u64 0, ek al 10]) ∧ ∃ k, w' = w.drewN k := by
  have c1 : ((m : Int) == 0) = false := beq_eq_false_iff_ne.2 (by omega)
  have c2 : ((n : Int) == 0) = false := beq_eq_false_iff_ne.2 (by omega)
  have e1 := mh_0 h
  have hno : ¬ ivOk m n := fun c => hg (by have := c.2; rwa [← Nat.gcd_rec, Nat.gcd_comm] at this)
  have heH : Hid (Errs w al) := he
  clear h hg he
  have n1 := nil_c al 10
  have n3 := nnil_c al 10
  have n2 := guard_c al 10
  go_enter Tryd.func12, Tryd.ntmps12
  go_wp2_with (first | (go_at_call 13; refine (mul64_m _ _ _ hm2 hn2).mono ?_; rintro e w' ⟨rfl, rfl⟩; rw [e1]) | (go_at_call 20; refine (pInv_no _ _ _ al heH.out.root hm2 hn2 hno).mono ?_; rintro e w' ⟨rfl, k1, rfl⟩))
  go_ret2
  exact ⟨rfl, _, rfl⟩
set_option maxHeartbeats 1000000 in
theorem pJoin_2 (a m b n : Nat) (w : World) (ha2 : a < 18446744073709551616) (hb2 : b < 18446744073709551616) (hm : 0 < m) (hn : 0 < n) (h : m * n < 18446744073709551616) (hm2 : m < 18446744073709551616) (hn2 : n < 18446744073709551616) (hg : Nat.gcd m n = 1) :
    Calls Tryd.prog 12 #[.int .u64 a, .int .u64 m, .int .u64 b, .int .u64 n] w fun e w' => e = .returned (.tuple #[.int .u64 (jn a m b n : Nat), .nilIface]) ∧ ∃ k, w' = w.drewN k := by
  have c1 : ((m : Int) == 0) = false := beq_eq_false_iff_ne.2 (by omega)
  have c2 : ((n : Int) == 0) = false := beq_eq_false_iff_ne.2 (by omega)
  have e1 := mh_0 h
  have hok : ivOk m n := ⟨by omega, by rw [← Nat.gcd_rec, Nat.gcd_comm]; exact hg⟩
  have lb : Hid (b % n < n) := Nat.mod_lt b hn
  have la : Hid (a % m % n < n) := Nat.mod_lt (a % m) hn
  have ll := Cr.ls_lt (b := a % m % n) lb.out
  obtain ⟨d, hd⟩ : ∃ d : Nat, d = Cr.ls (b % n) (a % m % n) n := ⟨_, rfl⟩
  rw [← hd] at ll
  have ld : Hid (d < 18446744073709551616) := Nat.lt_trans ll hn2
  have hiv := (Iv_ex (a := m) hn hok.2).1
  have li : Hid (ivf m n < 18446744073709551616) := Nat.lt_trans hiv hn2
  have hd' : Hid (d = Cr.ls (b % n) (a % m % n) n) := hd
  have hlt : Hid (jn a m b n < 18446744073709551616) := Nat.lt_trans (jn_ok hm hn hg).1 h
  have hjn : Hid (jn a m b n = a % m + m * mm d (ivf m n) n) := (by unfold jn; rw [← hd, ivf_mod] : jn a m b n = a % m + m * mm d (ivf m n) n)
  have hH : Hid (m * n < 18446744073709551616) := h
  clear h hg hd ll hiv
  go_enter Tryd.func12, Tryd.ntmps12
  go_wp2_with (first | (go_at_call 13; refine (mul64_m _ _ _ hm2 hn2).mono ?_; rintro e w' ⟨rfl, rfl⟩; rw [e1]) | (go_at_call 20; refine (pInv_ok m _ _ hm2 hn2 hok).mono ?_; rintro e w' ⟨rfl, k1, rfl⟩))
  generalize hw1 : w.drewN k1 = w1
  have hw : Hid (w.drewN k1 = w1) := hw1
  clear hw1
  go_quiet (first | (go_at_call 27; exact Calls.quiet_of_same (pless_i _ _ (b % n) (a % m % n) _ _ rfl rfl lb.out la.out hn2)) | (go_at_call 26; exact Calls.quiet_of (pMul_c _ _ _ _ (hd'.out ▸ ld.out) li.out hn2)))
  go_wp2
  go_ret2
  refine ⟨ret_tupv ?_, k1 + nq, by rw [← hw.out, World.drewN_drewN]⟩
  have hj := hjn.out
  have hl := hlt.out
  rw [hd'.out] at hj
  generalize mm (Cr.ls (b % n) (a % m % n) n) (ivf m n) n = K at hj ⊢
  rw [castMul, wrapId _ (by omega), show (a : Int) % (m : Int) = ((a % m : Nat) : Int) from rfl, castAdd, wrapId _ (by omega), hj]
end Go.Proofs.YtkgecgkjmikihabDoor
