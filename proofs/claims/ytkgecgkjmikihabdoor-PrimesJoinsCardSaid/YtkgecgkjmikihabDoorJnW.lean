/-
  The walk of the statement PrimesJoins, out of the contracts of package primes.
-/
import Derived.Test.YtkgecgkjmikihabDoorLy5
namespace Go.Proofs.YtkgecgkjmikihabDoor
open Flo Go.RowKit Go.Lib

set_option maxHeartbeats 1000000 in
theorem coprime_c (a b : Nat) (w : World) (ha : a < 18446744073709551616) (hb : b < 18446744073709551616) :
    Calls Tryd.prog 14 #[.int .u64 a, .int .u64 b] w fun e w' => e = .returned (.bool (((Nat.gcd a b : Nat) : Int) == 1)) ∧ ∃ k, w' = w.drewN k := by
  go_enter Tryd.func14, Tryd.ntmps14
  go_wp2
  go_loopw [0, 1] (fun x y wx => ∃ p q k : Nat, p < 18446744073709551616 ∧ q < 18446744073709551616 ∧ x = .int .u64 p ∧ y = .int .u64 q ∧ wx = w.drewN k ∧ Hid (Nat.gcd p q = Nat.gcd a b)) (fun _ y _ => (intOf y).toNat)
  case atStart => exact ⟨a, b, 0, ha, hb, rfl, rfl, rfl, rfl⟩
  case round =>
    obtain ⟨p, q, k, hp, hq, rfl, rfl, rfl, hg⟩ := hrel
    by_cases h0 : q = 0
    · subst h0
      have hr : Hid (p = Nat.gcd a b) := by have := hg.out; rwa [Nat.gcd_zero_right] at this
      go_wp2
      go_ret
      exact ⟨ret_bool (by rw [hr.out]), k, rfl⟩
    · have c1 : ((q : Int) == 0) = false := beq_eq_false_iff_ne.2 (by omega)
      have c2 : ((q : Int) != 0) = true := by simp [bne, c1]
      obtain ⟨t, ht⟩ : ∃ t : Nat, t = p % q := ⟨_, rfl⟩
      have e1 : (p : Int) % (q : Int) = (t : Int) := by rw [ht]; rfl
      have htq : t < q := by rw [ht]; exact Nat.mod_lt _ (by omega)
      have hg' : Hid (Nat.gcd q t = Nat.gcd a b) := by
        show _ = _
        rw [← hg.out, ht, Nat.gcd_comm q, ← Nat.gcd_rec, Nat.gcd_comm]
      have e1H : Hid ((p : Int) % (q : Int) = (t : Int)) := e1
      clear ht e1
      generalize hwx : w.drewN k = wx at *
      have hw : Hid (w.drewN k = wx) := hwx
      clear hwx
      go_wp2
      go_quiet (fail)
      go_wp2
      rw [e1H.out]
      go_roundw
      case rel => exact ⟨q, t, k + nq, hq, by omega, rfl, rfl, by rw [← hw.out, World.drewN_drewN], hg'⟩
      case measure => simp [intOf]; omega
theorem coprime_q (a b : Nat) (g : Bool) (w : World) (hg : (((Nat.gcd a b : Nat) : Int) == 1) = g) (ha : a < 18446744073709551616) (hb : b < 18446744073709551616) :
    Calls Tryd.prog 14 #[.int .u64 a, .int .u64 b] w fun e w' => e = .returned (.bool g) ∧ ∃ k, w' = w.drewN k := by
  subst hg; exact coprime_c a b w ha hb

theorem jn_swap {a m b n : Nat} (hm : 0 < m) (hn : 0 < n) (h : Nat.gcd m n = 1) : jn b n a m = jn a m b n := by
  obtain ⟨j1, j2, j3⟩ := jn_ok (a := b) (b := a) hn hm (by rw [Nat.gcd_comm]; exact h)
  exact jn_eq hm hn h (by rw [Nat.mul_comm]; exact j1) j3 j2

set_option maxHeartbeats 2000000 in
theorem joins_range (H : P5) (a m b n : Nat) (w : World) (al : List Addr) (he : Errs w al) (ha : a < 18446744073709551616) (hm : m < 18446744073709551616) (hb : b < 18446744073709551616) (hn : n < 18446744073709551616) (h : m = 0 ∨ n = 0 ∨ 18446744073709551616 ≤ m * n) :
    Calls Tryd.prog 4 #[.int .u64 a, .int .u64 m, .int .u64 b, .int .u64 n] w fun e w' => e = .returned (.bool true) ∧ Below w.heap.size w w' := by
  have hi : Hid P5 := H
  have h0 : Hid (Errs w al) := he
  have hR : Hid (m = 0 ∨ n = 0 ∨ 18446744073709551616 ≤ m * n) := h
  have hR' : Hid (n = 0 ∨ m = 0 ∨ 18446744073709551616 ≤ n * m) := (by rw [Nat.mul_comm n m]; omega : n = 0 ∨ m = 0 ∨ 18446744073709551616 ≤ n * m)
  clear H he h
  go_enter Tryd.func4, Tryd.ntmps4
  go_wp2_with (go_at_call 6; refine (fixed_c hi.out _).mono ?_; rintro e w1 ⟨rfl, b1⟩)
  have h1 : Hid (Errs w1 al) := h0.out.below b1
  have B1 : Hid (Below w.heap.size w w1) := b1
  clear b1 h0
  refine (hi.out.joinRange _ _ _ _ _ al h1.out ha hm hb hn hR.out).mono ?_
  rintro e w2 ⟨rfl, b2⟩
  have h2 : Hid (Errs w2 al) := h1.out.below b2
  have B2 : Hid (Below w.heap.size w w2) := B1.out.trans (b2.mono B1.out.size)
  clear b2 h1 B1
  go_wp2_with fail
  refine (hi.out.joinRange _ _ _ _ _ al h2.out hb hn ha hm hR'.out).mono ?_
  rintro e w3 ⟨rfl, b3⟩
  have h3 : Hid (Errs w3 al) := h2.out.below b3
  have B3 : Hid (Below w.heap.size w w3) := B2.out.trans (b3.mono B2.out.size)
  clear b3 h2 B2
  go_wp2_with fail
  refine (num_err al 4 (by decide) _ h3.out).mono ?_
  rintro e w4 ⟨rfl, b4⟩
  have h4 : Hid (Errs w4 al) := h3.out.below b4
  have B4 : Hid (Below w.heap.size w w4) := B3.out.trans (b4.mono B3.out.size)
  clear b4 h3 B3
  go_wp2_with fail
  refine (num_err al 4 (by decide) _ h4.out).mono ?_
  rintro e w5 ⟨rfl, b5⟩
  have h5 : Hid (Errs w5 al) := h4.out.below b5
  have B5 : Hid (Below w.heap.size w w5) := B4.out.trans (b5.mono B4.out.size)
  clear b5 h4 B4
  go_upto_region 8 with (go_at_call 13; refine (mul64_m _ _ _ hm hn).mono ?_; rintro e w6 ⟨rfl, rfl⟩)
  by_cases m0 : m = 0
  · have c1 : ((m : Int) == 0) = true := by rw [m0]; rfl
    clear m0
    go_wp2_with fail
    refine (num_err al 4 (by decide) _ h5.out).mono ?_
    rintro e w6 ⟨rfl, b6⟩
    go_wp2_with fail
    go_ret
    exact ⟨rfl, B5.out.trans (b6.mono B5.out.size)⟩
  · have c1 : ((m : Int) == 0) = false := beq_eq_false_iff_ne.2 (by omega)
    by_cases n0 : n = 0
    · have c2 : ((n : Int) == 0) = true := by rw [n0]; rfl
      clear n0
      go_wp2_with fail
      refine (num_err al 4 (by decide) _ h5.out).mono ?_
      rintro e w6 ⟨rfl, b6⟩
      go_wp2_with fail
      go_ret
      exact ⟨rfl, B5.out.trans (b6.mono B5.out.size)⟩
    · have c2 : ((n : Int) == 0) = false := beq_eq_false_iff_ne.2 (by omega)
      have hp : 0 < mh m n := by
        have := hR.out
        unfold mh
        exact Nat.div_pos (by omega) (by omega)
      have c3 : ((mh m n : Int) == 0) = false := beq_eq_false_iff_ne.2 (by omega)
      have c4 : ((mh m n : Int) != 0) = true := by simp [bne, c3]
      go_wp2_with fail
      refine (num_err al 4 (by decide) _ h5.out).mono ?_
      rintro e w6 ⟨rfl, b6⟩
      go_wp2_with fail
      go_ret
      exact ⟨rfl, B5.out.trans (b6.mono B5.out.size)⟩
set_option maxHeartbeats 2000000 in
theorem joins_root (H : P5) (a m b n : Nat) (w : World) (al : List Addr) (he : Errs w al) (ha : a < 18446744073709551616) (hm : m < 18446744073709551616) (hb : b < 18446744073709551616) (hn : n < 18446744073709551616) (m0 : 0 < m) (n0 : 0 < n) (hmn : m * n < 18446744073709551616) (hg : Nat.gcd m n ≠ 1) :
    Calls Tryd.prog 4 #[.int .u64 a, .int .u64 m, .int .u64 b, .int .u64 n] w fun e w' => e = .returned (.bool true) ∧ Below w.heap.size w w' := by
  have hi : Hid P5 := H
  have h0 : Hid (Errs w al) := he
  have c1 : ((m : Int) == 0) = false := beq_eq_false_iff_ne.2 (by omega)
  have c2 : ((n : Int) == 0) = false := beq_eq_false_iff_ne.2 (by omega)
  have e1 : mh m n = 0 := mh_0 hmn
  have hC : Hid (Nat.gcd n m = Nat.gcd m n) := Nat.gcd_comm n m
  have hMN : Hid (m * n < 18446744073709551616) := hmn
  have hNM : Hid (n * m < 18446744073709551616) := (by rw [Nat.mul_comm]; exact hmn : n * m < 18446744073709551616)
  have hG := (show Hid (Nat.gcd m n ≠ 1) from hg)
  clear H he hmn hg
  go_enter Tryd.func4, Tryd.ntmps4
  go_wp2_with (go_at_call 6; refine (fixed_c hi.out _).mono ?_; rintro e w1 ⟨rfl, b1⟩)
  have h1 : Hid (Errs w1 al) := h0.out.below b1
  have B1 : Hid (Below w.heap.size w w1) := b1
  clear b1 h0
  have gB : Hid ((((Nat.gcd m n : Nat) : Int) == 1) = false) := (beq_eq_false_iff_ne.2 (by have := hG.out; omega) : (((Nat.gcd m n : Nat) : Int) == 1) = false)
  refine (hi.out.joinRoot _ _ _ _ _ al h1.out ha hm hb hn m0 n0 hMN.out hG.out).mono ?_
  rintro e w2 ⟨rfl, b2⟩
  have h2 : Hid (Errs w2 al) := h1.out.below b2
  have B2 : Hid (Below w.heap.size w w2) := B1.out.trans (b2.mono B1.out.size)
  clear b2 h1 B1
  go_wp2_with fail
  refine (hi.out.joinRoot _ _ _ _ _ al h2.out hb hn ha hm n0 m0 hNM.out (by rw [hC.out]; exact hG.out)).mono ?_
  rintro e w3 ⟨rfl, b3⟩
  have h3 : Hid (Errs w3 al) := h2.out.below b3
  have B3 : Hid (Below w.heap.size w w3) := B2.out.trans (b3.mono B2.out.size)
  clear b3 h2 B2
  go_wp2_with fail
  refine (num_err al 10 (by decide) _ h3.out).mono ?_
  rintro e w4 ⟨rfl, b4⟩
  have h4 : Hid (Errs w4 al) := h3.out.below b4
  have B4 : Hid (Below w.heap.size w w4) := B3.out.trans (b4.mono B3.out.size)
  clear b4 h3 B3
  go_wp2_with fail
  refine (num_err al 10 (by decide) _ h4.out).mono ?_
  rintro e w5 ⟨rfl, b5⟩
  have h5 : Hid (Errs w5 al) := h4.out.below b5
  have B5 : Hid (Below w.heap.size w w5) := B4.out.trans (b5.mono B4.out.size)
  clear b5 h4 B4
  have n1 := nil_c al 10
  have n3 := nnil_c al 10
  have n2 := guard_c al 10
  go_wp2_with (go_at_call 13; refine (mul64_m _ _ _ hm hn).mono ?_; rintro e w6 ⟨rfl, rfl⟩; rw [e1])
  go_quiet ((go_at_call 14; exact Calls.quiet_of (coprime_q _ _ false _ gB.out hm hn)))
  have h6 : Hid (Errs (w5.drewN nq) al) := h5.out.drewN nq
  have B6 : Hid (Below w.heap.size w (w5.drewN nq)) := below_drewN B5.out nq
  generalize w5.drewN nq = w6 at h6 B6 ⊢
  clear h5 B5
  go_wp2_with fail
  refine (num_err al 10 (by decide) _ h6.out).mono ?_
  rintro e w7 ⟨rfl, b7⟩
  go_wp2_with fail
  go_ret
  exact ⟨rfl, B6.out.trans (b7.mono B6.out.size)⟩
set_option maxHeartbeats 2000000 in
theorem joins_ok (H : P5) (a m b n : Nat) (w : World) (al : List Addr) (he : Errs w al) (ha : a < 18446744073709551616) (hm : m < 18446744073709551616) (hb : b < 18446744073709551616) (hn : n < 18446744073709551616) (m0 : 0 < m) (n0 : 0 < n) (hmn : m * n < 18446744073709551616) (hg : Nat.gcd m n = 1) :
    Calls Tryd.prog 4 #[.int .u64 a, .int .u64 m, .int .u64 b, .int .u64 n] w fun e w' => e = .returned (.bool true) ∧ Below w.heap.size w w' := by
  have hi : Hid P5 := H
  have h0 : Hid (Errs w al) := he
  have c1 : ((m : Int) == 0) = false := beq_eq_false_iff_ne.2 (by omega)
  have c2 : ((n : Int) == 0) = false := beq_eq_false_iff_ne.2 (by omega)
  have e1 : mh m n = 0 := mh_0 hmn
  have hC : Hid (Nat.gcd n m = Nat.gcd m n) := Nat.gcd_comm n m
  have hMN : Hid (m * n < 18446744073709551616) := hmn
  have hNM : Hid (n * m < 18446744073709551616) := (by rw [Nat.mul_comm]; exact hmn : n * m < 18446744073709551616)
  have hG := (show Hid (Nat.gcd m n = 1) from hg)
  clear H he hmn hg
  go_enter Tryd.func4, Tryd.ntmps4
  go_wp2_with (go_at_call 6; refine (fixed_c hi.out _).mono ?_; rintro e w1 ⟨rfl, b1⟩)
  have h1 : Hid (Errs w1 al) := h0.out.below b1
  have B1 : Hid (Below w.heap.size w w1) := b1
  clear b1 h0
  have gB : Hid ((((Nat.gcd m n : Nat) : Int) == 1) = true) := (beq_iff_eq.2 (by have := hG.out; omega) : (((Nat.gcd m n : Nat) : Int) == 1) = true)
  refine (hi.out.joinOk _ _ _ _ _ ha hm hb hn m0 n0 hMN.out hG.out).mono ?_
  rintro e w2 ⟨rfl, b2⟩
  have B2 : Hid (Below w.heap.size w w2) := B1.out.trans (b2.mono B1.out.size)
  clear b2 h1 B1
  go_wp2_with fail
  refine (hi.out.joinOk _ _ _ _ _ hb hn ha hm n0 m0 hNM.out (by rw [hC.out]; exact hG.out)).mono ?_
  rintro e w3 ⟨rfl, b3⟩
  rw [jn_swap m0 n0 hG.out]
  have B3 : Hid (Below w.heap.size w w3) := B2.out.trans (b3.mono B2.out.size)
  clear b3 B2
  go_wp2_with (go_at_call 9; refine (num_nil _).mono ?_; rintro e w' ⟨rfl, rfl⟩)
  refine (mul64_m _ _ _ hm hn).mono ?_
  rintro e w6 ⟨rfl, rfl⟩
  rw [e1]
  go_wp2_with fail
  go_quiet ((go_at_call 14; exact Calls.quiet_of (coprime_q _ _ true _ gB.out hm hn)))
  have B6 : Hid (Below w.heap.size w (w3.drewN nq)) := below_drewN B3.out nq
  generalize w3.drewN nq = w6 at B6 ⊢
  clear B3
  obtain ⟨j1, j2, j3⟩ := jn_ok (a := a) (b := b) m0 n0 hG.out
  have l1 : ml m n = m * n := Nat.mod_eq_of_lt hMN.out
  rw [← l1] at j1
  have t1 : ((jn a m b n : Nat) : Int) < ((ml m n : Nat) : Int) := by omega
  have t2 : (((jn a m b n : Nat) : Int) % (m : Int) == (a : Int) % (m : Int)) = true := by
    rw [show ((jn a m b n : Nat) : Int) % (m : Int) = ((jn a m b n % m : Nat) : Int) from rfl, j2, show (a : Int) % (m : Int) = ((a % m : Nat) : Int) from rfl]; exact beq_self_eq_true _
  have t3 : (((jn a m b n : Nat) : Int) % (n : Int) == (b : Int) % (n : Int)) = true := by
    rw [show ((jn a m b n : Nat) : Int) % (n : Int) = ((jn a m b n % n : Nat) : Int) from rfl, j3, show (b : Int) % (n : Int) = ((b % n : Nat) : Int) from rfl]; exact beq_self_eq_true _
  clear j1 j2 j3 l1
  go_wp2_with fail
  go_quiet (fail)
  go_wp2_with fail
  go_ret
  exact ⟨rfl, below_drewN B6.out nq⟩
theorem joins_w (H : P5) (a m b n : Nat) (w : World) (al : List Addr) (he : Errs w al) (ha : a < 18446744073709551616) (hm : m < 18446744073709551616) (hb : b < 18446744073709551616) (hn : n < 18446744073709551616) :
    Calls Tryd.prog 4 #[.int .u64 a, .int .u64 m, .int .u64 b, .int .u64 n] w fun e w' => e = .returned (.bool true) ∧ Below w.heap.size w w' := by
  by_cases h : m = 0 ∨ n = 0 ∨ 18446744073709551616 ≤ m * n
  · exact joins_range H a m b n w al he ha hm hb hn h
  · by_cases hg : Nat.gcd m n = 1
    · exact joins_ok H a m b n w al he ha hm hb hn (by omega) (by omega) (by omega) hg
    · exact joins_root H a m b n w al he ha hm hb hn (by omega) (by omega) (by omega) hg
end Go.Proofs.YtkgecgkjmikihabDoor
