/-
  The walk of the statement PrimesPowers, out of the contracts of package primes.
-/
import Derived.Test.YtkgecgkjmikihaaDoorLy5
namespace Go.Proofs.YtkgecgkjmikihaaDoor
open Flo Go.RowKit Go.Lib

theorem pw_add {a e f m : Nat} (h : 0 < m) : pw a (e + f) m = mm (pw a e m) (pw a f m) m := by
  rw [pw_pos h, pw_pos h, pw_pos h, mm_pos h, ← Nat.mul_mod, Nat.pow_add]
theorem mulP_e (H : P5) (a x m : Int) (a' x' m' : Nat) (w : World) (ea : a = (a' : Int)) (ex : x = (x' : Int)) (em : m = (m' : Int)) (ha : a' < 18446744073709551616) (hx : x' < 18446744073709551616) (hm : m' < 18446744073709551616) :
    Calls Tryd.prog 26 #[.int .u64 a, .int .u64 x, .int .u64 m] w fun e w' => e = .returned (.int .u64 (mm a' x' m' : Nat)) ∧ ∃ k, w' = w.drewN k := by
  subst ea ex em; exact H.mul a' x' m' w ha hx hm
theorem powP_e (H : P5) (a x m : Int) (a' x' m' : Nat) (w : World) (ea : a = (a' : Int)) (ex : x = (x' : Int)) (em : m = (m' : Int)) (ha : a' < 18446744073709551616) (hx : x' < 18446744073709551616) (hm : m' < 18446744073709551616) :
    Calls Tryd.prog 28 #[.int .u64 a, .int .u64 x, .int .u64 m] w fun e w' => e = .returned (.int .u64 (pw a' x' m' : Nat)) ∧ ∃ k, w' = w.drewN k := by
  subst ea ex em; exact H.pow a' x' m' w ha hx hm
theorem prB_true {p : Int} (h : prB p = true) : ∃ P : Nat, p = (P : Int) ∧ 2 ≤ P ∧ P ≤ 4294967296 ∧ Nt.Pr P := by
  unfold prB at h
  rw [Bool.and_eq_true, decide_eq_true_eq] at h
  exact ⟨p.toNat, by omega, by omega, by omega, isP_iff.1 h.2⟩
theorem fermat_facts {a P : Nat} (hP : Nt.Pr P) (hd : ¬ P ∣ a) :
    ivOk a P ∧ pw a (P - 1) P = 1 ∧ (((ivf a P : Nat) : Int) == ((pw a (P - 2) P : Nat) : Int) % (P : Int)) = true := by
  have h2 := hP.1
  have p0 : 0 < P := by omega
  have hok : ivOk a P := by
    refine ⟨by omega, ?_⟩
    have := hP.coprime hd
    rw [← Nat.gcd_rec]; exact this
  refine ⟨hok, by rw [pw_pos p0]; exact Nt.fermat hP hd, ?_⟩
  have hI : Iv a P (pw a (P - 2) P) := by
    refine ⟨by rw [pw_pos p0]; exact Nat.mod_lt _ p0, ?_⟩
    rw [pw_pos p0, Nat.mul_mod, Nat.mod_mod, ← Nat.mul_mod, Nat.mul_comm, ← Nat.pow_succ, show (P - 2).succ = P - 1 by omega, Nt.fermat hP hd]
    exact (Nat.mod_eq_of_lt (by omega)).symm
  rw [ivf_of hok hI, beq_iff_eq]
  have := hI.1
  rw [show ((pw a (P - 2) P : Nat) : Int) % (P : Int) = ((pw a (P - 2) P % P : Nat) : Int) from rfl, Nat.mod_eq_of_lt this]
set_option maxHeartbeats 2000000 in
theorem powers_0 (H : P5) (a e f : Nat) (p : Int) (w : World) (ha : a < 18446744073709551616) (he : e < 18446744073709551616) :
    Calls Tryd.prog 8 #[.int .u64 a, .int .u64 e, .int .u64 f, .int .u64 (0 : Nat), .int .i64 p] w fun e w' => e = .returned (.bool true) ∧ Below w.heap.size w w' := by
  have hi : Hid P5 := H
  clear H
  go_enter Tryd.func8, Tryd.ntmps8
  go_wp2_with (first
    | (go_at_call 9; refine (fixed_c hi.out _).mono ?_; rintro e w1 ⟨rfl, b1⟩)
    | (go_at_call 26; refine (mulP_e hi.out _ _ _ a e 0 _ rfl rfl rfl ha he (by decide)).mono ?_; rintro e w2 ⟨rfl, k2, rfl⟩; rw [show mm a e 0 = 0 from rfl])
    | (go_at_call 28; refine (powP_e hi.out _ _ _ a e 0 _ rfl rfl rfl ha he (by decide)).mono ?_; rintro e w3 ⟨rfl, k3, rfl⟩; rw [show pw a e 0 = 0 from rfl]))
  go_ret
  exact ⟨rfl, below_drewN b1 _⟩
set_option maxHeartbeats 4000000 in
theorem powers_n (H : P5) (a e f m : Nat) (p : Int) (w : World) (al : List Addr) (hE : ErR w al) (ha : a < 18446744073709551616) (he : e < 18446744073709551616) (hf : f < 18446744073709551616) (hm : m < 18446744073709551616) (m0 : 0 < m) (hp : inI p) :
    Calls Tryd.prog 8 #[.int .u64 a, .int .u64 e, .int .u64 f, .int .u64 m, .int .i64 p] w fun e w' => e = .returned (.bool true) ∧ Below w.heap.size w w' := by
  have hi : Hid P5 := H
  have h0 : Hid (ErR w al) := hE
  clear H hE
  have c1 : ((m : Int) == 0) = false := beq_eq_false_iff_ne.2 (by omega)
  obtain ⟨x, hx⟩ : ∃ x : Nat, x = e / 2 := ⟨_, rfl⟩
  obtain ⟨y, hy⟩ : ∃ y : Nat, y = f / 2 := ⟨_, rfl⟩
  have ex : (e : Int) / 2 = (x : Int) := by omega
  have ey : (f : Int) / 2 = (y : Int) := by omega
  have lx : x < 9223372036854775808 := by omega
  have ly : y < 9223372036854775808 := by omega
  clear hx hy
  go_enter Tryd.func8, Tryd.ntmps8
  go_wp2_with (go_at_call 9; refine (fixed_c hi.out _).mono ?_; rintro e w1 ⟨rfl, b1⟩)
  have h1 : Hid (ErR w1 al) := h0.out.below b1
  have B1 : Hid (Below w.heap.size w w1) := b1
  clear b1 h0
  have a0 : Hid (0 ≤ (a : Int) % (m : Int)) := Int.emod_nonneg (a : Int) (show (m : Int) ≠ 0 by omega)
  have a1 : Hid ((a : Int) % (m : Int) < 18446744073709551616) := (by have := Int.emod_lt_of_pos (a : Int) (show 0 < (m : Int) by omega); omega : (a : Int) % (m : Int) < 18446744073709551616)
  have x0 : Hid (0 ≤ (x : Int) % (m : Int)) := Int.emod_nonneg (x : Int) (show (m : Int) ≠ 0 by omega)
  have x1 : Hid ((x : Int) % (m : Int) < 18446744073709551616) := (by have := Int.emod_lt_of_pos (x : Int) (show 0 < (m : Int) by omega); omega : (x : Int) % (m : Int) < 18446744073709551616)
  have am : Hid (a % m < 18446744073709551616) := Nat.lt_trans (Nat.mod_lt a m0) hm
  have xm : Hid (x % m < 18446744073709551616) := Nat.lt_trans (Nat.mod_lt x m0) hm
  go_quiet ((go_at_call 32; exact Calls.quiet_of_same (mul64_q _ _ _ a0.out a1.out x0.out x1.out)))
  have h2 : Hid (ErR (w1.drewN nq) al) := h1.out.drewN nq
  have B2 : Hid (Below w.heap.size w (w1.drewN nq)) := below_drewN B1.out nq
  clear h1 B1
  generalize w1.drewN nq = w2 at h2 B2 ⊢
  go_wp2
  have l1 : Hid (mh (a % m) (x % m) < 18446744073709551616) := mh_lt am.out xm.out
  have q1 : (((mm a x m : Nat) : Int) != ((dr (mh (a % m) (x % m)) (ml (a % m) (x % m)) m : Nat) : Int)) = false := by
    rw [dr_mul, ← Nat.mul_mod, mm_pos m0]; simp [bne]
  have q2 : (((pw a (x + y) m : Nat) : Int) != ((mm (pw a x m) (pw a y m) m : Nat) : Int)) = false := by rw [pw_add m0]; simp [bne]
  have q3 : (((pw a 1 m : Nat) : Int) != (a : Int) % (m : Int)) = false := by rw [pw_pos m0, Nat.pow_one, show (a : Int) % (m : Int) = ((a % m : Nat) : Int) from rfl]; simp [bne]
  have q4 : (((pw a 0 m : Nat) : Int) != (1 : Int) % (m : Int)) = false := by rw [pw_pos m0, Nat.pow_zero, show (1 : Int) % (m : Int) = ((1 % m : Nat) : Int) from rfl]; simp [bne]
  have w1' : Hid (IntKind.u64.wrap ((x : Int) + (y : Int)) = ((x + y : Nat) : Int)) := (by rw [castAdd]; exact wrapId _ (by omega) : IntKind.u64.wrap ((x : Int) + (y : Int)) = ((x + y : Nat) : Int))
  have w2' : Hid ((x : Int) + (y : Int) = ((x + y : Nat) : Int)) := (by omega : (x : Int) + (y : Int) = ((x + y : Nat) : Int))
  have lpx : Hid (pw a x m < 18446744073709551616) := pw_lt a x hm
  have lpy : Hid (pw a y m < 18446744073709551616) := pw_lt a y hm
  have lx2 : x < 18446744073709551616 := by omega
  have ly2 : y < 18446744073709551616 := by omega
  have lxy : x + y < 18446744073709551616 := by omega
  have lpx' := lpx.out
  have lpy' := lpy.out
  clear lx ly
  go_quiet (first
    | (go_at_call 33; exact Calls.quiet_of (rem64_c _ _ _ _ l1.out (ml_lt _ _) hm m0))
    | (go_at_call 26; exact Calls.quiet_of (hi.out.mul _ _ _ _ (by assumption) (by assumption) hm))
    | (go_at_call 28; exact Calls.quiet_of (hi.out.pow _ _ _ _ (by assumption) (by first | assumption | decide) hm)))
  have h3 : Hid (ErR (w2.drewN nq) al) := h2.out.drewN nq
  have B3 : Hid (Below w.heap.size w (w2.drewN nq)) := below_drewN B2.out nq
  generalize w2.drewN nq = w3 at h3 B3 ⊢
  clear h2 B2 q1 q2 q3 q4 l1 w1' w2' lpx lpy lpx' lpy' lxy lx2 ly2 a0 a1 x0 x1 am xm ex ey
  go_wp2_with fail
  cases hok : ivB a m
  · refine (hi.out.invNo a m _ al h3.out ha hm (fun hh => by rw [ivB_iff.2 hh] at hok; cases hok)).mono ?_
    rintro e w4 ⟨rfl, b4⟩
    have h4 : Hid (ErR w4 al) := h3.out.below b4
    have B4 : Hid (Below w.heap.size w w4) := B3.out.trans (b4.mono B3.out.size)
    clear b4 h3 B3 hok
    have n1 := nil_c al 10
    have n2 := guard_c al 10
    go_wp2_with fail
    go_quiet (fail)
    have h5 : Hid (ErR (w4.drewN nq) al) := h4.out.drewN nq
    have B5 : Hid (Below w.heap.size w (w4.drewN nq)) := below_drewN B4.out nq
    generalize w4.drewN nq = w5 at h5 B5 ⊢
    clear h4 B4 n1 n2
    go_wp2_with fail
    refine (hi.out.prime p _ hp).mono ?_
    rintro e w6 ⟨rfl, b6⟩
    have h6 : Hid (ErR w6 al) := h5.out.below b6
    have B6 : Hid (Below w.heap.size w w6) := B5.out.trans (b6.mono B5.out.size)
    clear b6 h5 B5
    cases hpr : prB p
    · clear hpr
      go_wp2_with fail
      go_ret
      exact ⟨rfl, B6.out⟩
    · obtain ⟨P, rfl, P2, PM, hP⟩ := prB_true hpr
      clear hpr
      by_cases hd : P ∣ a
      · have r1 : ((a : Int) % (P : Int) == 0) = true := beq_iff_eq.2 (by rw [show (a : Int) % (P : Int) = ((a % P : Nat) : Int) from rfl, Nat.mod_eq_zero_of_dvd hd]; rfl)
        clear hd
        go_wp2_with fail
        go_ret
        exact ⟨rfl, B6.out⟩
      · have r1 : ((a : Int) % (P : Int) == 0) = false := beq_eq_false_iff_ne.2 (by
          rw [show (a : Int) % (P : Int) = ((a % P : Nat) : Int) from rfl]
          intro hc
          exact hd (Nat.dvd_of_mod_eq_zero (by omega)))
        obtain ⟨k1, k2, k3⟩ := fermat_facts hP hd
        have hokP : Hid (ivOk a P) := k1
        have hpow : Hid (pw a (P - 1) P = 1) := k2
        have hiv : (((ivf a P : Nat) : Int) == ((pw a (P - 2) P : Nat) : Int) % (P : Int)) = true := k3
        have s1 : Hid ((P : Int) - 1 = ((P - 1 : Nat) : Int)) := (by omega : (P : Int) - 1 = ((P - 1 : Nat) : Int))
        have s2 : Hid ((P : Int) - 2 = ((P - 2 : Nat) : Int)) := (by omega : (P : Int) - 2 = ((P - 2 : Nat) : Int))
        clear hd k1 k2 k3
        go_wp2_with fail
        refine (hi.out.invOk a P _ ha (by omega) hokP.out).mono ?_
        rintro e w7 ⟨rfl, b7⟩
        have B7 : Hid (Below w.heap.size w w7) := B6.out.trans (b7.mono B6.out.size)
        clear b7 B6 h6
        go_wp2_with fail
        refine (powP_e hi.out _ _ _ a (P - 1) P _ rfl s1.out rfl ha (by omega) (by omega)).mono ?_
        rintro e w8 ⟨rfl, k8, rfl⟩
        rw [hpow.out]
        go_wp2_with fail
        refine (powP_e hi.out _ _ _ a (P - 2) P _ rfl s2.out rfl ha (by omega) (by omega)).mono ?_
        rintro e w9 ⟨rfl, k9, rfl⟩
        go_wp2_with fail
        go_ret
        exact ⟨rfl, below_drewN B7.out _⟩
  · refine (hi.out.invOk a m _ ha hm (ivB_iff.1 hok)).mono ?_
    rintro e w4 ⟨rfl, b4⟩
    have h4 : Hid (ErR w4 al) := h3.out.below b4
    have B4 : Hid (Below w.heap.size w w4) := B3.out.trans (b4.mono B3.out.size)
    have hIv := Iv_ex (a := a) m0 (ivB_iff.1 hok).2
    have li := hIv.1
    have g1 : decide ((m : Int) ≤ ((ivf a m : Nat) : Int)) = false := decide_eq_false (by omega)
    have g2 : ¬ m ≤ ivf a m := by omega
    have g3 : (((mm a (ivf a m) m : Nat) : Int) != (1 : Int) % (m : Int)) = false := by
      rw [mm_pos m0, hIv.2, show (1 : Int) % (m : Int) = ((1 % m : Nat) : Int) from rfl]; simp [bne]
    have li2 : Hid (ivf a m < 18446744073709551616) := Nat.lt_trans li hm
    clear b4 h3 B3 hok hIv li
    go_wp2_with fail
    go_quiet ((go_at_call 26; exact Calls.quiet_of (hi.out.mul _ _ _ _ ha li2.out hm)))
    have h5 : Hid (ErR (w4.drewN nq) al) := h4.out.drewN nq
    have B5 : Hid (Below w.heap.size w (w4.drewN nq)) := below_drewN B4.out nq
    generalize w4.drewN nq = w5 at h5 B5 ⊢
    clear h4 B4 g1 g2 g3 li2
    go_wp2_with fail
    refine (hi.out.prime p _ hp).mono ?_
    rintro e w6 ⟨rfl, b6⟩
    have h6 : Hid (ErR w6 al) := h5.out.below b6
    have B6 : Hid (Below w.heap.size w w6) := B5.out.trans (b6.mono B5.out.size)
    clear b6 h5 B5
    cases hpr : prB p
    · clear hpr
      go_wp2_with fail
      go_ret
      exact ⟨rfl, B6.out⟩
    · obtain ⟨P, rfl, P2, PM, hP⟩ := prB_true hpr
      clear hpr
      by_cases hd : P ∣ a
      · have r1 : ((a : Int) % (P : Int) == 0) = true := beq_iff_eq.2 (by rw [show (a : Int) % (P : Int) = ((a % P : Nat) : Int) from rfl, Nat.mod_eq_zero_of_dvd hd]; rfl)
        clear hd
        go_wp2_with fail
        go_ret
        exact ⟨rfl, B6.out⟩
      · have r1 : ((a : Int) % (P : Int) == 0) = false := beq_eq_false_iff_ne.2 (by
          rw [show (a : Int) % (P : Int) = ((a % P : Nat) : Int) from rfl]
          intro hc
          exact hd (Nat.dvd_of_mod_eq_zero (by omega)))
        obtain ⟨k1, k2, k3⟩ := fermat_facts hP hd
        have hokP : Hid (ivOk a P) := k1
        have hpow : Hid (pw a (P - 1) P = 1) := k2
        have hiv : (((ivf a P : Nat) : Int) == ((pw a (P - 2) P : Nat) : Int) % (P : Int)) = true := k3
        have s1 : Hid ((P : Int) - 1 = ((P - 1 : Nat) : Int)) := (by omega : (P : Int) - 1 = ((P - 1 : Nat) : Int))
        have s2 : Hid ((P : Int) - 2 = ((P - 2 : Nat) : Int)) := (by omega : (P : Int) - 2 = ((P - 2 : Nat) : Int))
        clear hd k1 k2 k3
        go_wp2_with fail
        refine (hi.out.invOk a P _ ha (by omega) hokP.out).mono ?_
        rintro e w7 ⟨rfl, b7⟩
        have B7 : Hid (Below w.heap.size w w7) := B6.out.trans (b7.mono B6.out.size)
        clear b7 B6 h6
        go_wp2_with fail
        refine (powP_e hi.out _ _ _ a (P - 1) P _ rfl s1.out rfl ha (by omega) (by omega)).mono ?_
        rintro e w8 ⟨rfl, k8, rfl⟩
        rw [hpow.out]
        go_wp2_with fail
        refine (powP_e hi.out _ _ _ a (P - 2) P _ rfl s2.out rfl ha (by omega) (by omega)).mono ?_
        rintro e w9 ⟨rfl, k9, rfl⟩
        go_wp2_with fail
        go_ret
        exact ⟨rfl, below_drewN B7.out _⟩
theorem powers_w (H : P5) (a e f m : Nat) (p : Int) (w : World) (al : List Addr) (hE : ErR w al) (ha : a < 18446744073709551616) (he : e < 18446744073709551616) (hf : f < 18446744073709551616) (hm : m < 18446744073709551616) (hp : inI p) :
    Calls Tryd.prog 8 #[.int .u64 a, .int .u64 e, .int .u64 f, .int .u64 m, .int .i64 p] w fun e w' => e = .returned (.bool true) ∧ Below w.heap.size w w' := by
  rcases Nat.eq_zero_or_pos m with h | h
  · subst h; exact powers_0 H a e f p w ha he
  · exact powers_n H a e f m p w al hE ha he hf hm h hp
end Go.Proofs.YtkgecgkjmikihaaDoor
