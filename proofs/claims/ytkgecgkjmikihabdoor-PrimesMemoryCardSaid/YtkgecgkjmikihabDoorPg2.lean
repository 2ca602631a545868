/-
  Contracts of package primes: Inverse, Join.
-/
import Derived.Test.YtkgecgkjmikihabDoorPg1
namespace Go.Proofs.YtkgecgkjmikihabDoor
open Flo Go.RowKit Go.Lib

/-- what Euclid's way of the program keeps, whether there is an inverse or not -/
def Eug (a m p q s t : Nat) : Prop := q < p ∧ p ≤ m ∧ s < m ∧ t < m ∧ Nat.gcd p q = Nat.gcd (a % m) m ∧ (Nat.gcd (a % m) m = 1 → Euc a m p q s t)
theorem eug_start {a m : Nat} (hm : 2 ≤ m) : Eug a m m (a % m) 0 1 := by
  refine ⟨Nat.mod_lt _ (by omega), Nat.le_refl _, by omega, by omega, Nat.gcd_comm _ _, fun h => ?_⟩
  have := euc_start (a := a) (show 0 < m by omega) h
  rwa [Nat.mod_eq_of_lt (show 1 < m by omega)] at this
theorem eug_step {a m p q s t : Nat} (h : Eug a m p q s t) (hq : 0 < q) : Eug a m q (p % q) t (Cr.ls s (mm (p / q) t m) m) := by
  obtain ⟨h1, h2, h3, h4, h5, h6⟩ := h
  refine ⟨Nat.mod_lt _ hq, by omega, h4, Cr.ls_lt h3, ?_, fun h => euc_step (h6 h) hq⟩
  rw [← h5, Nat.gcd_comm q, ← Nat.gcd_rec, Nat.gcd_comm]
theorem eug_end {a m p s t : Nat} (h : Eug a m p 0 s t) : p = Nat.gcd (a % m) m := by
  have := h.2.2.2.2.1; rwa [Nat.gcd_zero_right] at this
theorem ivf_one (a : Nat) : ivf a 1 = 0 := ivf_of (a := a) (m := 1) ⟨by decide, by rw [Nat.mod_one]; rfl⟩ ⟨by decide, by rw [Nat.mod_one]⟩
set_option maxHeartbeats 1000000 in
theorem pInverse_0 (a : Nat) (w : World) (al : List Addr) (he : ErR w al) :
    Calls Tryd.prog 20 #[.int .u64 a, .int .u64 0] w fun e w' => e = .returned (.tuple #[.int .u64 0, ek al 10]) ∧ ∃ k, w' = w.drewN k := by
  have hv : w.cell? ⟨0, 0, none⟩ = some (ek al 10) := he
  clear he
  go_enter Tryd.func20, Tryd.ntmps20
  go_wp2
  go_quiet (fail)
  go_wp2
  go_ret2
  exact ⟨rfl, _, rfl⟩
set_option maxHeartbeats 1000000 in
theorem pInverse_1 (a : Nat) (w : World) :
    Calls Tryd.prog 20 #[.int .u64 a, .int .u64 1] w fun e w' => e = .returned (.tuple #[.int .u64 0, .nilIface]) ∧ ∃ k, w' = w.drewN k := by
  go_enter Tryd.func20, Tryd.ntmps20
  go_wp2
  go_loopw [6, 7, 8, 9, 10] (fun r0 s0 r1 s1 _ wx => r0 = .int .u64 1 ∧ r1 = .int .u64 0 ∧ s0 = .int .u64 0 ∧ wx = w) (fun _ _ _ _ _ _ => 0)
  case atStart => exact ⟨rfl, rfl, rfl, rfl⟩
  case round =>
    obtain ⟨rfl, rfl, rfl, rfl⟩ := hrel
    go_wp2
    go_ret2
    exact ⟨rfl, 0, rfl⟩
set_option maxHeartbeats 1000000 in
theorem pInverse_ok (a m : Nat) (w : World) (hG : Hid (Nat.gcd (a % m) m = 1)) (ha : a < 18446744073709551616) (hm : m < 18446744073709551616) (h2 : 2 ≤ m) :
    Calls Tryd.prog 20 #[.int .u64 a, .int .u64 m] w fun e w' => (∃ x : Nat, Iv a m x ∧ e = .returned (.tuple #[.int .u64 x, .nilIface])) ∧ ∃ k, w' = w.drewN k := by
  have m0 : 0 < m := by omega
  have c1 : ((m : Int) == 0) = false := beq_eq_false_iff_ne.2 (by omega)
  have hst : Hid (Eug a m m (a % m) 0 1) := eug_start h2
  clear h2
  go_enter Tryd.func20, Tryd.ntmps20
  go_wp2
  go_loopw [6, 7, 8, 9, 10] (fun r0 s0 r1 s1 _ wx => ∃ p q s t k : Nat, Hid (Eug a m p q s t) ∧ r0 = .int .u64 p ∧ r1 = .int .u64 q ∧ s0 = .int .u64 s ∧ s1 = .int .u64 t ∧ wx = w.drewN k) (fun _ _ r1 _ _ _ => (intOf r1).toNat)
  case atStart => exact ⟨m, a % m, 0, 1, 0, hst, rfl, rfl, rfl, rfl, rfl⟩
  case round =>
    obtain ⟨p, q, s, t, k, he, rfl, rfl, rfl, rfl, rfl⟩ := hrel
    have b1 := he.out.1
    have b2 := he.out.2.1
    have b3 := he.out.2.2.1
    have b4 := he.out.2.2.2.1
    have lt : t < 18446744073709551616 := by omega
    by_cases hq : q = 0
    · subst hq
      have hp : p = 1 := (eug_end he.out).trans hG.out
      subst hp
      have hf : Hid (Iv a m s) := euc_end (he.out.2.2.2.2.2 hG.out)
      clear b1 b2 b3 b4 he
      go_wp2
      go_ret2
      exact ⟨⟨s, hf.out, rfl⟩, k, rfl⟩
    · have c2 : ((q : Int) == 0) = false := beq_eq_false_iff_ne.2 (by omega)
      have c3 : ((q : Int) != 0) = true := by simp [bne, c2]
      have hs : Hid (Eug a m q (p % q) t (Cr.ls s (mm (p / q) t m) m)) := eug_step he.out (by omega)
      have lz : mm (p / q) t m < m := by rw [mm_pos m0]; exact Nat.mod_lt _ m0
      obtain ⟨d, hd⟩ : ∃ d : Nat, d = p / q := ⟨_, rfl⟩
      have e2 : IntKind.u64.wrap ((p : Int) / (q : Int)) = (d : Int) := by rw [wrap_div q (by omega), hd]
      have ld : d < 18446744073709551616 := by rw [hd]; exact Nat.lt_of_le_of_lt (Nat.div_le_self _ _) (by omega)
      obtain ⟨r, hr⟩ : ∃ r : Nat, r = p % q := ⟨_, rfl⟩
      have e3 : IntKind.u64.wrap ((p : Int) - IntKind.u64.wrap ((d : Int) * (q : Int))) = (r : Int) := by
        have hh := Nat.div_add_mod p q
        have h1 : d * q + r = p := by rw [hd, hr, Nat.mul_comm]; exact hh
        rw [castMul, wrapId _ (by omega), IntKind.wrap_u64]; omega
      rw [← hd, ← hr] at hs
      rw [← hd] at lz
      have rq : r < q := by rw [hr]; exact Nat.mod_lt _ (by omega)
      clear hd hr he
      go_wp2_with (first | (go_at_call 26; refine (pMul_c _ _ _ _ ld lt hm).mono ?_; rintro e w' ⟨rfl, k1, rfl⟩) | (go_at_call 27; refine (pless_c _ _ _ _ b3 lz hm).mono ?_; rintro e w' ⟨rfl, rfl⟩))
      go_roundw
      case rel => exact ⟨q, r, t, Cr.ls s (mm d t m) m, _, hs, rfl, rfl, rfl, rfl, rfl⟩
      case measure => simp [intOf]; omega
set_option maxHeartbeats 1000000 in
theorem pInverse_no (a m : Nat) (w : World) (al : List Addr) (hE : ErR w al) (hG : Hid (Nat.gcd (a % m) m ≠ 1)) (ha : a < 18446744073709551616) (hm : m < 18446744073709551616) (h2 : 2 ≤ m) :
    Calls Tryd.prog 20 #[.int .u64 a, .int .u64 m] w fun e w' => e = .returned (.tuple #[.int .u64 0, ek al 10]) ∧ ∃ k, w' = w.drewN k := by
  have hv0 : Hid (w.cell? ⟨0, 0, none⟩ = some (ek al 10)) := hE
  clear hE
  have m0 : 0 < m := by omega
  have c1 : ((m : Int) == 0) = false := beq_eq_false_iff_ne.2 (by omega)
  have hst : Hid (Eug a m m (a % m) 0 1) := eug_start h2
  clear h2
  go_enter Tryd.func20, Tryd.ntmps20
  go_wp2
  go_loopw [6, 7, 8, 9, 10] (fun r0 s0 r1 s1 _ wx => ∃ p q s t k : Nat, Hid (Eug a m p q s t) ∧ r0 = .int .u64 p ∧ r1 = .int .u64 q ∧ s0 = .int .u64 s ∧ s1 = .int .u64 t ∧ wx = w.drewN k) (fun _ _ r1 _ _ _ => (intOf r1).toNat)
  case atStart => exact ⟨m, a % m, 0, 1, 0, hst, rfl, rfl, rfl, rfl, rfl⟩
  case round =>
    obtain ⟨p, q, s, t, k, he, rfl, rfl, rfl, rfl, rfl⟩ := hrel
    have b1 := he.out.1
    have b2 := he.out.2.1
    have b3 := he.out.2.2.1
    have b4 := he.out.2.2.2.1
    have lt : t < 18446744073709551616 := by omega
    by_cases hq : q = 0
    · subst hq
      have hp : p ≠ 1 := fun c => hG.out ((eug_end he.out).symm.trans c)
      have c2 : ((p : Int) == 1) = false := beq_eq_false_iff_ne.2 (by omega)
      have c3 : ((p : Int) != 1) = true := by simp [bne, c2]
      have hv : (w.drewN k).cell? ⟨0, 0, none⟩ = some (ek al 10) := hv0.out
      clear b1 b2 b3 b4 he hv0
      generalize hw1 : w.drewN k = w1 at hv ⊢
      have hw : Hid (w.drewN k = w1) := hw1
      clear hw1
      go_wp2
      go_quiet (fail)
      go_wp2
      go_ret2
      exact ⟨rfl, k + nq, by rw [← hw.out, World.drewN_drewN]⟩
    · have c2 : ((q : Int) == 0) = false := beq_eq_false_iff_ne.2 (by omega)
      have c3 : ((q : Int) != 0) = true := by simp [bne, c2]
      have hs : Hid (Eug a m q (p % q) t (Cr.ls s (mm (p / q) t m) m)) := eug_step he.out (by omega)
      have lz : mm (p / q) t m < m := by rw [mm_pos m0]; exact Nat.mod_lt _ m0
      obtain ⟨d, hd⟩ : ∃ d : Nat, d = p / q := ⟨_, rfl⟩
      have e2 : IntKind.u64.wrap ((p : Int) / (q : Int)) = (d : Int) := by rw [wrap_div q (by omega), hd]
      have ld : d < 18446744073709551616 := by rw [hd]; exact Nat.lt_of_le_of_lt (Nat.div_le_self _ _) (by omega)
      obtain ⟨r, hr⟩ : ∃ r : Nat, r = p % q := ⟨_, rfl⟩
      have e3 : IntKind.u64.wrap ((p : Int) - IntKind.u64.wrap ((d : Int) * (q : Int))) = (r : Int) := by
        have hh := Nat.div_add_mod p q
        have h1 : d * q + r = p := by rw [hd, hr, Nat.mul_comm]; exact hh
        rw [castMul, wrapId _ (by omega), IntKind.wrap_u64]; omega
      rw [← hd, ← hr] at hs
      rw [← hd] at lz
      have rq : r < q := by rw [hr]; exact Nat.mod_lt _ (by omega)
      clear hd hr he
      go_wp2_with (first | (go_at_call 26; refine (pMul_c _ _ _ _ ld lt hm).mono ?_; rintro e w' ⟨rfl, k1, rfl⟩) | (go_at_call 27; refine (pless_c _ _ _ _ b3 lz hm).mono ?_; rintro e w' ⟨rfl, rfl⟩))
      go_roundw
      case rel => exact ⟨q, r, t, Cr.ls s (mm d t m) m, _, hs, rfl, rfl, rfl, rfl, rfl⟩
      case measure => simp [intOf]; omega
theorem pInv_ok (a m : Nat) (w : World) (ha : a < 18446744073709551616) (hm : m < 18446744073709551616) (h : ivOk a m) :
    Calls Tryd.prog 20 #[.int .u64 a, .int .u64 m] w fun e w' => e = .returned (.tuple #[.int .u64 (ivf a m : Nat), .nilIface]) ∧ ∃ k, w' = w.drewN k := by
  by_cases h1 : m = 1
  · subst h1
    rw [ivf_one]; exact pInverse_1 a w
  · refine (pInverse_ok a m w h.2 ha hm (by have := h.1; omega)).mono ?_
    rintro e w' ⟨⟨x, hx, rfl⟩, hk⟩
    exact ⟨by rw [ivf_of h hx], hk⟩
theorem pInv_no (a m : Nat) (w : World) (al : List Addr) (he : ErR w al) (ha : a < 18446744073709551616) (hm : m < 18446744073709551616) (h : ¬ ivOk a m) :
    Calls Tryd.prog 20 #[.int .u64 a, .int .u64 m] w fun e w' => e = .returned (.tuple #[.int .u64 0, ek al 10]) ∧ ∃ k, w' = w.drewN k := by
  by_cases h0 : m = 0
  · subst h0; exact pInverse_0 a w al he
  · have hg : Nat.gcd (a % m) m ≠ 1 := fun c => h ⟨h0, c⟩
    have h1 : m ≠ 1 := fun c => by subst c; exact hg (Nat.gcd_one_right _)
    exact pInverse_no a m w al he hg ha hm (by omega)
end Go.Proofs.YtkgecgkjmikihabDoor
