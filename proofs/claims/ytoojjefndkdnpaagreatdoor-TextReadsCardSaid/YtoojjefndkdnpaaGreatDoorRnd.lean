/-
  The program's roundings: rounded, roundedSize.
-/
import Derived.Test.YtoojjefndkdnpaaGreatDoorMnp
import Derived.Test.YtoojjefndkdnpaaGreatDoorRdm
namespace Go.Proofs.YtoojjefndkdnpaaGreatDoor
open Flo Go.RowKit
theorem and_mod (n h d : Nat) (hn : n < 18446744073709551616) (hd : d < 63) (hh : h = 2 ^ d) : bits .and .u64 (n : Int) (2 * (h : Int) - 1) = ((n % 2 ^ (d + 1) : Nat) : Int) := by
  have hp : 0 < 2 ^ d := Nat.pow_pos (by decide)
  have hp2 : 2 ^ d ≤ 2 ^ 62 := Nat.pow_le_pow_right (by decide) (by omega)
  have e : 2 * (h : Int) - 1 = ((2 ^ (d + 1) - 1 : Nat) : Int) := by
    rw [hh, Nat.pow_succ]; omega
  rw [e, bits_and_u64_nat _ _ hn (by rw [Nat.pow_succ]; omega), Nat.and_two_pow_sub_one_eq_mod]
set_option maxRecDepth 100000 in
set_option maxHeartbeats 400000 in
theorem rounded_c (n d : Nat) (w : World) (hn : n < 18446744073709551616) (hd : d < 63) :
    Calls Tryz.prog 101 #[.int .u64 n, .int .i64 ((d : Int) + 1)] w fun e w' => e = .returned (.int .u64 (Rd.rnd n (d + 1) : Nat)) ∧ w = w' := by
  obtain ⟨h, hh⟩ : ∃ h : Nat, h = 2 ^ d := ⟨_, rfl⟩
  have hp2 : 2 ^ d ≤ 2 ^ 62 := Nat.pow_le_pow_right (by decide) (by omega)
  have hh63 : h ≤ 4611686018427387904 := by rw [hh]; exact hp2
  have hh0 : 0 < h := by rw [hh]; exact Nat.pow_pos (by decide)
  have f1 : IntKind.u64.wrap (2 ^ d) = (h : Int) := by
    rw [hh, show (2 : Int) ^ d = ((2 ^ d : Nat) : Int) by simp]
    exact wrapId _ (by omega)
  have f3 := and_mod n h d hn hd hh
  have f4 : (n : Int) / 2 ^ (d + 1) = ((n / 2 ^ (d + 1) : Nat) : Int) := by simp
  have hrd : Hid (Rd.rnd n (d + 1) = n / 2 ^ (d + 1) + if h < n % 2 ^ (d + 1) ∨ (n % 2 ^ (d + 1) = h ∧ n / 2 ^ (d + 1) % 2 = 1) then 1 else 0) := by
    show _ = _
    unfold Rd.rnd
    rw [Nat.add_sub_cancel, ← hh]
  have hq2 : n / 2 ^ (d + 1) < 9223372036854775808 := by
    rw [Nat.div_lt_iff_lt_mul (Nat.pow_pos (by decide)), Nat.pow_succ]
    have := Nat.pow_pos (n := d) (show 0 < 2 by decide)
    omega
  generalize n % 2 ^ (d + 1) = r at f3 hrd
  generalize n / 2 ^ (d + 1) = q at f4 hrd hq2
  have hrH : Hid (h = 2 ^ d) := hh
  clear hh hp2
  by_cases c1 : h < r
  · have c1' : (h : Int) < (r : Int) := by omega
    go_enter Tryz.func101, Tryz.ntmps101
    go_wp2
    go_ret
    refine ⟨ret_int ?_, rfl⟩
    rw [hrd.out, if_pos (.inl c1)]
    omega
  · have c1' : decide ((h : Int) < (r : Int)) = false := decide_eq_false (by omega)
    by_cases c2 : r = h
    · have c2' : ((r : Int) == (h : Int)) = true := beq_iff_eq.2 (by omega)
      have c2H : Hid (r = h) := c2
      clear c2
      by_cases c3 : q % 2 = 1
      · have c3' : ((q : Int) % 2 == 1) = true := beq_iff_eq.2 (by omega)
        go_enter Tryz.func101, Tryz.ntmps101
        go_wp2
        go_ret
        refine ⟨ret_int ?_, rfl⟩
        rw [hrd.out, if_pos (.inr ⟨c2H.out, c3⟩)]
        omega
      · have c3' : ((q : Int) % 2 == 1) = false := beq_eq_false_iff_ne.2 (by omega)
        go_enter Tryz.func101, Tryz.ntmps101
        go_wp2
        go_ret
        refine ⟨ret_int ?_, rfl⟩
        rw [hrd.out, if_neg (by have := c2H.out; rintro (h9 | h9) <;> omega)]
        omega
    · have c2' : ((r : Int) == (h : Int)) = false := beq_eq_false_iff_ne.2 (by omega)
      go_enter Tryz.func101, Tryz.ntmps101
      go_wp2
      go_ret
      refine ⟨ret_int ?_, rfl⟩
      rw [hrd.out, if_neg (by rintro (h9 | h9) <;> omega)]
      omega
set_option maxRecDepth 100000 in
set_option maxHeartbeats 400000 in
theorem roundedSize_c (q l drop E : Nat) (p : Int) (w : World) (hq : Hid (q < 2 ^ 56)) (hl : Hid (l = bitLen q)) (hl1 : 55 ≤ l) (hl2 : l ≤ 56) (hp1 : -1137 ≤ p) (hp2 : p ≤ 1200) (hdrop : (drop : Int) = max ((l : Int) - 53) (-1074 - p)) (hE : (E : Int) = p + drop + 1074) :
    Calls Tryz.prog 78 #[.int .u64 q, .int .i64 p] w fun e w' => e = .returned (.int .u64 ((E * 2 ^ 52 + Rd.rnd q drop : Nat) : Int)) ∧ w = w' := by
  have hq0 : Hid (q < 18446744073709551616) := Nat.lt_of_lt_of_le hq.out (by decide)
  have hlen : Hid (Calls Tryz.prog 54 #[.int .u64 q] w fun e w' => e = .returned (.int .i64 (l : Nat)) ∧ w = w') := by
    have := len64_c (q : Int) w (by omega) (by have := hq0.out; omega)
    rw [Int.toNat_natCast, ← hl.out] at this
    exact this
  have hm : Rd.rnd q drop ≤ 2 ^ 54 := by
    refine Nat.le_trans (Rd.rnd_le _ _) ?_
    have h1 : q / 2 ^ drop ≤ q / 2 ^ 2 := Nat.div_le_div_left (Nat.pow_le_pow_right (by decide) (by omega)) (by decide)
    have := hq.out
    omega
  obtain ⟨d, hd⟩ : ∃ d : Nat, drop = d + 1 := ⟨drop - 1, by omega⟩
  subst hd
  have hrd : Hid (Calls Tryz.prog 101 #[.int .u64 q, .int .i64 ((d : Int) + 1)] w fun e w' => e = .returned (.int .u64 (Rd.rnd q (d + 1) : Nat)) ∧ w = w') := rounded_c q d w hq0.out (by omega)
  generalize Rd.rnd q (d + 1) = m at hm hrd
  have hEl : E ≤ 2400 := by omega
  have hEI : p + ((d : Int) + 1) + 1074 = (E : Int) := by omega
  by_cases hc : (l : Int) - 53 < -1074 - p
  · have e1 : -1074 - p = (d : Int) + 1 := by omega
    go_enter Tryz.func78, Tryz.ntmps78
    go_wp2_with fail
    refine hlen.out.mono ?_
    rintro e w' ⟨rfl, rfl⟩
    go_wp2_with fail
    refine hrd.out.mono ?_
    rintro e w' ⟨rfl, rfl⟩
    go_wp2
    go_ret
    refine ⟨ret_int ?_, rfl⟩
    rw [show (2 : Nat) ^ 52 = 4503599627370496 from rfl] at *
    have hmm : m ≤ 18014398509481984 := hm
    first | omega | (simp only [IntKind.wrap_u64]; omega)
  · have e1 : (l : Int) - 53 = (d : Int) + 1 := by omega
    have hc' : ¬ ((d : Int) + 1 < -1074 - p) := by omega
    go_enter Tryz.func78, Tryz.ntmps78
    go_wp2_with fail
    refine hlen.out.mono ?_
    rintro e w' ⟨rfl, rfl⟩
    go_wp2_with fail
    refine hrd.out.mono ?_
    rintro e w' ⟨rfl, rfl⟩
    go_wp2
    go_ret
    refine ⟨ret_int ?_, rfl⟩
    rw [show (2 : Nat) ^ 52 = 4503599627370496 from rfl] at *
    have hmm : m ≤ 18014398509481984 := hm
    first | omega | (simp only [IntKind.wrap_u64]; omega)
end Go.Proofs.YtoojjefndkdnpaaGreatDoor
