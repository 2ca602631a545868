/-
  math.Ldexp of 1: a power of two.
-/
import Derived.Test.YtehaokdjdhejlaaDoorTr0
import Derived.Test.YtehaokdjdhejlaaDoorLow
import Derived.Test.YtehaokdjdhejlaaDoorSgn
namespace Go.Proofs.YtehaokdjdhejlaaDoor
open Flo Go.RowKit
theorem abs1_c (w : World) : Calls Tryd.prog 68 #[.float .f64 4607182418800017408] w fun e w' => e = .returned (.float .f64 4607182418800017408) ∧ w = w' := by
  have := abs_c 4607182418800017408 w (by decide)
  have e : sz 4607182418800017408 = 4607182418800017408 := by decide
  rw [e] at this
  exact this
theorem isinf1_c (w : World) : Calls Tryd.prog 58 #[.float .f64 4607182418800017408, .int .i64 0] w fun e w' => e = .returned (.bool false) ∧ w' = w := by
  have o1 : FloatKind.f64.format.order 4607182418800017408 9218868437227405311 = some .lt := by decide +kernel
  go_enter Tryd.func58, Tryd.ntmps58
  go_wp2_with fail
  refine (abs1_c w).mono ?_
  rintro e w1 ⟨rfl, rfl⟩
  go_wp2_with fail
  go_ret
  exact ⟨rfl, rfl⟩
theorem isnan1_c (w : World) : Calls Tryd.prog 59 #[.float .f64 4607182418800017408] w fun e w' => e = .returned (.bool false) ∧ w' = w := by
  have o1 : FloatKind.f64.format.order 4607182418800017408 4607182418800017408 = some .eq := by decide +kernel
  go_enter Tryd.func59, Tryd.ntmps59
  go_wp2
  go_ret
  exact ⟨rfl, rfl⟩
theorem normalize1_c (w : World) : Calls Tryd.prog 60 #[.float .f64 4607182418800017408] w fun e w' => e = .returned (.tuple #[.float .f64 4607182418800017408, .int .i64 0]) ∧ w' = w := by
  have o1 : FloatKind.f64.format.order 4607182418800017408 4503599627370496 = some .gt := by decide +kernel
  go_enter Tryd.func60, Tryd.ntmps60
  go_wp2_with fail
  refine (abs1_c w).mono ?_
  rintro e w1 ⟨rfl, rfl⟩
  go_wp2_with fail
  go_ret2
  exact ⟨rfl, rfl⟩
theorem or0 {x : Nat} (h : x < 18446744073709551616) : bits BinOp.or IntKind.u64 0 (x : Int) = (x : Int) := by
  show IntKind.u64.wrap (((BitVec.ofInt 64 0 ||| BitVec.ofInt 64 (x : Int)).toNat : Nat) : Int) = (x : Int)
  have h0 : BitVec.ofInt 64 0 = 0#64 := by decide
  rw [h0, BitVec.zero_or, BitVec.toNat_ofInt, IntKind.wrap_u64]
  have e : (x : Int) % ((2 ^ 64 : Nat) : Int) = (x : Int) := Int.emod_eq_of_lt (by omega) (by omega)
  rw [e, Int.toNat_natCast]
  omega
theorem mul1_pw {k : Int} (h1 : -64 ≤ k) (h2 : k ≤ 64) : floatBits .mul .f64 4607182418800017408 (Tr.pw k) = some (Tr.pw k) := by
  obtain ⟨p1, p2, p3⟩ := Tr.pw_facts h1 h2
  obtain ⟨q1, q2, q3⟩ := Tr.pw_facts (k := 0) (by decide) (by decide)
  have e0 : Tr.pw 0 = 4607182418800017408 := by decide
  rw [e0] at q1 q2 q3
  show Ieee.double.mul 4607182418800017408 (Tr.pw k) = _
  have hr := Tr.rg_vr p1.2
  have hlt : Tr.pw k < 9223372036854775808 := by unfold Tr.pw; omega
  rw [Nat.mod_eq_of_lt hlt] at hr
  have hvl : Ari.vl (Tr.pw k) = Ari.vr (Tr.pw k) := by unfold Ari.vl; rw [Nat.mod_eq_of_lt hlt]
  rw [Ari.mul_fin q1 p1, q2, p2, q3, Nat.mul_comm, Ari.nearest_scale, hvl]
  rw [show (-2148 : Int) + (((1074 + 0 : Int).toNat : Nat) : Int) = -1074 by decide, Ari.nearest_eq, hr, Nat.min_eq_left (by unfold Tr.pw; omega), Ari.word_eq]
  rfl
set_option maxHeartbeats 1000000 in
theorem ldexp1_c (k : Int) (w : World) (h1 : -64 ≤ k) (h2 : k ≤ 64) : Calls Tryd.prog 47 #[.float .f64 4607182418800017408, .int .i64 k] w fun e w' => e = .returned (.float .f64 (Tr.pw k)) ∧ w' = w := by
  have o1 : FloatKind.f64.format.order 4607182418800017408 0 = some .gt := by decide +kernel
  have hb := run_tobits
  have hf := run_frombits
  have a1 : bits BinOp.and IntKind.i64 1023 2047 = 1023 := by decide +kernel
  have a2 : bits BinOp.andNot IntKind.u64 4607182418800017408 9218868437227405312 = 0 := by decide +kernel
  obtain ⟨E, hE⟩ : ∃ E : Nat, k + 1023 = (E : Int) := ⟨(k + 1023).toNat, by omega⟩
  have hE1 : 959 ≤ E := by omega
  have hE2 : E ≤ 1087 := by omega
  have a3 : bits BinOp.or IntKind.u64 0 ((E : Int) * 4503599627370496) = ((E * 4503599627370496 : Nat) : Int) := by
    have hb0 : (0 : Int) ≤ (E : Int) * 4503599627370496 := by omega
    have hb1 : (E : Int) * 4503599627370496 < 18446744073709551616 := by omega
    have e : (E : Int) * 4503599627370496 = ((E * 4503599627370496 : Nat) : Int) := by rw [Int.natCast_mul]; rfl
    rw [e]
    exact or0 (by omega)
  have hpw : Hid (E * 4503599627370496 = Tr.pw k) := by show _ = _; unfold Tr.pw; congr 1; omega
  have hm : ∀ t w, (binOp .mul t (.float .f64 4607182418800017408) (.float .f64 (E * 4503599627370496))).run Tryd.prog w = .ok (.float .f64 (E * 4503599627370496)) w := fun t w => by
    have := mul1_pw h1 h2
    rw [← hpw.out] at this
    exact run_float_arith w .mul t .f64 _ _ _ this
  have c1 : decide (k < -1075) = false := decide_eq_false (by omega)
  have c2 : decide (k > 1023) = false := decide_eq_false (by omega)
  have c3 : decide (k < -1022) = false := decide_eq_false (by omega)
  go_enter Tryd.func47, Tryd.ntmps47
  go_wp2_with fail
  refine (isinf1_c w).mono ?_
  rintro e w1 ⟨rfl, rfl⟩
  go_wp2_with fail
  refine (isnan1_c _).mono ?_
  rintro e w1 ⟨rfl, rfl⟩
  go_wp2_with fail
  refine (normalize1_c _).mono ?_
  rintro e w1 ⟨rfl, rfl⟩
  go_wp2_with fail
  go_ret
  exact ⟨by rw [hpw.out]; rfl, rfl⟩
theorem Ldexp1_c (k : Int) (w : World) (h1 : -64 ≤ k) (h2 : k ≤ 64) : Calls Tryd.prog 28 #[.float .f64 4607182418800017408, .int .i64 k] w fun e w' => e = .returned (.float .f64 (Tr.pw k)) ∧ w' = w := by
  have hl := ldexp1_c k w h1 h2
  generalize Tr.pw k = p at *
  go_enter Tryd.func28, Tryd.ntmps28
  go_wp2_with fail
  refine hl.mono ?_
  rintro e w1 ⟨rfl, rfl⟩
  go_wp2_with fail
  go_ret
  exact ⟨rfl, rfl⟩
end Go.Proofs.YtehaokdjdhejlaaDoor
