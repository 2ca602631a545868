/-
  timbrenat: Nearest, walked.
-/
import Derived.Test.YtmfnjmgdindlaaaNa9
namespace Go.Proofs.Ytmfnjmgdindlaaa
open Flo Go.RowKit
theorem nres_tup (s : Nat) : ∃ (x : Int) (b : Bool), nres s = .tuple #[.int .u64 x, .bool b] := by
  unfold nres; split
  · exact ⟨_, _, rfl⟩
  · exact ⟨_, _, rfl⟩
set_option maxRecDepth 100000 in
set_option maxHeartbeats 1000000 in
theorem nnear_i (B C n d k l bn bd T : Nat) (ao bo : Option Addr) (cap cbp : Nat) (w : World) (huH : Hid (Nm w B (.slice ao k cap) n)) (hvH : Hid (Nm w C (.slice bo l cbp) d)) (hk : k ≤ 1000) (hk0 : 0 < k) (hl : l ≤ 1000) (hkn : Hid (k = Wd.nw W32 n)) (hld : Hid (l = Wd.nw W32 d)) (hd0 : Hid (0 < d))
    (hbn : Hid (bn = bitLen n)) (hbd : Hid (bd = bitLen d)) (hbnl : bn ≤ 32000) (hbdl : bd ≤ 32000) (hX : (bn : Int) - (bd : Int) - 55 < -1076) (hT : Hid ((T : Int) = 1076)) (hNw : Hid (Wd.nw W32 (n * 2 ^ T) ≤ 10000)) (hDw : Hid (Wd.nw W32 (d * 2 ^ 0) ≤ 10000)) (hDp : Hid (0 < d * 2 ^ 0)) (hq : Hid (n * 2 ^ T / (d * 2 ^ 0) < 72057594037927936)) :
    Calls Try.prog 39 #[.slice ao k cap, .slice bo l cbp] w fun e w' => ∃ s, e = .returned (nres s) ∧ Rd.Near n d s ∧ Below w.heap.size w w' := by
  have hs1 : Hid (Calls Try.prog 51 #[.slice ao k cap] w fun e w'' => e = .returned (.int .i64 (bn : Nat)) ∧ w = w'') := by rw [hbn.out]; exact nsize_c B n _ w huH.out (by have := hkn.out; omega)
  have hs2 : Hid (Calls Try.prog 51 #[.slice bo l cbp] w fun e w'' => e = .returned (.int .i64 (bd : Nat)) ∧ w = w'') := by rw [hbd.out]; exact nsize_c C d _ w hvH.out (by have := hld.out; omega)
  have hk0' : ((k : Int) == 0) = false := beq_eq_false_iff_ne.2 (by omega)
  go_enter Try.func39, Try.ntmps39
  go_wp2_with fail
  refine hs1.out.mono ?_
  rintro e w' ⟨rfl, rfl⟩
  clear hs1
  go_wp2_with fail
  refine hs2.out.mono ?_
  rintro e w' ⟨rfl, rfl⟩
  clear hs2
  go_wp2_with fail
  rw [← hT.out]
  have hTl : T ≤ 1076 := by have := hT.out; omega
  refine (nshift_c B n T _ w huH.out (by have := hkn.out; omega) (by omega)).mono ?_
  rintro e w1 ⟨v1, rfl, hv1, hb1⟩
  have hv1H : Hid (Nm w1 w.heap.size v1 (n * 2 ^ T)) := hv1
  have hb1H : Hid (Below w.heap.size w w1) := hb1
  clear hv1 hb1
  have hsz1 := hb1H.out.size
  go_wp2_with fail
  have hdv : Hid (Calls Try.prog 52 #[v1, (.slice bo l cbp)] w1 fun e w' => ∃ v', e = .returned (.tuple #[.int .u64 (((n * 2 ^ T) / (d * 2 ^ 0) : Nat) : Int), v']) ∧ Nm w' w1.heap.size v' ((n * 2 ^ T) % (d * 2 ^ 0)) ∧ Below w1.heap.size w1 w') :=
    ndiv_c w.heap.size C (n * 2 ^ T) (d * 2 ^ 0) v1 (.slice bo l cbp) w1 hv1H.out (by rw [Nat.pow_zero, Nat.mul_one]; exact hvH.out.under hb1H.out) hNw.out hDw.out hDp.out (Nat.lt_trans hq.out (by decide))
  refine hdv.out.mono ?_
  rintro e w2 ⟨v2, rfl, hv2, hb2⟩
  have hv2H : Hid (Nm w2 w1.heap.size v2 ((n * 2 ^ T) % (d * 2 ^ 0))) := hv2
  have hb2H : Hid (Below w.heap.size w w2) := hb1H.out.trans (hb2.mono hsz1)
  clear hdv hv2 hb2 hv1H hb1H
  obtain ⟨co, cc, hsl⟩ := Row.slice hv2H.out
  subst hsl
  have hmore : Hid (decide (0 < Wd.nw W32 ((n * 2 ^ T) % (d * 2 ^ 0))) = true ↔ (n * 2 ^ T) % (d * 2 ^ 0) ≠ 0) := by
    show _ ↔ _
    rw [decide_eq_true_iff]
    constructor
    · intro h h0; rw [h0, Wd.nw_zero] at h; omega
    · intro h; exact nw_pos' (by omega)
  have hrd : Hid (∀ w, Calls Try.prog 53 #[.int .u64 (((n * 2 ^ T) / (d * 2 ^ 0) : Nat) : Int), .int .i64 (-(T : Int)), .bool (decide (0 < Wd.nw W32 ((n * 2 ^ T) % (d * 2 ^ 0))))] w fun e w' => ∃ s, e = .returned (nres s) ∧ Rd.Near n d s ∧ w = w') :=
    fun w => nround_c w hd0.out (by omega) (by have := hT.out; omega) (by omega) hmore.out hq.out (.inr (by have := hT.out; omega))
  generalize Wd.nw W32 ((n * 2 ^ T) % (d * 2 ^ 0)) = rl at hrd ⊢
  generalize (n * 2 ^ T) / (d * 2 ^ 0) = q at hrd ⊢
  have hlI : decide ((0 : Int) < (rl : Int)) = decide (0 < rl) := by simp
  clear hv2H hmore hq
  go_wp2_with fail
  refine (hrd.out _).mono ?_
  rintro e w' ⟨s, rfl, hs, rfl⟩
  have hsH : Hid (Rd.Near n d s) := hs
  obtain ⟨x, b, hab⟩ := nres_tup s
  have habH : Hid (nres s = .tuple #[.int .u64 x, .bool b]) := hab
  rw [hab]
  clear hrd hs hab
  go_wp2
  go_ret2
  exact ⟨s, by rw [habH.out]; rfl, hsH.out, hb2H.out⟩
set_option maxRecDepth 100000 in
set_option maxHeartbeats 1000000 in
theorem nnear_ii (B C n d k l bn bd T : Nat) (ao bo : Option Addr) (cap cbp : Nat) (w : World) (huH : Hid (Nm w B (.slice ao k cap) n)) (hvH : Hid (Nm w C (.slice bo l cbp) d)) (hk : k ≤ 1000) (hk0 : 0 < k) (hl : l ≤ 1000) (hkn : Hid (k = Wd.nw W32 n)) (hld : Hid (l = Wd.nw W32 d)) (hd0 : Hid (0 < d))
    (hbn : Hid (bn = bitLen n)) (hbd : Hid (bd = bitLen d)) (hX : (bn : Int) - (bd : Int) - 55 = -(T : Int)) (hT : T ≤ 1076) (hT0 : 0 < T) (hNw : Hid (Wd.nw W32 (n * 2 ^ T) ≤ 10000)) (hDw : Hid (Wd.nw W32 (d * 2 ^ 0) ≤ 10000)) (hDp : Hid (0 < d * 2 ^ 0)) (hq : Hid (n * 2 ^ T / (d * 2 ^ 0) < 72057594037927936)) (hq2 : Hid (18014398509481984 ≤ n * 2 ^ T / (d * 2 ^ 0))) :
    Calls Try.prog 39 #[.slice ao k cap, .slice bo l cbp] w fun e w' => ∃ s, e = .returned (nres s) ∧ Rd.Near n d s ∧ Below w.heap.size w w' := by
  have hs1 : Hid (Calls Try.prog 51 #[.slice ao k cap] w fun e w'' => e = .returned (.int .i64 (bn : Nat)) ∧ w = w'') := by rw [hbn.out]; exact nsize_c B n _ w huH.out (by have := hkn.out; omega)
  have hs2 : Hid (Calls Try.prog 51 #[.slice bo l cbp] w fun e w'' => e = .returned (.int .i64 (bd : Nat)) ∧ w = w'') := by rw [hbd.out]; exact nsize_c C d _ w hvH.out (by have := hld.out; omega)
  have hk0' : ((k : Int) == 0) = false := beq_eq_false_iff_ne.2 (by omega)
  go_enter Try.func39, Try.ntmps39
  go_wp2_with fail
  refine hs1.out.mono ?_
  rintro e w' ⟨rfl, rfl⟩
  clear hs1
  go_wp2_with fail
  refine hs2.out.mono ?_
  rintro e w' ⟨rfl, rfl⟩
  clear hs2
  go_wp2_with fail
  refine (nshift_c B n T _ w huH.out (by have := hkn.out; omega) (by omega)).mono ?_
  rintro e w1 ⟨v1, rfl, hv1, hb1⟩
  have hv1H : Hid (Nm w1 w.heap.size v1 (n * 2 ^ T)) := hv1
  have hb1H : Hid (Below w.heap.size w w1) := hb1
  clear hv1 hb1
  have hsz1 := hb1H.out.size
  go_wp2_with fail
  have hdv : Hid (Calls Try.prog 52 #[v1, (.slice bo l cbp)] w1 fun e w' => ∃ v', e = .returned (.tuple #[.int .u64 (((n * 2 ^ T) / (d * 2 ^ 0) : Nat) : Int), v']) ∧ Nm w' w1.heap.size v' ((n * 2 ^ T) % (d * 2 ^ 0)) ∧ Below w1.heap.size w1 w') :=
    ndiv_c w.heap.size C (n * 2 ^ T) (d * 2 ^ 0) v1 (.slice bo l cbp) w1 hv1H.out (by rw [Nat.pow_zero, Nat.mul_one]; exact hvH.out.under hb1H.out) hNw.out hDw.out hDp.out (Nat.lt_trans hq.out (by decide))
  refine hdv.out.mono ?_
  rintro e w2 ⟨v2, rfl, hv2, hb2⟩
  have hv2H : Hid (Nm w2 w1.heap.size v2 ((n * 2 ^ T) % (d * 2 ^ 0))) := hv2
  have hb2H : Hid (Below w.heap.size w w2) := hb1H.out.trans (hb2.mono hsz1)
  clear hdv hv2 hb2 hv1H hb1H
  obtain ⟨co, cc, hsl⟩ := Row.slice hv2H.out
  subst hsl
  have hmore : Hid (decide (0 < Wd.nw W32 ((n * 2 ^ T) % (d * 2 ^ 0))) = true ↔ (n * 2 ^ T) % (d * 2 ^ 0) ≠ 0) := by
    show _ ↔ _
    rw [decide_eq_true_iff]
    constructor
    · intro h h0; rw [h0, Wd.nw_zero] at h; omega
    · intro h; exact nw_pos' (by omega)
  have hrd : Hid (∀ w, Calls Try.prog 53 #[.int .u64 (((n * 2 ^ T) / (d * 2 ^ 0) : Nat) : Int), .int .i64 (-(T : Int)), .bool (decide (0 < Wd.nw W32 ((n * 2 ^ T) % (d * 2 ^ 0))))] w fun e w' => ∃ s, e = .returned (nres s) ∧ Rd.Near n d s ∧ w = w') :=
    fun w => nround_c w hd0.out (by omega) (by omega) (by omega) hmore.out hq.out (.inl hq2.out)
  generalize Wd.nw W32 ((n * 2 ^ T) % (d * 2 ^ 0)) = rl at hrd ⊢
  generalize (n * 2 ^ T) / (d * 2 ^ 0) = q at hrd ⊢
  have hlI : decide ((0 : Int) < (rl : Int)) = decide (0 < rl) := by simp
  clear hv2H hmore hq
  go_wp2_with fail
  refine (hrd.out _).mono ?_
  rintro e w' ⟨s, rfl, hs, rfl⟩
  have hsH : Hid (Rd.Near n d s) := hs
  obtain ⟨x, b, hab⟩ := nres_tup s
  have habH : Hid (nres s = .tuple #[.int .u64 x, .bool b]) := hab
  rw [hab]
  clear hrd hs hab
  go_wp2
  go_ret2
  exact ⟨s, by rw [habH.out]; rfl, hsH.out, hb2H.out⟩
set_option maxRecDepth 100000 in
set_option maxHeartbeats 1000000 in
theorem nnear_iii (B C n d k l bn bd T : Nat) (ao bo : Option Addr) (cap cbp : Nat) (w : World) (huH : Hid (Nm w B (.slice ao k cap) n)) (hvH : Hid (Nm w C (.slice bo l cbp) d)) (hk : k ≤ 1000) (hk0 : 0 < k) (hl : l ≤ 1000) (hkn : Hid (k = Wd.nw W32 n)) (hld : Hid (l = Wd.nw W32 d)) (hd0 : Hid (0 < d))
    (hbn : Hid (bn = bitLen n)) (hbd : Hid (bd = bitLen d)) (hX : (bn : Int) - (bd : Int) - 55 = (T : Int)) (hT : T ≤ 40000) (hNw : Hid (Wd.nw W32 (n * 2 ^ 0) ≤ 10000)) (hDw : Hid (Wd.nw W32 (d * 2 ^ T) ≤ 10000)) (hDp : Hid (0 < d * 2 ^ T)) (hq : Hid (n * 2 ^ 0 / (d * 2 ^ T) < 72057594037927936)) (hq2 : Hid (18014398509481984 ≤ n * 2 ^ 0 / (d * 2 ^ T))) :
    Calls Try.prog 39 #[.slice ao k cap, .slice bo l cbp] w fun e w' => ∃ s, e = .returned (nres s) ∧ Rd.Near n d s ∧ Below w.heap.size w w' := by
  have hs1 : Hid (Calls Try.prog 51 #[.slice ao k cap] w fun e w'' => e = .returned (.int .i64 (bn : Nat)) ∧ w = w'') := by rw [hbn.out]; exact nsize_c B n _ w huH.out (by have := hkn.out; omega)
  have hs2 : Hid (Calls Try.prog 51 #[.slice bo l cbp] w fun e w'' => e = .returned (.int .i64 (bd : Nat)) ∧ w = w'') := by rw [hbd.out]; exact nsize_c C d _ w hvH.out (by have := hld.out; omega)
  have hk0' : ((k : Int) == 0) = false := beq_eq_false_iff_ne.2 (by omega)
  go_enter Try.func39, Try.ntmps39
  go_wp2_with fail
  refine hs1.out.mono ?_
  rintro e w' ⟨rfl, rfl⟩
  clear hs1
  go_wp2_with fail
  refine hs2.out.mono ?_
  rintro e w' ⟨rfl, rfl⟩
  clear hs2
  go_wp2_with fail
  refine (nshift_c C d T _ w hvH.out (by have := hld.out; omega) (by omega)).mono ?_
  rintro e w1 ⟨v1, rfl, hv1, hb1⟩
  have hv1H : Hid (Nm w1 w.heap.size v1 (d * 2 ^ T)) := hv1
  have hb1H : Hid (Below w.heap.size w w1) := hb1
  clear hv1 hb1
  have hsz1 := hb1H.out.size
  go_wp2_with fail
  have hdv : Hid (Calls Try.prog 52 #[(.slice ao k cap), v1] w1 fun e w' => ∃ v', e = .returned (.tuple #[.int .u64 (((n * 2 ^ 0) / (d * 2 ^ T) : Nat) : Int), v']) ∧ Nm w' w1.heap.size v' ((n * 2 ^ 0) % (d * 2 ^ T)) ∧ Below w1.heap.size w1 w') :=
    ndiv_c B w.heap.size (n * 2 ^ 0) (d * 2 ^ T) (.slice ao k cap) v1 w1 (by rw [Nat.pow_zero, Nat.mul_one]; exact huH.out.under hb1H.out) hv1H.out hNw.out hDw.out hDp.out (Nat.lt_trans hq.out (by decide))
  refine hdv.out.mono ?_
  rintro e w2 ⟨v2, rfl, hv2, hb2⟩
  have hv2H : Hid (Nm w2 w1.heap.size v2 ((n * 2 ^ 0) % (d * 2 ^ T))) := hv2
  have hb2H : Hid (Below w.heap.size w w2) := hb1H.out.trans (hb2.mono hsz1)
  clear hdv hv2 hb2 hv1H hb1H
  obtain ⟨co, cc, hsl⟩ := Row.slice hv2H.out
  subst hsl
  have hmore : Hid (decide (0 < Wd.nw W32 ((n * 2 ^ 0) % (d * 2 ^ T))) = true ↔ (n * 2 ^ 0) % (d * 2 ^ T) ≠ 0) := by
    show _ ↔ _
    rw [decide_eq_true_iff]
    constructor
    · intro h h0; rw [h0, Wd.nw_zero] at h; omega
    · intro h; exact nw_pos' (by omega)
  have hrd : Hid (∀ w, Calls Try.prog 53 #[.int .u64 (((n * 2 ^ 0) / (d * 2 ^ T) : Nat) : Int), .int .i64 ((T : Int)), .bool (decide (0 < Wd.nw W32 ((n * 2 ^ 0) % (d * 2 ^ T))))] w fun e w' => ∃ s, e = .returned (nres s) ∧ Rd.Near n d s ∧ w = w') :=
    fun w => nround_c w hd0.out (by omega) (by omega) (by omega) hmore.out hq.out (.inl hq2.out)
  generalize Wd.nw W32 ((n * 2 ^ 0) % (d * 2 ^ T)) = rl at hrd ⊢
  generalize (n * 2 ^ 0) / (d * 2 ^ T) = q at hrd ⊢
  have hlI : decide ((0 : Int) < (rl : Int)) = decide (0 < rl) := by simp
  clear hv2H hmore hq
  go_wp2_with fail
  refine (hrd.out _).mono ?_
  rintro e w' ⟨s, rfl, hs, rfl⟩
  have hsH : Hid (Rd.Near n d s) := hs
  obtain ⟨x, b, hab⟩ := nres_tup s
  have habH : Hid (nres s = .tuple #[.int .u64 x, .bool b]) := hab
  rw [hab]
  clear hrd hs hab
  go_wp2
  go_ret2
  exact ⟨s, by rw [habH.out]; rfl, hsH.out, hb2H.out⟩
theorem nw_shift {n T K : Nat} (h : bitLen n + T ≤ 32 * K) : Wd.nw W32 (n * 2 ^ T) ≤ K := by
  apply nw_bit32
  have h1 := bitLen_hi n
  have h2 : n * 2 ^ T < 2 ^ bitLen n * 2 ^ T := Nat.mul_lt_mul_of_pos_right h1 (Nat.pow_pos (by decide))
  rw [← Nat.pow_add] at h2
  exact Nat.lt_of_lt_of_le h2 (Nat.pow_le_pow_right (by decide) h)
theorem near_q {n d T : Nat} (hd : 0 < d) (h : bitLen n + T < bitLen d + 55) : n * 2 ^ T / (d * 2 ^ 0) < 72057594037927936 := by
  rw [Nat.pow_zero, Nat.mul_one, Nat.div_lt_iff_lt_mul hd]
  have h1 := bitLen_hi n
  have h2 := bitLen_lo hd
  have h3 := bitLen_pos hd
  have h4 : n * 2 ^ T < 2 ^ bitLen n * 2 ^ T := Nat.mul_lt_mul_of_pos_right h1 (Nat.pow_pos (by decide))
  rw [← Nat.pow_add] at h4
  have h5 : 2 ^ (bitLen n + T) ≤ 2 ^ (56 + (bitLen d - 1)) := Nat.pow_le_pow_right (by decide) (by omega)
  rw [Nat.pow_add 2 56] at h5
  have h6 : 2 ^ 56 * 2 ^ (bitLen d - 1) ≤ 2 ^ 56 * d := Nat.mul_le_mul_left _ h2
  show _ < 2 ^ 56 * d
  omega
theorem nnear_c (B C n d : Nat) (u v : Value) (w : World) (hu : Nm w B u n) (hv : Nm w C v d) (hn : 0 < n) (hd : 0 < d) (hk : Wd.nw W32 n ≤ 1000) (hl : Wd.nw W32 d ≤ 1000) :
    Calls Try.prog 39 #[u, v] w fun e w' => ∃ s, e = .returned (nres s) ∧ Rd.Near n d s ∧ Below w.heap.size w w' := by
  obtain ⟨ao, cap, rfl⟩ := Row.slice hu
  obtain ⟨bo, cbp, rfl⟩ := Row.slice hv
  have l1 := bit_nw32 (n := n)
  have l2 := bit_nw32 (n := d)
  have hD : ∀ T, 0 < d * 2 ^ T := fun T => Nat.mul_pos hd (Nat.pow_pos (by decide))
  rcases Int.lt_or_le ((bitLen n : Int) - bitLen d - 55) (-1076) with h | h
  · obtain ⟨T, hT⟩ : ∃ T : Nat, T = 1076 := ⟨_, rfl⟩
    exact nnear_i B C n d _ _ (bitLen n) (bitLen d) T ao bo cap cbp w hu hv hk (nw_pos' hn) hl rfl rfl hd rfl rfl (by omega) (by omega) h (by show (T : Int) = 1076; omega) (nw_shift (by omega)) (nw_shift (by omega)) (hD 0) (near_q hd (by omega))
  · rcases Int.lt_or_le ((bitLen n : Int) - bitLen d - 55) 0 with h2 | h2
    · obtain ⟨T, hT⟩ : ∃ T : Nat, (T : Int) = bitLen d + 55 - bitLen n := ⟨((bitLen d : Int) + 55 - bitLen n).toNat, by omega⟩
      have hq := ns_quot (A := T) (B := 0) hn hd (by omega)
      exact nnear_ii B C n d _ _ (bitLen n) (bitLen d) T ao bo cap cbp w hu hv hk (nw_pos' hn) hl rfl rfl hd rfl rfl (by omega) (by omega) (by omega) (nw_shift (by omega)) (nw_shift (by omega)) (hD 0) hq.2 hq.1
    · obtain ⟨T, hT⟩ : ∃ T : Nat, (T : Int) = (bitLen n : Int) - bitLen d - 55 := ⟨((bitLen n : Int) - bitLen d - 55).toNat, by omega⟩
      have hq := ns_quot (A := 0) (B := T) hn hd (by omega)
      exact nnear_iii B C n d _ _ (bitLen n) (bitLen d) T ao bo cap cbp w hu hv hk (nw_pos' hn) hl rfl rfl hd rfl rfl (by omega) (by omega) (nw_shift (by omega)) (nw_shift (by omega)) (hD T) hq.2 hq.1
end Go.Proofs.Ytmfnjmgdindlaaa
