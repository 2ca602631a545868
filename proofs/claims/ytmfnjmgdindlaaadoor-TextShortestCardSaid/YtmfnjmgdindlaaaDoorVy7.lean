/-
  The program's apart, tensOfTwos and viewOf.
-/
import Derived.Test.YtmfnjmgdindlaaaDoorVx7
namespace Go.Proofs.YtmfnjmgdindlaaaDoor
open Flo Go.RowKit
theorem tensOfTwos_c (e : Int) (w : World) (h1 : -1100 ≤ e) (h2 : e ≤ 1100) :
    Calls Tryd.prog 42 #[.int .i64 e] w fun r w' => r = .returned (.int .i64 (Rd.tot e)) ∧ w = w' := by
  have b1 : -100000000 ≤ e * 78913 := by omega
  have b2 : e * 78913 ≤ 100000000 := by omega
  go_enter Tryd.func42, Tryd.ntmps42
  go_wp2
  go_ret
  exact ⟨rfl, rfl⟩
set_option maxHeartbeats 1000000 in
theorem apart_lo (s : Nat) (w : World) (h : s < 4503599627370496) :
    Calls Tryd.prog 39 #[.int .u64 s] w fun r w' => r = .returned (.tuple #[.int .u64 s, .int .i64 (-1074)]) ∧ w = w' := by
  have h' : (s : Int) < 4503599627370496 := by omega
  go_enter Tryd.func39, Tryd.ntmps39
  go_wp2
  go_ret2
  exact ⟨rfl, rfl⟩
theorem low_bits {s m : Nat} (h : s < 18446744073709551616) (hm : m = s % 4503599627370496 + 4503599627370496) : bits .or .u64 (bits .and .u64 (s : Int) 4503599627370495) 4503599627370496 = (m : Int) := by
  have e1 : bits .and .u64 (s : Int) 4503599627370495 = ((s % 4503599627370496 : Nat) : Int) := by
    have := u64_and_nat s 4503599627370495 h (by decide)
    refine this.trans ?_
    rw [show (4503599627370495 : Nat) = 2 ^ 52 - 1 from by decide, Nat.and_two_pow_sub_one_eq_mod]
  rw [e1]
  have := u64_or_nat (s % 4503599627370496) 4503599627370496 (by omega) (by decide)
  refine this.trans ?_
  rw [Nat.or_comm, nat_join 52 _ _ (by decide) (by omega)]
  omega
set_option maxHeartbeats 1000000 in
theorem apart_hi (s m k : Nat) (w : World) (h : ¬ s < 4503599627370496) (hs : s < 18446744073709551616) (hm : m = s % 4503599627370496 + 4503599627370496) (hk : s / 4503599627370496 = k) :
    Calls Tryd.prog 39 #[.int .u64 s] w fun r w' => r = .returned (.tuple #[.int .u64 m, .int .i64 ((k : Int) - 1 + -1074)]) ∧ w = w' := by
  have h' : decide ((s : Int) < 4503599627370496) = false := decide_eq_false (by omega)
  have hb := low_bits hs hm
  have hkI : (s : Int) / 4503599627370496 = (k : Int) := by omega
  clear hm hk
  go_enter Tryd.func39, Tryd.ntmps39
  go_wp2
  go_ret2
  exact ⟨rfl, rfl⟩
theorem apart_c (s E m : Nat) (w : World) (hs : s = E * 4503599627370496 + m) (h1 : m < 9007199254740992) (h2 : E = 0 ∨ 4503599627370496 ≤ m) (hE : E ≤ 2045) :
    Calls Tryd.prog 39 #[.int .u64 s] w fun r w' => r = .returned (.tuple #[.int .u64 m, .int .i64 ((E : Int) - 1074)]) ∧ w = w' := by
  by_cases h : s < 4503599627370496
  · obtain rfl : E = 0 := by omega
    obtain rfl : s = m := by omega
    exact apart_lo s w h
  · have := apart_hi s m (E + 1) w h (by omega) (by omega) (by omega)
    rw [show ((E + 1 : Nat) : Int) - 1 + -1074 = (E : Int) - 1074 by omega] at this
    exact this
/-- a size in a unit of which it has 18 digits -/
structure View (E m : Nat) (t : Int) (W : Nat) (X : Bool) (L H : Nat) : Prop where
  wh : 4 * m * Rd.sU ((E : Int) - 1076) t / Rd.sD ((E : Int) - 1076) t = W
  ex : decide (4 * m * Rd.sU ((E : Int) - 1076) t % Rd.sD ((E : Int) - 1076) t = 0) = X
  le : Rd.lea (Rd.bot E m) (Rd.sU ((E : Int) - 1076) t) (Rd.sD ((E : Int) - 1076) t) m = L
  mo : Rd.mos (Rd.top m) (Rd.sU ((E : Int) - 1076) t) (Rd.sD ((E : Int) - 1076) t) m = H
  lo : 100000000000000000 ≤ W
  hi : W < 1000000000000000000
  t1 : -400 ≤ t
  t2 : t ≤ 400
theorem nw_pow {a b K : Nat} (h : 4 * a + b < 64 * K) : Wd.nw W64 (10 ^ a * 2 ^ b) ≤ K := by
  apply nw_bit
  have h1 : 10 ^ a ≤ 2 ^ (4 * a) := by rw [Nat.pow_mul]; exact Nat.pow_le_pow_left (by decide) a
  have h2 : 10 ^ a * 2 ^ b ≤ 2 ^ (4 * a + b) := by rw [Nat.pow_add]; exact Nat.mul_le_mul_right _ h1
  exact Nat.lt_of_le_of_lt h2 (Nat.pow_lt_pow_right (by decide) (by omega))
theorem bit_lo {m : Nat} (h : 0 < m) : 2 ^ (bitLen m - 1) ≤ m ∧ m < 2 ^ bitLen m ∧ 1 ≤ bitLen m := by
  have h1 := bitLen_spec m
  refine ⟨h1.2 (by omega), h1.1, ?_⟩
  rcases Nat.eq_zero_or_pos (bitLen m) with e | e
  · rw [e] at h1; omega
  · exact e
theorem nx_lo {x U D U' D' a : Nat} (hD : 0 < D) (h : U' * (10 * D) = U * D') (hle : a * D ≤ x * U) : a * D' ≤ 10 * (x * U') := by
  apply Nat.le_of_mul_le_mul_right _ hD
  have e1 : 10 * (x * U') * D = x * (U' * (10 * D)) := by ac_rfl
  have e2 : x * (U * D') = x * U * D' := by ac_rfl
  rw [e1, h, e2, Nat.mul_right_comm]
  exact Nat.mul_le_mul_right _ hle
theorem nx_hi {x U D U' D' b : Nat} (hD' : 0 < D') (h : U' * (10 * D) = U * D') (hlt : x * U < b * D) : 10 * (x * U') < b * D' := by
  apply Nat.lt_of_mul_lt_mul_right (a := D)
  have e1 : 10 * (x * U') * D = x * (U' * (10 * D)) := by ac_rfl
  have e2 : x * (U * D') = x * U * D' := by ac_rfl
  rw [e1, h, e2, Nat.mul_right_comm b]
  exact Nat.mul_lt_mul_of_pos_right hlt hD'
theorem viewAt_v (E m : Nat) (p t : Int) (w : World) (h0 : 0 < m) (h1 : m < 9007199254740992) (hE : E ≤ 2045) (ht1 : -400 ≤ t) (ht2 : t ≤ 400) (hp : p = (E : Int) - 1074)
    (hlo : 100000000000000000 * Rd.sD ((E : Int) - 1076) t ≤ 4 * m * Rd.sU ((E : Int) - 1076) t) (hhi : 4 * m * Rd.sU ((E : Int) - 1076) t < 2000000000000000000 * Rd.sD ((E : Int) - 1076) t) :
    Calls Tryd.prog 41 #[.int .u64 m, .int .i64 p, .int .i64 t] w fun e w' => ∃ (W L H : Nat) (X : Bool), e = .returned (.agg #[.int .i64 t, .int .u64 (W : Int), .bool X, .int .u64 (L : Int), .int .u64 (H : Int)]) ∧
      4 * m * Rd.sU ((E : Int) - 1076) t / Rd.sD ((E : Int) - 1076) t = W ∧ decide (4 * m * Rd.sU ((E : Int) - 1076) t % Rd.sD ((E : Int) - 1076) t = 0) = X ∧ Rd.lea (Rd.bot E m) (Rd.sU ((E : Int) - 1076) t) (Rd.sD ((E : Int) - 1076) t) m = L ∧ Rd.mos (Rd.top m) (Rd.sU ((E : Int) - 1076) t) (Rd.sD ((E : Int) - 1076) t) m = H ∧ Below w.heap.size w w' := by
  have hup : Rd.top m * Rd.sU ((E : Int) - 1076) t ≤ 2 * (4 * m * Rd.sU ((E : Int) - 1076) t) := by
    rw [← Nat.mul_assoc]; exact Nat.mul_le_mul_right _ (by unfold Rd.top; omega)
  have hdn : 4 * m * Rd.sU ((E : Int) - 1076) t ≤ Rd.top m * Rd.sU ((E : Int) - 1076) t := Nat.mul_le_mul_right _ (by unfold Rd.top; omega)
  have hDp := Rd.sD_pos ((E : Int) - 1076) t
  have hc := viewAt_c E m (Rd.sU ((E : Int) - 1076) t) (Rd.sD ((E : Int) - 1076) t) p t w h0 h1 hE ht1 ht2 hp rfl rfl (nw_pow (by omega)) (nw_pow (by omega))
    (show _ < _ by generalize Rd.top m * Rd.sU ((E : Int) - 1076) t = a at *; generalize 4 * m * Rd.sU ((E : Int) - 1076) t = b at *; omega) (show _ ≤ _ by generalize Rd.top m * Rd.sU ((E : Int) - 1076) t = a at *; generalize 4 * m * Rd.sU ((E : Int) - 1076) t = b at *; omega)
  refine hc.mono ?_
  rintro e w' ⟨rfl, B⟩
  exact ⟨_, _, _, _, rfl, rfl, rfl, rfl, rfl, B⟩
set_option maxRecDepth 100000 in
set_option maxHeartbeats 2000000 in
theorem viewOf_c (s E m : Nat) (w : World) (hs : s = E * 4503599627370496 + m) (h0 : 0 < m) (h1 : m < 9007199254740992) (h2 : E = 0 ∨ 4503599627370496 ≤ m) (hE : E ≤ 2045) :
    Calls Tryd.prog 26 #[.int .u64 s] w fun e w' => ∃ (t : Int) (W L H : Nat) (X : Bool), e = .returned (.agg #[.int .i64 t, .int .u64 (W : Int), .bool X, .int .u64 (L : Int), .int .u64 (H : Int)]) ∧ View E m t W X L H ∧ Below w.heap.size w w' := by
  have hap := apart_c s E m
  obtain ⟨b, hb⟩ : ∃ b, bitLen m = b := ⟨_, rfl⟩
  have bl := bit_lo h0
  rw [hb] at bl
  have hb53 : b ≤ 53 := by rw [← hb]; exact bitLen_lt (show m < 2 ^ 53 by omega)
  obtain ⟨bl1, bl2, bl3⟩ := bl
  have hbI : (b : Int) ≤ 53 := by omega
  obtain ⟨t, ht⟩ : ∃ t, t = Rd.tot ((E : Int) - 1074 + b - 1) - 17 := ⟨_, rfl⟩
  have vb := Rd.view_bounds (m := m) (b := b) (p := (E : Int) - 1074) (t := t) bl1 bl2 bl3 (by omega) (by omega) ht
  rw [show (E : Int) - 1074 - 2 = (E : Int) - 1076 by omega] at vb
  obtain ⟨P, hP⟩ : ∃ P, P = 1100 := ⟨_, rfl⟩
  obtain ⟨Q, hQ⟩ : ∃ Q, Q = 400 := ⟨_, rfl⟩
  obtain ⟨_, _, tt1, tt2⟩ := Rd.tot_ok (e := (E : Int) - 1074 + b - 1) P Q hP hQ (by omega) (by omega)
  have htI : Rd.tot ((E : Int) - 1074 + b - 1) - 17 = t := ht.symm
  have t1 : -342 ≤ t := by omega
  have t2 : t ≤ 291 := by omega
  have hlen : Hid (∀ w : World, Calls Tryd.prog 40 #[.int .u64 (m : Int)] w fun e w' => e = .returned (.int .i64 (b : Int)) ∧ w = w') := fun w => by
    have := len64_c (m : Int) w (by omega) (by omega)
    rw [Int.toNat_natCast, hb] at this
    exact this
  have htot : Hid (∀ w : World, Calls Tryd.prog 42 #[.int .i64 ((E : Int) - 1074 + b - 1)] w fun e w' => e = .returned (.int .i64 (t + 17)) ∧ w = w') := fun w => by
    have := tensOfTwos_c ((E : Int) - 1074 + b - 1) w (by omega) (by omega)
    rw [show Rd.tot ((E : Int) - 1074 + b - 1) = t + 17 by omega] at this
    exact this
  have hapH : Hid (∀ w : World, Calls Tryd.prog 39 #[.int .u64 s] w fun r w' => r = .returned (.tuple #[.int .u64 m, .int .i64 ((E : Int) - 1074)]) ∧ w = w') := fun w => hap w hs h1 h2 hE
  have hvH : Hid (100000000000000000 * Rd.sD ((E : Int) - 1076) t ≤ 4 * m * Rd.sU ((E : Int) - 1076) t ∧ 4 * m * Rd.sU ((E : Int) - 1076) t < 2000000000000000000 * Rd.sD ((E : Int) - 1076) t) := vb
  clear hap vb bl1 bl2 bl3 hb ht htI tt1 tt2 hb53 hs
  go_enter Tryd.func26, Tryd.ntmps26
  go_wp2_with fail
  refine (hapH.out _).mono ?_
  rintro e w' ⟨rfl, rfl⟩
  go_wp2_with fail
  refine (hlen.out _).mono ?_
  rintro e w' ⟨rfl, rfl⟩
  go_wp2_with fail
  refine (htot.out _).mono ?_
  rintro e w' ⟨rfl, rfl⟩
  go_wp2_with fail
  generalize hW : w.alloc (.cells #[.int .i64 0, .int .u64 0, .bool false, .int .u64 0, .int .u64 0] 52) = W0
  have kr0 : Hid (Cells W0 w.heap.size [.int .i64 0, .int .u64 0, .bool false, .int .u64 0, .int .u64 0]) := by rw [← hW]; exact Cells.new _ _ _
  have bw0 : Hid (Below w.heap.size w W0) := by rw [← hW]; exact (Below.refl _ _).alloc (Nat.le_refl _) _
  clear hW
  refine (viewAt_v E m _ t W0 h0 h1 hE (by omega) (by omega) rfl hvH.out.1 hvH.out.2).mono ?_
  rintro e w1 ⟨W, L, H, X, rfl, eW, eX, eL, eH, hb1⟩
  have hWl : W < 2000000000000000000 := by rw [← eW, Nat.div_lt_iff_lt_mul (Rd.sD_pos _ _)]; exact hvH.out.2
  have hWg : 100000000000000000 ≤ W := by rw [← eW, Nat.le_div_iff_mul_le (Rd.sD_pos _ _)]; exact hvH.out.1
  have eWH : Hid (4 * m * Rd.sU ((E : Int) - 1076) t / Rd.sD ((E : Int) - 1076) t = W) := eW
  have eXH : Hid (decide (4 * m * Rd.sU ((E : Int) - 1076) t % Rd.sD ((E : Int) - 1076) t = 0) = X) := eX
  have eLH : Hid (Rd.lea (Rd.bot E m) (Rd.sU ((E : Int) - 1076) t) (Rd.sD ((E : Int) - 1076) t) m = L) := eL
  have eHH : Hid (Rd.mos (Rd.top m) (Rd.sU ((E : Int) - 1076) t) (Rd.sD ((E : Int) - 1076) t) m = H) := eH
  have kr1 : Hid (Cells w1 w.heap.size [.int .i64 0, .int .u64 0, .bool false, .int .u64 0, .int .u64 0]) := kr0.out.below hb1
  have bw1 : Hid (Below w.heap.size w w1) := bw0.out.trans (hb1.mono bw0.out.size)
  have hrl : Hid (w.heap.size < w1.heap.size) := Nat.lt_of_lt_of_le kr0.out.lt hb1.size
  clear hb1 kr0 bw0 eW eX eL eH
  go_wp2_with fail
  generalize hX : w1.alloc (.cells #[.int .i64 t, .int .u64 (W : Int), .bool X, .int .u64 (L : Int), .int .u64 (H : Int)] 52) = Y
  have kv : Hid (Cells Y w1.heap.size [.int .i64 t, .int .u64 (W : Int), .bool X, .int .u64 (L : Int), .int .u64 (H : Int)]) := by rw [← hX]; exact Cells.new _ _ _
  have kr : Hid (Cells Y w.heap.size [.int .i64 0, .int .u64 0, .bool false, .int .u64 0, .int .u64 0]) := by rw [← hX]; exact kr1.out.alloc _
  have bw : Hid (Below w.heap.size w Y) := by rw [← hX]; exact bw1.out.alloc bw1.out.size _
  clear hX kr1 bw1
  have v0 := kv.out.at' 0 _ rfl
  have v1 := kv.out.at' 1 _ rfl
  have v2 := kv.out.at' 2 _ rfl
  have v3 := kv.out.at' 3 _ rfl
  have v4 := kv.out.at' 4 _ rfl
  by_cases hlt : W < 1000000000000000000
  · have hlt' : decide ((W : Int) ≥ 1000000000000000000) = false := decide_eq_false (by omega)
    have hlt'' : decide ((1000000000000000000 : Int) ≤ (W : Int)) = false := decide_eq_false (by omega)
    have hV : Hid (View E m t W X L H) := ⟨eWH.out, eXH.out, eLH.out, eHH.out, hWg, hlt, by omega, by omega⟩
    go_quiet ((go_at_call 43; exact Calls.quiet_of_same ((tens18 _).mono fun _ _ h => ⟨h.1, h.2.symm⟩)))
    have r0 := kr.out.at' 0 _ rfl
    have q0 := kr.out.free 0
    have r1 := kr.out.at' 1 _ rfl
    have q1 := kr.out.free 1
    have r2 := kr.out.at' 2 _ rfl
    have q2 := kr.out.free 2
    have r3 := kr.out.at' 3 _ rfl
    have q3 := kr.out.free 3
    have r4 := kr.out.at' 4 _ rfl
    have q4 := kr.out.free 4
    have kd : Hid (Cells (Y.drewN nq) w.heap.size [.int .i64 0, .int .u64 0, .bool false, .int .u64 0, .int .u64 0]) := ⟨kr.out.lt, kr.out.at', kr.out.free⟩
    have bd : Hid (Below w.heap.size w (Y.drewN nq)) := below_drewN bw.out nq
    go_wp2
    generalize hX : ((((((Y.drewN nq).setCell ⟨w.heap.size, 0, none⟩ (.int .i64 t)).setCell ⟨w.heap.size, 1, none⟩ (.int .u64 (W : Int))).setCell ⟨w.heap.size, 2, none⟩ (.bool X)).setCell ⟨w.heap.size, 3, none⟩ (.int .u64 (L : Int))).setCell ⟨w.heap.size, 4, none⟩ (.int .u64 (H : Int))) = Z
    have kz : Cells Z w.heap.size [.int .i64 t, .int .u64 (W : Int), .bool X, .int .u64 (L : Int), .int .u64 (H : Int)] := by rw [← hX]; exact (((((kd.out.set 0 (.int .i64 t) (by simp)).set 1 (.int .u64 (W : Int)) (by simp)).set 2 (.bool X) (by simp)).set 3 (.int .u64 (L : Int)) (by simp)).set 4 (.int .u64 (H : Int)) (by simp))
    have bz : Below w.heap.size w Z := by rw [← hX]; exact (((((bd.out.setCell (p := ⟨w.heap.size, 0, none⟩) (Nat.le_refl _) (.int .i64 t)).setCell (p := ⟨w.heap.size, 1, none⟩) (Nat.le_refl _) (.int .u64 (W : Int))).setCell (p := ⟨w.heap.size, 2, none⟩) (Nat.le_refl _) (.bool X)).setCell (p := ⟨w.heap.size, 3, none⟩) (Nat.le_refl _) (.int .u64 (L : Int))).setCell (p := ⟨w.heap.size, 4, none⟩) (Nat.le_refl _) (.int .u64 (H : Int)))
    clear hX
    have z0 := kz.at' 0 _ rfl
    have z1 := kz.at' 1 _ rfl
    have z2 := kz.at' 2 _ rfl
    have z3 := kz.at' 3 _ rfl
    have z4 := kz.at' 4 _ rfl
    refine bodyPost_ret (v := .agg #[.int .i64 t, .int .u64 (W : Int), .bool X, .int .u64 (L : Int), .int .u64 (H : Int)]) (by simp [results, Tryd.results26, go_sem, z0, z1, z2, z3, z4]) rfl ?_
    exact ⟨t, W, L, H, X, rfl, hV.out, bz⟩
  · have hge : (W : Int) ≥ 1000000000000000000 := by omega
    have hge' : (1000000000000000000 : Int) ≤ (W : Int) := by omega
    have n1 : 100000000000000000 * Rd.sD ((E : Int) - 1076) (t + 1) ≤ 4 * m * Rd.sU ((E : Int) - 1076) (t + 1) := by
      have hle : 1000000000000000000 * Rd.sD ((E : Int) - 1076) t ≤ 4 * m * Rd.sU ((E : Int) - 1076) t := by
        rw [← Nat.le_div_iff_mul_le (Rd.sD_pos _ _), eWH.out]; omega
      have := nx_lo (x := 4 * m) (Rd.sD_pos _ _) (Rd.next_unit ((E : Int) - 1076) t) hle
      omega
    have n2 : 4 * m * Rd.sU ((E : Int) - 1076) (t + 1) < 1000000000000000000 * Rd.sD ((E : Int) - 1076) (t + 1) := by
      have := nx_hi (x := 4 * m) (Rd.sD_pos _ _) (Rd.next_unit ((E : Int) - 1076) t) hvH.out.2
      omega
    have n1H : Hid (100000000000000000 * Rd.sD ((E : Int) - 1076) (t + 1) ≤ 4 * m * Rd.sU ((E : Int) - 1076) (t + 1)) := n1
    have n2H : Hid (4 * m * Rd.sU ((E : Int) - 1076) (t + 1) < 1000000000000000000 * Rd.sD ((E : Int) - 1076) (t + 1)) := n2
    clear n1 n2 hlt
    go_quiet ((go_at_call 43; exact Calls.quiet_of_same ((tens18 _).mono fun _ _ h => ⟨h.1, h.2.symm⟩)))
    have kvd : Hid (Cells (Y.drewN nq) w1.heap.size [.int .i64 t, .int .u64 (W : Int), .bool X, .int .u64 (L : Int), .int .u64 (H : Int)]) := ⟨kv.out.lt, kv.out.at', kv.out.free⟩
    have kd : Hid (Cells (Y.drewN nq) w.heap.size [.int .i64 0, .int .u64 0, .bool false, .int .u64 0, .int .u64 0]) := ⟨kr.out.lt, kr.out.at', kr.out.free⟩
    have bd : Hid (Below w.heap.size w (Y.drewN nq)) := below_drewN bw.out nq
    clear kv kr bw v0 v1 v2 v3 v4
    generalize Y.drewN nq = Y2 at *
    have v0 := kvd.out.at' 0 _ rfl
    go_wp2_with fail
    refine (viewAt_v E m _ (t + 1) Y2 h0 h1 hE (by omega) (by omega) rfl n1H.out (by have := n2H.out; omega)).mono ?_
    rintro e w3 ⟨W2, L2, H2, X2, rfl, eW2, eX2, eL2, eH2, hb3⟩
    have hV : Hid (View E m (t + 1) W2 X2 L2 H2) := ⟨eW2, eX2, eL2, eH2, by rw [← eW2, Nat.le_div_iff_mul_le (Rd.sD_pos _ _)]; exact n1H.out, by rw [← eW2, Nat.div_lt_iff_lt_mul (Rd.sD_pos _ _)]; exact n2H.out, by omega, by omega⟩
    have kv3 : Hid (Cells w3 w1.heap.size [.int .i64 t, .int .u64 (W : Int), .bool X, .int .u64 (L : Int), .int .u64 (H : Int)]) := kvd.out.below hb3
    have kd3 : Hid (Cells w3 w.heap.size [.int .i64 0, .int .u64 0, .bool false, .int .u64 0, .int .u64 0]) := kd.out.below hb3
    have bd3 : Hid (Below w.heap.size w w3) := bd.out.trans (hb3.mono bd.out.size)
    clear eW2 eX2 eL2 eH2 hb3 kvd kd bd v0 eWH eXH eLH eHH
    have s0 := kv3.out.at' 0 _ rfl
    have p0 := kv3.out.free 0
    have s1 := kv3.out.at' 1 _ rfl
    have p1 := kv3.out.free 1
    have s2 := kv3.out.at' 2 _ rfl
    have p2 := kv3.out.free 2
    have s3 := kv3.out.at' 3 _ rfl
    have p3 := kv3.out.free 3
    have s4 := kv3.out.at' 4 _ rfl
    have p4 := kv3.out.free 4
    have ne1 : ¬ (w1.heap.size = w.heap.size) := by have := hrl.out; omega
    have ne2 : ¬ (w.heap.size = w1.heap.size) := by have := hrl.out; omega
    have le1 : w.heap.size ≤ w1.heap.size := by have := hrl.out; omega
    go_upto_region 6 with fail
    generalize hX : (((((w3.setCell ⟨w1.heap.size, 0, none⟩ (.int .i64 (t + 1))).setCell ⟨w1.heap.size, 1, none⟩ (.int .u64 (W2 : Int))).setCell ⟨w1.heap.size, 2, none⟩ (.bool X2)).setCell ⟨w1.heap.size, 3, none⟩ (.int .u64 (L2 : Int))).setCell ⟨w1.heap.size, 4, none⟩ (.int .u64 (H2 : Int))) = Y3
    have kv4 : Hid (Cells Y3 w1.heap.size [.int .i64 (t + 1), .int .u64 (W2 : Int), .bool X2, .int .u64 (L2 : Int), .int .u64 (H2 : Int)]) := by rw [← hX]; exact (((((kv3.out.set 0 (.int .i64 (t + 1)) (by simp)).set 1 (.int .u64 (W2 : Int)) (by simp)).set 2 (.bool X2) (by simp)).set 3 (.int .u64 (L2 : Int)) (by simp)).set 4 (.int .u64 (H2 : Int)) (by simp))
    have kd4 : Hid (Cells Y3 w.heap.size [.int .i64 0, .int .u64 0, .bool false, .int .u64 0, .int .u64 0]) := by rw [← hX]; exact (((((kd3.out.other (a := ⟨w1.heap.size, 0, none⟩) ne1 (.int .i64 (t + 1))).other (a := ⟨w1.heap.size, 1, none⟩) ne1 (.int .u64 (W2 : Int))).other (a := ⟨w1.heap.size, 2, none⟩) ne1 (.bool X2)).other (a := ⟨w1.heap.size, 3, none⟩) ne1 (.int .u64 (L2 : Int))).other (a := ⟨w1.heap.size, 4, none⟩) ne1 (.int .u64 (H2 : Int)))
    have bd4 : Hid (Below w.heap.size w Y3) := by rw [← hX]; exact (((((bd3.out.setCell (p := ⟨w1.heap.size, 0, none⟩) le1 (.int .i64 (t + 1))).setCell (p := ⟨w1.heap.size, 1, none⟩) le1 (.int .u64 (W2 : Int))).setCell (p := ⟨w1.heap.size, 2, none⟩) le1 (.bool X2)).setCell (p := ⟨w1.heap.size, 3, none⟩) le1 (.int .u64 (L2 : Int))).setCell (p := ⟨w1.heap.size, 4, none⟩) le1 (.int .u64 (H2 : Int)))
    clear hX kv3 kd3 bd3 s0 s1 s2 s3 s4 p0 p1 p2 p3 p4
    have s0 := kv4.out.at' 0 _ rfl
    have r0 := kd4.out.at' 0 _ rfl
    have q0 := kd4.out.free 0
    have s1 := kv4.out.at' 1 _ rfl
    have r1 := kd4.out.at' 1 _ rfl
    have q1 := kd4.out.free 1
    have s2 := kv4.out.at' 2 _ rfl
    have r2 := kd4.out.at' 2 _ rfl
    have q2 := kd4.out.free 2
    have s3 := kv4.out.at' 3 _ rfl
    have r3 := kd4.out.at' 3 _ rfl
    have q3 := kd4.out.free 3
    have s4 := kv4.out.at' 4 _ rfl
    have r4 := kd4.out.at' 4 _ rfl
    have q4 := kd4.out.free 4
    go_wp2
    generalize hX : (((((Y3.setCell ⟨w.heap.size, 0, none⟩ (.int .i64 (t + 1))).setCell ⟨w.heap.size, 1, none⟩ (.int .u64 (W2 : Int))).setCell ⟨w.heap.size, 2, none⟩ (.bool X2)).setCell ⟨w.heap.size, 3, none⟩ (.int .u64 (L2 : Int))).setCell ⟨w.heap.size, 4, none⟩ (.int .u64 (H2 : Int))) = Z
    have kz : Cells Z w.heap.size [.int .i64 (t + 1), .int .u64 (W2 : Int), .bool X2, .int .u64 (L2 : Int), .int .u64 (H2 : Int)] := by rw [← hX]; exact (((((kd4.out.set 0 (.int .i64 (t + 1)) (by simp)).set 1 (.int .u64 (W2 : Int)) (by simp)).set 2 (.bool X2) (by simp)).set 3 (.int .u64 (L2 : Int)) (by simp)).set 4 (.int .u64 (H2 : Int)) (by simp))
    have bz : Below w.heap.size w Z := by rw [← hX]; exact (((((bd4.out.setCell (p := ⟨w.heap.size, 0, none⟩) (Nat.le_refl _) (.int .i64 (t + 1))).setCell (p := ⟨w.heap.size, 1, none⟩) (Nat.le_refl _) (.int .u64 (W2 : Int))).setCell (p := ⟨w.heap.size, 2, none⟩) (Nat.le_refl _) (.bool X2)).setCell (p := ⟨w.heap.size, 3, none⟩) (Nat.le_refl _) (.int .u64 (L2 : Int))).setCell (p := ⟨w.heap.size, 4, none⟩) (Nat.le_refl _) (.int .u64 (H2 : Int)))
    clear hX
    have z0 := kz.at' 0 _ rfl
    have z1 := kz.at' 1 _ rfl
    have z2 := kz.at' 2 _ rfl
    have z3 := kz.at' 3 _ rfl
    have z4 := kz.at' 4 _ rfl
    refine bodyPost_ret (v := .agg #[.int .i64 (t + 1), .int .u64 (W2 : Int), .bool X2, .int .u64 (L2 : Int), .int .u64 (H2 : Int)]) (by simp [results, Tryd.results26, go_sem, z0, z1, z2, z3, z4]) rfl ?_
    exact ⟨t + 1, W2, L2, H2, X2, rfl, hV.out, bz⟩
end Go.Proofs.YtmfnjmgdindlaaaDoor
