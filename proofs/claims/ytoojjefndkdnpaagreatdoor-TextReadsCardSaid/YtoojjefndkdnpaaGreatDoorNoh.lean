/-
  The program's naturals: over.
-/
import Derived.Test.YtoojjefndkdnpaaGreatDoorNog
namespace Go.Proofs.YtoojjefndkdnpaaGreatDoor
open Flo Go.RowKit
theorem Nl.drewN {w : World} {B n : Nat} {v : Value} (h : Nl w B v n) (q : Nat) : Nl (w.drewN q) B v n := h
theorem bitLen_lo {n : Nat} (h : 0 < n) : 2 ^ (bitLen n - 1) ≤ n := by
  unfold bitLen
  rw [if_neg (by omega), Nat.add_sub_cancel]
  exact Nat.log2_self_le (by omega)
theorem bitLen_hi (n : Nat) : n < 2 ^ bitLen n := by
  unfold bitLen
  split
  · omega
  · exact Nat.lt_log2_self
theorem bitLen_pos {n : Nat} (h : 0 < n) : 0 < bitLen n := by
  unfold bitLen; rw [if_neg (by omega)]; omega
theorem bitLen_nw (n : Nat) : bitLen n ≤ 64 * Wd.nw W64 n := by
  apply bitLen_lt
  rw [← W64_pow]
  exact Wd.lt_pow_nw W64_2 n
theorem nw_bit {n k : Nat} (h : n < 2 ^ (64 * k)) : Wd.nw W64 n ≤ k := Wd.nw_le W64_2 (by rw [W64_pow]; exact h)
theorem ov_start {N D steps : Nat} (hD : 0 < D) (hs : bitLen N ≤ bitLen D + steps) : N < D * 2 ^ (steps + 1) := by
  have h1 := bitLen_hi N
  have h2 := bitLen_lo hD
  have h3 := bitLen_pos hD
  have h4 : 2 ^ bitLen N ≤ 2 ^ (bitLen D + steps) := Nat.pow_le_pow_right (by decide) hs
  have h5 : 2 ^ (bitLen D + steps) = 2 ^ (bitLen D - 1) * 2 ^ (steps + 1) := by rw [← Nat.pow_add]; congr 1; omega
  have h6 : 2 ^ (bitLen D - 1) * 2 ^ (steps + 1) ≤ D * 2 ^ (steps + 1) := Nat.mul_le_mul_right _ h2
  omega
theorem ov_nw {D steps k : Nat} (hk : bitLen D + steps ≤ 64 * k) : Wd.nw W64 (D * 2 ^ steps) ≤ k := by
  apply nw_bit
  have h1 := bitLen_hi D
  have h2 : D * 2 ^ steps < 2 ^ bitLen D * 2 ^ steps := Nat.mul_lt_mul_of_pos_right h1 (Nat.pow_pos (by decide))
  rw [← Nat.pow_add] at h2
  exact Nat.lt_of_lt_of_le h2 (Nat.pow_le_pow_right (by decide) hk)
/-- a step of the long division -/
theorem ov_step {N D q R j : Nat} (h : N = q * (D * 2 ^ (j + 1)) + R) (hR : R < D * 2 ^ (j + 1)) :
    (R < D * 2 ^ j → N = 2 * q * (D * 2 ^ j) + R) ∧ (¬ R < D * 2 ^ j → N = (2 * q + 1) * (D * 2 ^ j) + (R - D * 2 ^ j) ∧ R - D * 2 ^ j < D * 2 ^ j) := by
  have e : D * 2 ^ (j + 1) = 2 * (D * 2 ^ j) := by rw [Nat.pow_succ]; ac_rfl
  rw [e] at h hR
  generalize D * 2 ^ j = P at *
  have e2 : q * (2 * P) = 2 * q * P := by ac_rfl
  rw [e2] at h
  refine ⟨fun _ => h, fun h1 => ⟨?_, by omega⟩⟩
  rw [Nat.add_mul, Nat.one_mul]
  omega
theorem ov_small {N D q R j : Nat} (hD : 0 < D) (hq : N / D < 18446744073709551616) (h : N = q * (D * 2 ^ j) + R) : q < 18446744073709551616 := by
  have h1 : q * D ≤ N := by
    have : q * (D * 1) ≤ q * (D * 2 ^ j) := Nat.mul_le_mul_left _ (Nat.mul_le_mul_left _ (Nat.pow_pos (by decide)))
    rw [Nat.mul_one] at this
    omega
  exact Nat.lt_of_le_of_lt ((Nat.le_div_iff_mul_le hD).2 h1) hq
theorem ov_part {D steps i : Nat} (h : i ≤ steps) : D * 2 ^ steps / 2 ^ i = D * 2 ^ (steps - i) := by
  have : D * 2 ^ steps = D * 2 ^ (steps - i) * 2 ^ i := by rw [Nat.mul_assoc, ← Nat.pow_add]; congr 2; omega
  rw [this, Nat.mul_div_cancel _ (Nat.pow_pos (by decide))]
theorem or_one (q : Nat) (h : 2 * q + 1 < 18446744073709551616) : bits .or .u64 ((q : Int) * 2) 1 = ((2 * q + 1 : Nat) : Int) := by
  rw [show (q : Int) * 2 = ((2 * q : Nat) : Int) by omega, show (1 : Int) = ((1 : Nat) : Int) from rfl, bits_or_u64_nat _ _ (by omega) (by omega)]
  congr 1
  have := Nat.two_pow_add_eq_or_of_lt (i := 1) (b := 1) (by omega) q
  rw [Nat.pow_one] at this
  exact this.symm
theorem doubled_z (B n : Nat) (v : Value) (w : World) (hr : Nl w B v n) (hk : Wd.nw W64 n ≤ 1000000) :
    Calls Tryz.prog 76 #[v, .int .i64 0] w fun e w' => ∃ v', e = .returned v' ∧ Nl w' w.heap.size v' (n * 2 ^ 0) ∧ Below w.heap.size w w' := doubled_c B n 0 v w hr hk (by omega)
set_option maxRecDepth 100000 in
set_option maxHeartbeats 400000 in
theorem over_a (B C N D k : Nat) (u v : Value) (w : World) (hu : Nl w B u N) (hv : Nl w C v D) (hD : Hid (0 < D)) (hq : Hid (N / D < 18446744073709551616)) (hk : k ≤ 15000) (hNk : Wd.nw W64 N ≤ k) (hDk : Wd.nw W64 D ≤ k) (hcase : bitLen D < bitLen N) :
    Calls Tryz.prog 77 #[u, v] w fun e w' => ∃ v', e = .returned (.tuple #[.int .u64 ((N / D : Nat) : Int), v']) ∧ Nl w' w.heap.size v' (N % D) ∧ Below w.heap.size w w' := by
  have hlN := bitLen_nw N
  have hlD := bitLen_nw D
  have hlu : Hid (Calls Tryz.prog 75 #[u] w fun e w' => e = .returned (.int .i64 (bitLen N : Nat)) ∧ w = w') := length_c B N u w hu (by omega)
  have hlv : Hid (Calls Tryz.prog 75 #[v] w fun e w' => e = .returned (.int .i64 (bitLen D : Nat)) ∧ w = w') := length_c C D v w hv (by omega)
  have hN1 : Wd.nw W64 N ≤ 1000000 := by omega
  have hD1 : Wd.nw W64 D ≤ 1000000 := by omega
  obtain ⟨steps, hst⟩ : ∃ steps : Nat, steps = bitLen N - bitLen D := ⟨_, rfl⟩
  have hstI : (bitLen N : Int) - (bitLen D : Int) = (steps : Int) := by omega
  have hsl : steps ≤ 960000 := by omega
  have hmx : (0 : Int) < (steps : Int) := by omega

  have hNs : Hid (N < D * 2 ^ (steps + 1)) := ov_start hD.out (by omega)
  have hPk : Wd.nw W64 (D * 2 ^ steps) ≤ 15000 := Nat.le_trans (ov_nw (k := k) (by omega)) hk
  clear hlN hlD hNk hDk hst
  generalize bitLen N = lN at *
  generalize bitLen D = lD at *
  have hwsz : w.heap.size ≤ w.heap.size := Nat.le_refl _
  go_enter Tryz.func77, Tryz.ntmps77
  go_wp2_with fail
  refine hlu.out.mono ?_
  rintro e w' ⟨rfl, rfl⟩
  go_wp2_with fail
  refine hlv.out.mono ?_
  rintro e w' ⟨rfl, rfl⟩
  clear hlu hlv
  go_wp2_with fail
  refine (clone_c B N u w hu hN1).mono ?_
  rintro e w1 ⟨r0, rfl, hr0, hb1⟩
  have hv1 : Nl w1 C v D := Row.under hv hb1
  go_wp2_with fail
  refine (doubled_c C D steps v w1 hv1 hD1 (by omega)).mono ?_
  rintro e w2 ⟨p0, rfl, hp0, hb2⟩
  have hr2 : Hid (Nl w2 w.heap.size r0 N) := Row.under hr0 hb2
  have hap : Hid (Apt r0 p0) := apt_of (fun b h => (Row.lt hr0 b h).2) (fun b h => (Row.lt hp0 b h).1)
  have hp2 : Hid (Nl w2 w.heap.size p0 (D * 2 ^ steps)) := Row.mono hp0 hb1.size
  have hbw : Hid (Below w.heap.size w w2) := hb1.trans (hb2.mono hb1.size)
  clear hr0 hb1 hv1 hp0 hb2
  go_wp2_with fail
  go_loopw [4, 5, 7, 21] (fun sq sr sp si wr => ∃ (i q R : Nat), i ≤ steps + 1 ∧ sq = .int .u64 q ∧ si = .int .i64 i ∧ Hid (N = q * (D * 2 ^ (steps + 1 - i)) + R ∧ R < D * 2 ^ (steps + 1 - i)) ∧ Hid (Nl wr w.heap.size sr R) ∧ Hid (Nl wr w.heap.size sp (D * 2 ^ steps / 2 ^ i)) ∧ Hid (Apt sr sp) ∧ Hid (Below w.heap.size w wr)) (fun _ _ _ si _ => steps + 1 - (intOf si).toNat)
  case atStart => exact ⟨0, 0, N, by omega, rfl, rfl, ⟨by rw [Nat.zero_mul, Nat.zero_add], hNs.out⟩, hr2, by rw [Nat.pow_zero, Nat.div_one]; exact hp2, hap, hbw⟩
  case round =>
    clear hr2 hap hp2 hbw
    obtain ⟨i, q, R, hi, rfl, rfl, hinv, hr, hp, hap, hbl⟩ := hrel
    have hsz := hbl.out.size
    by_cases hlt : i < steps + 1
    · have hlt' : (i : Int) < (steps : Int) + 1 := by omega
      have hj : steps + 1 - i = (steps - i) + 1 := by omega
      have hR1 : Wd.nw W64 R ≤ 1000000 := Nat.le_trans (Wd.nw_mono W64_2 (show R ≤ N by have := hinv.out.1; omega)) hN1
      have hP1 : Wd.nw W64 (D * 2 ^ steps / 2 ^ i) ≤ 1000000 := Nat.le_trans (Wd.nw_mono W64_2 (Nat.div_le_self _ _)) (by omega)
      have hpe : Hid (D * 2 ^ steps / 2 ^ i = D * 2 ^ (steps - i)) := ov_part (by omega)
      have hpn : Hid (D * 2 ^ steps / 2 ^ i / 2 = D * 2 ^ steps / 2 ^ (i + 1)) := (by rw [Nat.pow_succ, Nat.div_div_eq_div_mul] : D * 2 ^ steps / 2 ^ i / 2 = D * 2 ^ steps / 2 ^ (i + 1))
      have hji : Hid (steps - i = steps + 1 - (i + 1)) := (by omega : steps - i = steps + 1 - (i + 1))
      have hbel : Hid (Calls Tryz.prog 98 #[u5, u7] wr fun e w' => e = .returned (.bool (decide (R < D * 2 ^ steps / 2 ^ i))) ∧ ∃ q, w' = wr.drewN q) := below_c _ _ R _ u5 u7 wr hr.out hp.out hR1
      generalize hPP : D * 2 ^ steps / 2 ^ i = P at hp hpe hpn hP1 hbel
      have hRPs : Hid ((R < P → N = 2 * q * P + R) ∧ (¬ R < P → N = (2 * q + 1) * P + (R - P) ∧ R - P < P)) := by
        show _ ∧ _
        rw [hpe.out]
        exact ov_step (hj ▸ hinv.out.1) (hj ▸ hinv.out.2)
      clear hPP hj
      by_cases hRP : R < P
      · have hdec : decide (R < P) = true := decide_eq_true hRP
        rw [hdec] at hbel
        have hNe : Hid (N = 2 * q * P + R) := hRPs.out.1 hRP
        have hqs : 2 * q < 18446744073709551616 := ov_small (j := steps - i) (R := R) hD.out hq.out (by rw [← hpe.out]; exact hNe.out)
        have hRPH : Hid (R < P) := hRP
        clear hdec hRP hRPs hinv
        go_wp2_with fail
        refine hbel.out.mono ?_
        rintro e w' ⟨rfl, qq, rfl⟩
        clear hbel
        go_wp2_with fail
        refine (halve_c w.heap.size P u7 (wr.drewN qq) hp.out hP1).mono ?_
        rintro e w3 ⟨p', rfl, hp', hpo, hg⟩
        have hr3 : Hid (Nl w3 w.heap.size u5 R) := Row.kept (w := wr.drewN qq) hr.out hg (fun b hb e => hap.out b hb e.symm)
        have hap3 : Hid (Apt u5 p') := fun b hb h => hap.out b hb (by rw [← hpo]; exact h)
        have hb3 : Hid (Below w.heap.size w w3) := (below_drewN hbl.out qq).grown hg hsz (fun b hb => (Row.lt hp.out b hb).1)
        clear hg hpo hr hap hbl hp
        go_wp2
        go_roundw
        case rel => exact ⟨i + 1, 2 * q, R, by omega, by go_num, by go_num, ⟨by rw [← hji.out, ← hpe.out]; exact hNe.out, by rw [← hji.out, ← hpe.out]; exact hRPH.out⟩, hr3, by rw [← hpn.out]; exact hp', hap3, hb3⟩
        case measure => simp [intOf]; omega
      · have hdec : decide (R < P) = false := decide_eq_false hRP
        rw [hdec] at hbel
        have hNe : Hid (N = (2 * q + 1) * P + (R - P) ∧ R - P < P) := hRPs.out.2 hRP
        have hqs : 2 * q + 1 < 18446744073709551616 := ov_small (j := steps - i) (R := R - P) hD.out hq.out (by rw [← hpe.out]; exact hNe.out.1)
        have hor := or_one q hqs
        have hRPH : Hid (P ≤ R) := (by omega : P ≤ R)
        clear hdec hRP hRPs hinv
        go_wp2_with fail
        refine hbel.out.mono ?_
        rintro e w' ⟨rfl, qq, rfl⟩
        clear hbel
        go_wp2_with fail
        refine (minus_c w.heap.size w.heap.size R P u5 u7 (wr.drewN qq) hr.out hp.out hR1 hRPH.out hap.out).mono ?_
        rintro e w3 ⟨r', rfl, hr', hro, hg⟩
        have hp3 : Hid (Nl w3 w.heap.size u7 P) := Row.kept (w := wr.drewN qq) hp.out hg (fun b hb e => hap.out b e.symm hb)
        have hap3 : Hid (Apt r' u7) := fun b hb h => hap.out b (by rw [← hro]; exact hb) h
        have hb3 : Hid (Below w.heap.size w w3) := (below_drewN hbl.out qq).grown hg hsz (fun b hb => (Row.lt hr.out b hb).1)
        have hr3 : Hid (Nl w3 w.heap.size r' (R - P)) := hr'
        clear hg hro hr hap hbl hp hr'
        go_wp2_with fail
        refine (halve_c w.heap.size P u7 w3 hp3.out hP1).mono ?_
        rintro e w4 ⟨p', rfl, hp', hpo, hg⟩
        have hsz3 := hb3.out.size
        have hr4 : Hid (Nl w4 w.heap.size r' (R - P)) := Row.kept hr3.out hg (fun b hb e => hap3.out b hb e.symm)
        have hap4 : Hid (Apt r' p') := fun b hb h => hap3.out b hb (by rw [← hpo]; exact h)
        have hb4 : Hid (Below w.heap.size w w4) := hb3.out.grown hg hsz3 (fun b hb => (Row.lt hp3.out b hb).1)
        clear hg hpo hr3 hap3 hb3 hp3
        go_wp2
        go_roundw
        case rel => exact ⟨i + 1, 2 * q + 1, R - P, by omega, by go_num, by go_num, ⟨by rw [← hji.out, ← hpe.out]; exact hNe.out.1, by rw [← hji.out, ← hpe.out]; exact hNe.out.2⟩, hr4, by rw [← hpn.out]; exact hp', hap4, hb4⟩
        case measure => simp [intOf]; omega
    · have hlt' : decide ((i : Int) < (steps : Int) + 1) = false := decide_eq_false (by omega)
      have hi1 : i = steps + 1 := by omega
      have hfin : Hid (N / D = q ∧ N % D = R) := by
        obtain ⟨e1, e2⟩ := hinv.out
        rw [hi1, Nat.sub_self, Nat.pow_zero, Nat.mul_one] at e1 e2
        exact (Nat.div_mod_unique hD.out).2 ⟨by rw [e1, Nat.mul_comm q, Nat.add_comm], e2⟩
      clear hi1 hinv
      go_wp2
      go_ret2
      exact ⟨_, by rw [hfin.out.1]; rfl, by rw [hfin.out.2]; exact hr.out, hbl.out⟩
set_option maxRecDepth 100000 in
set_option maxHeartbeats 400000 in
theorem over_b (B C N D k : Nat) (u v : Value) (w : World) (hu : Nl w B u N) (hv : Nl w C v D) (hD : Hid (0 < D)) (hq : Hid (N / D < 18446744073709551616)) (hk : k ≤ 15000) (hNk : Wd.nw W64 N ≤ k) (hDk : Wd.nw W64 D ≤ k) (hcase : bitLen N ≤ bitLen D) :
    Calls Tryz.prog 77 #[u, v] w fun e w' => ∃ v', e = .returned (.tuple #[.int .u64 ((N / D : Nat) : Int), v']) ∧ Nl w' w.heap.size v' (N % D) ∧ Below w.heap.size w w' := by
  have hlN := bitLen_nw N
  have hlD := bitLen_nw D
  have hlu : Hid (Calls Tryz.prog 75 #[u] w fun e w' => e = .returned (.int .i64 (bitLen N : Nat)) ∧ w = w') := length_c B N u w hu (by omega)
  have hlv : Hid (Calls Tryz.prog 75 #[v] w fun e w' => e = .returned (.int .i64 (bitLen D : Nat)) ∧ w = w') := length_c C D v w hv (by omega)
  have hN1 : Wd.nw W64 N ≤ 1000000 := by omega
  have hD1 : Wd.nw W64 D ≤ 1000000 := by omega
  have hmx : ¬ bitLen D < bitLen N := by omega
  have hB1 : bitLen N ≤ 960000 := by omega
  have hB2 : bitLen D ≤ 960000 := by omega

  have hNs : Hid (N < D * 2 ^ (0 + 1)) := ov_start hD.out (by omega)
  have hPk : Wd.nw W64 (D * 2 ^ 0) ≤ 15000 := Nat.le_trans (ov_nw (k := k) (by omega)) hk
  clear hlN hlD hNk hDk
  generalize bitLen N = lN at *
  generalize bitLen D = lD at *
  have hwsz : w.heap.size ≤ w.heap.size := Nat.le_refl _
  go_enter Tryz.func77, Tryz.ntmps77
  go_wp2_with fail
  refine hlu.out.mono ?_
  rintro e w' ⟨rfl, rfl⟩
  go_wp2_with fail
  refine hlv.out.mono ?_
  rintro e w' ⟨rfl, rfl⟩
  clear hlu hlv
  go_wp2_with fail
  refine (clone_c B N u w hu hN1).mono ?_
  rintro e w1 ⟨r0, rfl, hr0, hb1⟩
  have hv1 : Nl w1 C v D := Row.under hv hb1
  go_wp2_with fail
  refine (doubled_z C D v w1 hv1 hD1).mono ?_
  rintro e w2 ⟨p0, rfl, hp0, hb2⟩
  have hr2 : Hid (Nl w2 w.heap.size r0 N) := Row.under hr0 hb2
  have hap : Hid (Apt r0 p0) := apt_of (fun b h => (Row.lt hr0 b h).2) (fun b h => (Row.lt hp0 b h).1)
  have hp2 : Hid (Nl w2 w.heap.size p0 (D * 2 ^ 0)) := Row.mono hp0 hb1.size
  have hbw : Hid (Below w.heap.size w w2) := hb1.trans (hb2.mono hb1.size)
  clear hr0 hb1 hv1 hp0 hb2
  go_wp2_with fail
  go_loopw [4, 5, 7, 21] (fun sq sr sp si wr => ∃ (i q R : Nat), i ≤ 0 + 1 ∧ sq = .int .u64 q ∧ si = .int .i64 i ∧ Hid (N = q * (D * 2 ^ (0 + 1 - i)) + R ∧ R < D * 2 ^ (0 + 1 - i)) ∧ Hid (Nl wr w.heap.size sr R) ∧ Hid (Nl wr w.heap.size sp (D * 2 ^ 0 / 2 ^ i)) ∧ Hid (Apt sr sp) ∧ Hid (Below w.heap.size w wr)) (fun _ _ _ si _ => 0 + 1 - (intOf si).toNat)
  case atStart => exact ⟨0, 0, N, by omega, rfl, rfl, ⟨by rw [Nat.zero_mul, Nat.zero_add], hNs.out⟩, hr2, by rw [Nat.pow_zero, Nat.div_one]; exact hp2, hap, hbw⟩
  case round =>
    clear hr2 hap hp2 hbw
    obtain ⟨i, q, R, hi, rfl, rfl, hinv, hr, hp, hap, hbl⟩ := hrel
    have hsz := hbl.out.size
    by_cases hlt : i < 0 + 1
    · have hlt' : (i : Int) < 1 := by omega
      have hj : 0 + 1 - i = (0 - i) + 1 := by omega
      have hR1 : Wd.nw W64 R ≤ 1000000 := Nat.le_trans (Wd.nw_mono W64_2 (show R ≤ N by have := hinv.out.1; omega)) hN1
      have hP1 : Wd.nw W64 (D * 2 ^ 0 / 2 ^ i) ≤ 1000000 := Nat.le_trans (Wd.nw_mono W64_2 (Nat.div_le_self _ _)) (by omega)
      have hpe : Hid (D * 2 ^ 0 / 2 ^ i = D * 2 ^ (0 - i)) := ov_part (by omega)
      have hpn : Hid (D * 2 ^ 0 / 2 ^ i / 2 = D * 2 ^ 0 / 2 ^ (i + 1)) := (by rw [Nat.pow_succ, Nat.div_div_eq_div_mul] : D * 2 ^ 0 / 2 ^ i / 2 = D * 2 ^ 0 / 2 ^ (i + 1))
      have hji : Hid (0 - i = 0 + 1 - (i + 1)) := (by omega : 0 - i = 0 + 1 - (i + 1))
      have hbel : Hid (Calls Tryz.prog 98 #[u5, u7] wr fun e w' => e = .returned (.bool (decide (R < D * 2 ^ 0 / 2 ^ i))) ∧ ∃ q, w' = wr.drewN q) := below_c _ _ R _ u5 u7 wr hr.out hp.out hR1
      generalize hPP : D * 2 ^ 0 / 2 ^ i = P at hp hpe hpn hP1 hbel
      have hRPs : Hid ((R < P → N = 2 * q * P + R) ∧ (¬ R < P → N = (2 * q + 1) * P + (R - P) ∧ R - P < P)) := by
        show _ ∧ _
        rw [hpe.out]
        exact ov_step (hj ▸ hinv.out.1) (hj ▸ hinv.out.2)
      clear hPP hj
      by_cases hRP : R < P
      · have hdec : decide (R < P) = true := decide_eq_true hRP
        rw [hdec] at hbel
        have hNe : Hid (N = 2 * q * P + R) := hRPs.out.1 hRP
        have hqs : 2 * q < 18446744073709551616 := ov_small (j := 0 - i) (R := R) hD.out hq.out (by rw [← hpe.out]; exact hNe.out)
        have hRPH : Hid (R < P) := hRP
        clear hdec hRP hRPs hinv
        go_wp2_with fail
        refine hbel.out.mono ?_
        rintro e w' ⟨rfl, qq, rfl⟩
        clear hbel
        go_wp2_with fail
        refine (halve_c w.heap.size P u7 (wr.drewN qq) hp.out hP1).mono ?_
        rintro e w3 ⟨p', rfl, hp', hpo, hg⟩
        have hr3 : Hid (Nl w3 w.heap.size u5 R) := Row.kept (w := wr.drewN qq) hr.out hg (fun b hb e => hap.out b hb e.symm)
        have hap3 : Hid (Apt u5 p') := fun b hb h => hap.out b hb (by rw [← hpo]; exact h)
        have hb3 : Hid (Below w.heap.size w w3) := (below_drewN hbl.out qq).grown hg hsz (fun b hb => (Row.lt hp.out b hb).1)
        clear hg hpo hr hap hbl hp
        go_wp2
        go_roundw
        case rel => exact ⟨i + 1, 2 * q, R, by omega, by go_num, by go_num, ⟨by rw [← hji.out, ← hpe.out]; exact hNe.out, by rw [← hji.out, ← hpe.out]; exact hRPH.out⟩, hr3, by rw [← hpn.out]; exact hp', hap3, hb3⟩
        case measure => simp [intOf]; omega
      · have hdec : decide (R < P) = false := decide_eq_false hRP
        rw [hdec] at hbel
        have hNe : Hid (N = (2 * q + 1) * P + (R - P) ∧ R - P < P) := hRPs.out.2 hRP
        have hqs : 2 * q + 1 < 18446744073709551616 := ov_small (j := 0 - i) (R := R - P) hD.out hq.out (by rw [← hpe.out]; exact hNe.out.1)
        have hor := or_one q hqs
        have hRPH : Hid (P ≤ R) := (by omega : P ≤ R)
        clear hdec hRP hRPs hinv
        go_wp2_with fail
        refine hbel.out.mono ?_
        rintro e w' ⟨rfl, qq, rfl⟩
        clear hbel
        go_wp2_with fail
        refine (minus_c w.heap.size w.heap.size R P u5 u7 (wr.drewN qq) hr.out hp.out hR1 hRPH.out hap.out).mono ?_
        rintro e w3 ⟨r', rfl, hr', hro, hg⟩
        have hp3 : Hid (Nl w3 w.heap.size u7 P) := Row.kept (w := wr.drewN qq) hp.out hg (fun b hb e => hap.out b e.symm hb)
        have hap3 : Hid (Apt r' u7) := fun b hb h => hap.out b (by rw [← hro]; exact hb) h
        have hb3 : Hid (Below w.heap.size w w3) := (below_drewN hbl.out qq).grown hg hsz (fun b hb => (Row.lt hr.out b hb).1)
        have hr3 : Hid (Nl w3 w.heap.size r' (R - P)) := hr'
        clear hg hro hr hap hbl hp hr'
        go_wp2_with fail
        refine (halve_c w.heap.size P u7 w3 hp3.out hP1).mono ?_
        rintro e w4 ⟨p', rfl, hp', hpo, hg⟩
        have hsz3 := hb3.out.size
        have hr4 : Hid (Nl w4 w.heap.size r' (R - P)) := Row.kept hr3.out hg (fun b hb e => hap3.out b hb e.symm)
        have hap4 : Hid (Apt r' p') := fun b hb h => hap3.out b hb (by rw [← hpo]; exact h)
        have hb4 : Hid (Below w.heap.size w w4) := hb3.out.grown hg hsz3 (fun b hb => (Row.lt hp3.out b hb).1)
        clear hg hpo hr3 hap3 hb3 hp3
        go_wp2
        go_roundw
        case rel => exact ⟨i + 1, 2 * q + 1, R - P, by omega, by go_num, by go_num, ⟨by rw [← hji.out, ← hpe.out]; exact hNe.out.1, by rw [← hji.out, ← hpe.out]; exact hNe.out.2⟩, hr4, by rw [← hpn.out]; exact hp', hap4, hb4⟩
        case measure => simp [intOf]; omega
    · have hlt' : decide ((i : Int) < 1) = false := decide_eq_false (by omega)
      have hi1 : i = 0 + 1 := by omega
      have hfin : Hid (N / D = q ∧ N % D = R) := by
        obtain ⟨e1, e2⟩ := hinv.out
        rw [hi1, Nat.sub_self, Nat.pow_zero, Nat.mul_one] at e1 e2
        exact (Nat.div_mod_unique hD.out).2 ⟨by rw [e1, Nat.mul_comm q, Nat.add_comm], e2⟩
      clear hi1 hinv
      go_wp2
      go_ret2
      exact ⟨_, by rw [hfin.out.1]; rfl, by rw [hfin.out.2]; exact hr.out, hbl.out⟩
theorem over_c (B C N D k : Nat) (u v : Value) (w : World) (hu : Nl w B u N) (hv : Nl w C v D) (hD : 0 < D) (hq : N / D < 18446744073709551616) (hk : k ≤ 15000) (hNk : Wd.nw W64 N ≤ k) (hDk : Wd.nw W64 D ≤ k) :
    Calls Tryz.prog 77 #[u, v] w fun e w' => ∃ v', e = .returned (.tuple #[.int .u64 ((N / D : Nat) : Int), v']) ∧ Nl w' w.heap.size v' (N % D) ∧ Below w.heap.size w w' := by
  by_cases h : bitLen D < bitLen N
  · exact over_a B C N D k u v w hu hv hD hq hk hNk hDk h
  · exact over_b B C N D k u v w hu hv hD hq hk hNk hDk (by omega)
end Go.Proofs.YtoojjefndkdnpaaGreatDoor
