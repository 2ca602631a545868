/-
  The program's nearestSize: the nearest float's size.
-/
import Derived.Test.YtbpncapdjolanaaGreatDoorRnd
namespace Go.Proofs.YtbpncapdjolanaaGreatDoor
open Flo Go.RowKit
theorem ns_quot {n d A B : Nat} (hn : 0 < n) (hd : 0 < d) (h : bitLen n + A = bitLen d + B + 55) : 2 ^ 54 ≤ n * 2 ^ A / (d * 2 ^ B) ∧ n * 2 ^ A / (d * 2 ^ B) < 2 ^ 56 := by
  have pA : 0 < 2 ^ A := Nat.pow_pos (by decide)
  have pB : 0 < 2 ^ B := Nat.pow_pos (by decide)
  have hb : 0 < d * 2 ^ B := Nat.mul_pos hd pB
  have n1 := bitLen_lo hn
  have n2 := bitLen_hi n
  have d1 := bitLen_lo hd
  have d2 := bitLen_hi d
  have n3 := bitLen_pos hn
  have d3 := bitLen_pos hd
  constructor
  · rw [Nat.le_div_iff_mul_le hb]
    calc 2 ^ 54 * (d * 2 ^ B) ≤ 2 ^ 54 * (2 ^ bitLen d * 2 ^ B) := Nat.mul_le_mul_left _ (Nat.mul_le_mul_right _ (Nat.le_of_lt d2))
      _ = 2 ^ (bitLen n - 1) * 2 ^ A := by rw [← Nat.pow_add, ← Nat.pow_add, ← Nat.pow_add]; congr 1; omega
      _ ≤ n * 2 ^ A := Nat.mul_le_mul_right _ n1
  · rw [Nat.div_lt_iff_lt_mul hb]
    calc n * 2 ^ A < 2 ^ bitLen n * 2 ^ A := Nat.mul_lt_mul_of_pos_right n2 pA
      _ = 2 ^ 56 * (2 ^ (bitLen d - 1) * 2 ^ B) := by rw [← Nat.pow_add, ← Nat.pow_add, ← Nat.pow_add]; congr 1; omega
      _ ≤ 2 ^ 56 * (d * 2 ^ B) := Nat.mul_le_mul_left _ (Nat.mul_le_mul_right _ d1)
theorem or_one' (q : Nat) (h : q < 18446744073709551616) : bits .or .u64 (q : Int) 1 = ((q / 2 * 2 + 1 : Nat) : Int) := by
  rw [show (1 : Int) = ((1 : Nat) : Int) from rfl, bits_or_u64_nat _ _ h (by omega)]
  congr 1
  have h1 := Nat.two_pow_add_eq_or_of_lt (i := 1) (b := 1) (by omega) (q / 2)
  rw [Nat.pow_one] at h1
  rw [Nat.mul_comm (q / 2)]
  rcases Nat.mod_two_eq_zero_or_one q with h2 | h2
  · have e : 2 * (q / 2) = q := by omega
    rw [e] at h1 ⊢
    exact h1.symm
  · have e : q = 2 * (q / 2) + 1 := by omega
    rw [h1] at e
    rw [e, Nat.or_assoc, Nat.or_self, ← e, h1]
    exact e
/-- what nearestSize rounds, and to what -/
theorem ns_fin {n d A B q' : Nat} {p : Int} (hn : 0 < n) (hd : 0 < d) (hp : p = (bitLen n : Int) - bitLen d - 55) (hA : (A : Int) = max (-p) 0) (hB : (B : Int) = max p 0)
    (hq : q' = if n * 2 ^ A % (d * 2 ^ B) = 0 then n * 2 ^ A / (d * 2 ^ B) else n * 2 ^ A / (d * 2 ^ B) / 2 * 2 + 1) (h1 : -1137 ≤ p) :
    ∃ l drop E : Nat, l = bitLen q' ∧ q' < 2 ^ 56 ∧ 55 ≤ l ∧ l ≤ 56 ∧ (drop : Int) = max ((l : Int) - 53) (-1074 - p) ∧ (E : Int) = p + drop + 1074 ∧ Rd.Near n d (E * 2 ^ 52 + Rd.rnd q' drop) := by
  obtain ⟨q1, q2⟩ := ns_quot hn hd (show bitLen n + A = bitLen d + B + 55 by omega)
  have r1 : 2 ^ 54 ≤ q' := by rw [hq]; split <;> omega
  have r2 : q' < 2 ^ 56 := by rw [hq]; split <;> omega
  have l2 : bitLen q' ≤ 56 := bitLen_lt r2
  have l1 : 55 ≤ bitLen q' := by
    apply Nat.le_of_not_lt
    intro h
    have h3 := bitLen_hi q'
    have h4 : 2 ^ bitLen q' ≤ 2 ^ 54 := Nat.pow_le_pow_right (by decide) (by omega)
    omega
  obtain ⟨drop, hdr⟩ : ∃ drop : Nat, (drop : Int) = max ((bitLen q' : Int) - 53) (-1074 - p) := ⟨(max ((bitLen q' : Int) - 53) (-1074 - p)).toNat, by omega⟩
  obtain ⟨E, hE⟩ : ∃ E : Nat, (E : Int) = p + drop + 1074 := ⟨(p + drop + 1074).toNat, by omega⟩
  refine ⟨bitLen q', drop, E, rfl, r2, l1, l2, hdr, hE, ?_⟩
  obtain ⟨k, rfl⟩ : ∃ k, drop = k + 2 := ⟨drop - 2, by omega⟩
  refine Rd.near_mark (A := A) (B := B) hd (by omega) hq ?_ ?_
  · exact Nat.lt_of_lt_of_le (bitLen_hi q') (Nat.pow_le_pow_right (by decide) (by omega))
  · by_cases h0 : E = 0
    · exact .inl h0
    · right
      refine Nat.le_trans ?_ (bitLen_lo (show 0 < q' by omega))
      exact Nat.pow_le_pow_right (by decide) (by omega)
theorem nw_zero_iff (n : Nat) : Wd.nw W64 n = 0 ↔ n = 0 := ⟨nl_nil, fun h => by rw [h]; exact Wd.nw_zero _⟩
set_option maxRecDepth 100000 in
set_option maxHeartbeats 400000 in
theorem nearestSize_a (B C n d : Nat) (u v : Value) (w : World) (hu : Nl w B u n) (hv : Nl w C v d) (hn : Hid (0 < n)) (hd : Hid (0 < d)) (hn1 : Wd.nw W64 n ≤ 2000) (hd1 : Wd.nw W64 d ≤ 2000) (h1 : bitLen d ≤ bitLen n + 1082) (h2 : bitLen n ≤ bitLen d + 1255) (hcase : bitLen n < bitLen d + 55) :
    Calls Tryz.prog 49 #[u, v] w fun e w' => ∃ s : Nat, e = .returned (.int .u64 (s : Int)) ∧ Rd.Near n d s ∧ Below w.heap.size w w' := by
  have hlN := bitLen_nw n
  have hlD := bitLen_nw d
  have hlu : Hid (Calls Tryz.prog 75 #[u] w fun e w' => e = .returned (.int .i64 (bitLen n : Nat)) ∧ w = w') := length_c B n u w hu (by omega)
  have hlv : Hid (Calls Tryz.prog 75 #[v] w fun e w' => e = .returned (.int .i64 (bitLen d : Nat)) ∧ w = w') := length_c C d v w hv (by omega)
  have hB1 : bitLen n ≤ 128000 := by omega
  have hB2 : bitLen d ≤ 128000 := by omega
  obtain ⟨p, hp⟩ : ∃ p : Int, (bitLen n : Int) - (bitLen d : Int) - 55 = p := ⟨_, rfl⟩
  obtain ⟨a, ha⟩ : ∃ a : Nat, -p = (a : Int) := ⟨(-p).toNat, by omega⟩
  have hal : a ≤ 1137 := by omega
  have hp0 : ¬ (0 < p) := by omega
  have ha0 : 0 < a := by omega
  have hq1 : Hid (n * 2 ^ a / (d * 2 ^ 0) < 18446744073709551616) := Nat.lt_trans (ns_quot hn.out hd.out (by omega)).2 (by decide)
  have hkA : Hid (Wd.nw W64 (n * 2 ^ a) ≤ 15000) := ov_nw (k := 15000) (by omega)
  have hkB : Hid (Wd.nw W64 (d * 2 ^ 0) ≤ 15000) := ov_nw (k := 15000) (by omega)
  have hfin : Hid (∀ q' : Nat, q' = (if n * 2 ^ a % (d * 2 ^ 0) = 0 then n * 2 ^ a / (d * 2 ^ 0) else n * 2 ^ a / (d * 2 ^ 0) / 2 * 2 + 1) → ∃ l drop E : Nat, l = bitLen q' ∧ q' < 2 ^ 56 ∧ 55 ≤ l ∧ l ≤ 56 ∧ (drop : Int) = max ((l : Int) - 53) (-1074 - p) ∧ (E : Int) = p + drop + 1074 ∧ Rd.Near n d (E * 2 ^ 52 + Rd.rnd q' drop)) := fun q' hq => ns_fin hn.out hd.out hp.symm (by omega) (by omega) hq (by omega)
  clear hlN hlD h1 h2 hcase
  generalize bitLen n = lN at *
  generalize bitLen d = lD at *
  go_enter Tryz.func49, Tryz.ntmps49
  go_wp2_with fail
  refine hlu.out.mono ?_
  rintro e w' ⟨rfl, rfl⟩
  go_wp2_with fail
  refine hlv.out.mono ?_
  rintro e w' ⟨rfl, rfl⟩
  clear hlu hlv
  go_wp2_with fail
  refine (doubled_c B n a u w hu (by omega) (by omega)).mono ?_
  rintro e w1 ⟨u1, rfl, hu1, hb1⟩
  have hv1 : Hid (Nl w1 C v d) := Row.under hv hb1
  go_wp2_with fail
  refine (doubled_z C d  v w1 hv1.out (by omega)).mono ?_
  rintro e w2 ⟨v2, rfl, hv2, hb2⟩
  have hu2 : Hid (Nl w2 w.heap.size u1 (n * 2 ^ a)) := Row.under hu1 hb2
  have hvH : Hid (Nl w2 w1.heap.size v2 (d * 2 ^ 0)) := hv2
  have hbw2 : Hid (Below w.heap.size w w2) := hb1.trans (hb2.mono hb1.size)
  clear hv1 hv2 hu1 hb1 hb2
  go_wp2_with fail
  refine (over_c w.heap.size w1.heap.size (n * 2 ^ a) (d * 2 ^ 0) 15000 u1 v2 w2 hu2.out hvH.out (Nat.mul_pos hd.out (Nat.pow_pos (by decide))) hq1.out (by decide) hkA.out hkB.out).mono ?_
  rintro e w3 ⟨r3, rfl, hr3, hb3⟩
  have hbw3 : Hid (Below w.heap.size w w3) := hbw2.out.trans (hb3.mono hbw2.out.size)
  obtain ⟨ao, cap, rfl⟩ := Row.slice hr3
  have hz := nw_zero_iff (n * 2 ^ a % (d * 2 ^ 0))
  have hfin2 := hfin.out _ rfl
  have hq1' := hq1.out
  clear hr3 hb3 hu2 hvH hbw2 hfin hq1 hkA hkB hu hv
  generalize n * 2 ^ a % (d * 2 ^ 0) = R at *
  generalize n * 2 ^ a / (d * 2 ^ 0) = q at *
  by_cases h0 : R = 0
  · have hz0 : Wd.nw W64 R = 0 := hz.2 h0
    rw [if_pos h0] at hfin2
    obtain ⟨l, drop, E, g1, g2, g3, g4, g5, g6, g7⟩ := hfin2
    have gN : Hid (Rd.Near n d (E * 2 ^ 52 + Rd.rnd q drop)) := g7
    have gR : Hid (Calls Tryz.prog 78 #[.int .u64 q, .int .i64 p] w3 fun e w' => e = .returned (.int .u64 ((E * 2 ^ 52 + Rd.rnd q drop : Nat) : Int)) ∧ w3 = w') := roundedSize_c q l drop E p w3 g2 g1 g3 g4 (by omega) (by omega) g5 g6
    clear g1 g2 g3 g4 g5 g6 g7 hz h0
    go_wp2_with fail
    refine gR.out.mono ?_
    rintro e w' ⟨rfl, rfl⟩
    go_wp2
    go_ret
    exact ⟨_, rfl, gN.out, hbw3.out⟩
  · have hz0 : 0 < Wd.nw W64 R := Nat.pos_of_ne_zero fun h => h0 (hz.1 h)
    rw [if_neg h0] at hfin2
    have hor := or_one' q hq1'
    obtain ⟨l, drop, E, g1, g2, g3, g4, g5, g6, g7⟩ := hfin2
    generalize q / 2 * 2 + 1 = q' at *
    have gN : Hid (Rd.Near n d (E * 2 ^ 52 + Rd.rnd q' drop)) := g7
    have gR : Hid (Calls Tryz.prog 78 #[.int .u64 q', .int .i64 p] w3 fun e w' => e = .returned (.int .u64 ((E * 2 ^ 52 + Rd.rnd q' drop : Nat) : Int)) ∧ w3 = w') := roundedSize_c q' l drop E p w3 g2 g1 g3 g4 (by omega) (by omega) g5 g6
    clear g1 g2 g3 g4 g5 g6 g7 hz h0
    go_wp2_with fail
    refine gR.out.mono ?_
    rintro e w' ⟨rfl, rfl⟩
    go_wp2
    go_ret
    exact ⟨_, rfl, gN.out, hbw3.out⟩
set_option maxRecDepth 100000 in
set_option maxHeartbeats 400000 in
theorem nearestSize_b (B C n d : Nat) (u v : Value) (w : World) (hu : Nl w B u n) (hv : Nl w C v d) (hn : Hid (0 < n)) (hd : Hid (0 < d)) (hn1 : Wd.nw W64 n ≤ 2000) (hd1 : Wd.nw W64 d ≤ 2000) (h1 : bitLen d ≤ bitLen n + 1082) (h2 : bitLen n ≤ bitLen d + 1255) (hcase : bitLen d + 55 < bitLen n) :
    Calls Tryz.prog 49 #[u, v] w fun e w' => ∃ s : Nat, e = .returned (.int .u64 (s : Int)) ∧ Rd.Near n d s ∧ Below w.heap.size w w' := by
  have hlN := bitLen_nw n
  have hlD := bitLen_nw d
  have hlu : Hid (Calls Tryz.prog 75 #[u] w fun e w' => e = .returned (.int .i64 (bitLen n : Nat)) ∧ w = w') := length_c B n u w hu (by omega)
  have hlv : Hid (Calls Tryz.prog 75 #[v] w fun e w' => e = .returned (.int .i64 (bitLen d : Nat)) ∧ w = w') := length_c C d v w hv (by omega)
  have hB1 : bitLen n ≤ 128000 := by omega
  have hB2 : bitLen d ≤ 128000 := by omega
  obtain ⟨b, hp⟩ : ∃ b : Nat, (bitLen n : Int) - (bitLen d : Int) - 55 = (b : Int) := ⟨((bitLen n : Int) - (bitLen d : Int) - 55).toNat, by omega⟩
  have hbl : b ≤ 1200 := by omega
  have hb0 : 0 < b := by omega
  have hq1 : Hid (n * 2 ^ 0 / (d * 2 ^ b) < 18446744073709551616) := Nat.lt_trans (ns_quot hn.out hd.out (by omega)).2 (by decide)
  have hkA : Hid (Wd.nw W64 (n * 2 ^ 0) ≤ 15000) := ov_nw (k := 15000) (by omega)
  have hkB : Hid (Wd.nw W64 (d * 2 ^ b) ≤ 15000) := ov_nw (k := 15000) (by omega)
  have hfin : Hid (∀ q' : Nat, q' = (if n * 2 ^ 0 % (d * 2 ^ b) = 0 then n * 2 ^ 0 / (d * 2 ^ b) else n * 2 ^ 0 / (d * 2 ^ b) / 2 * 2 + 1) → ∃ l drop E : Nat, l = bitLen q' ∧ q' < 2 ^ 56 ∧ 55 ≤ l ∧ l ≤ 56 ∧ (drop : Int) = max ((l : Int) - 53) (-1074 - (b : Int)) ∧ (E : Int) = (b : Int) + drop + 1074 ∧ Rd.Near n d (E * 2 ^ 52 + Rd.rnd q' drop)) := fun q' hq => ns_fin hn.out hd.out hp.symm (by omega) (by omega) hq (by omega)
  clear hlN hlD h1 h2 hcase
  generalize bitLen n = lN at *
  generalize bitLen d = lD at *
  go_enter Tryz.func49, Tryz.ntmps49
  go_wp2_with fail
  refine hlu.out.mono ?_
  rintro e w' ⟨rfl, rfl⟩
  go_wp2_with fail
  refine hlv.out.mono ?_
  rintro e w' ⟨rfl, rfl⟩
  clear hlu hlv
  go_wp2_with fail
  refine (doubled_z B n  u w hu (by omega)).mono ?_
  rintro e w1 ⟨u1, rfl, hu1, hb1⟩
  have hv1 : Hid (Nl w1 C v d) := Row.under hv hb1
  go_wp2_with fail
  refine (doubled_c C d b v w1 hv1.out (by omega) (by omega)).mono ?_
  rintro e w2 ⟨v2, rfl, hv2, hb2⟩
  have hu2 : Hid (Nl w2 w.heap.size u1 (n * 2 ^ 0)) := Row.under hu1 hb2
  have hvH : Hid (Nl w2 w1.heap.size v2 (d * 2 ^ b)) := hv2
  have hbw2 : Hid (Below w.heap.size w w2) := hb1.trans (hb2.mono hb1.size)
  clear hv1 hv2 hu1 hb1 hb2
  go_wp2_with fail
  refine (over_c w.heap.size w1.heap.size (n * 2 ^ 0) (d * 2 ^ b) 15000 u1 v2 w2 hu2.out hvH.out (Nat.mul_pos hd.out (Nat.pow_pos (by decide))) hq1.out (by decide) hkA.out hkB.out).mono ?_
  rintro e w3 ⟨r3, rfl, hr3, hb3⟩
  have hbw3 : Hid (Below w.heap.size w w3) := hbw2.out.trans (hb3.mono hbw2.out.size)
  obtain ⟨ao, cap, rfl⟩ := Row.slice hr3
  have hz := nw_zero_iff (n * 2 ^ 0 % (d * 2 ^ b))
  have hfin2 := hfin.out _ rfl
  have hq1' := hq1.out
  clear hr3 hb3 hu2 hvH hbw2 hfin hq1 hkA hkB hu hv
  generalize n * 2 ^ 0 % (d * 2 ^ b) = R at *
  generalize n * 2 ^ 0 / (d * 2 ^ b) = q at *
  by_cases h0 : R = 0
  · have hz0 : Wd.nw W64 R = 0 := hz.2 h0
    rw [if_pos h0] at hfin2
    obtain ⟨l, drop, E, g1, g2, g3, g4, g5, g6, g7⟩ := hfin2
    have gN : Hid (Rd.Near n d (E * 2 ^ 52 + Rd.rnd q drop)) := g7
    have gR : Hid (Calls Tryz.prog 78 #[.int .u64 q, .int .i64 (b : Int)] w3 fun e w' => e = .returned (.int .u64 ((E * 2 ^ 52 + Rd.rnd q drop : Nat) : Int)) ∧ w3 = w') := roundedSize_c q l drop E (b : Int) w3 g2 g1 g3 g4 (by omega) (by omega) g5 g6
    clear g1 g2 g3 g4 g5 g6 g7 hz h0
    go_wp2_with fail
    refine gR.out.mono ?_
    rintro e w' ⟨rfl, rfl⟩
    go_wp2
    go_ret
    exact ⟨_, rfl, gN.out, hbw3.out⟩
  · have hz0 : 0 < Wd.nw W64 R := Nat.pos_of_ne_zero fun h => h0 (hz.1 h)
    rw [if_neg h0] at hfin2
    have hor := or_one' q hq1'
    obtain ⟨l, drop, E, g1, g2, g3, g4, g5, g6, g7⟩ := hfin2
    generalize q / 2 * 2 + 1 = q' at *
    have gN : Hid (Rd.Near n d (E * 2 ^ 52 + Rd.rnd q' drop)) := g7
    have gR : Hid (Calls Tryz.prog 78 #[.int .u64 q', .int .i64 (b : Int)] w3 fun e w' => e = .returned (.int .u64 ((E * 2 ^ 52 + Rd.rnd q' drop : Nat) : Int)) ∧ w3 = w') := roundedSize_c q' l drop E (b : Int) w3 g2 g1 g3 g4 (by omega) (by omega) g5 g6
    clear g1 g2 g3 g4 g5 g6 g7 hz h0
    go_wp2_with fail
    refine gR.out.mono ?_
    rintro e w' ⟨rfl, rfl⟩
    go_wp2
    go_ret
    exact ⟨_, rfl, gN.out, hbw3.out⟩
set_option maxRecDepth 100000 in
set_option maxHeartbeats 400000 in
theorem nearestSize_z (B C n d : Nat) (u v : Value) (w : World) (hu : Nl w B u n) (hv : Nl w C v d) (hn : Hid (0 < n)) (hd : Hid (0 < d)) (hn1 : Wd.nw W64 n ≤ 2000) (hd1 : Wd.nw W64 d ≤ 2000) (hcase : bitLen n = bitLen d + 55) :
    Calls Tryz.prog 49 #[u, v] w fun e w' => ∃ s : Nat, e = .returned (.int .u64 (s : Int)) ∧ Rd.Near n d s ∧ Below w.heap.size w w' := by
  have hlN := bitLen_nw n
  have hlD := bitLen_nw d
  have hlu : Hid (Calls Tryz.prog 75 #[u] w fun e w' => e = .returned (.int .i64 (bitLen n : Nat)) ∧ w = w') := length_c B n u w hu (by omega)
  have hlv : Hid (Calls Tryz.prog 75 #[v] w fun e w' => e = .returned (.int .i64 (bitLen d : Nat)) ∧ w = w') := length_c C d v w hv (by omega)
  have hB1 : bitLen n ≤ 128000 := by omega
  have hB2 : bitLen d ≤ 128000 := by omega
  have hp : (bitLen n : Int) - (bitLen d : Int) - 55 = 0 := by omega
  have hq1 : Hid (n * 2 ^ 0 / (d * 2 ^ 0) < 18446744073709551616) := Nat.lt_trans (ns_quot hn.out hd.out (by omega)).2 (by decide)
  have hkA : Hid (Wd.nw W64 (n * 2 ^ 0) ≤ 15000) := ov_nw (k := 15000) (by omega)
  have hkB : Hid (Wd.nw W64 (d * 2 ^ 0) ≤ 15000) := ov_nw (k := 15000) (by omega)
  have hfin : Hid (∀ q' : Nat, q' = (if n * 2 ^ 0 % (d * 2 ^ 0) = 0 then n * 2 ^ 0 / (d * 2 ^ 0) else n * 2 ^ 0 / (d * 2 ^ 0) / 2 * 2 + 1) → ∃ l drop E : Nat, l = bitLen q' ∧ q' < 2 ^ 56 ∧ 55 ≤ l ∧ l ≤ 56 ∧ (drop : Int) = max ((l : Int) - 53) (-1074 - (0 : Int)) ∧ (E : Int) = (0 : Int) + drop + 1074 ∧ Rd.Near n d (E * 2 ^ 52 + Rd.rnd q' drop)) := fun q' hq => ns_fin hn.out hd.out hp.symm (by omega) (by omega) hq (by omega)
  clear hlN hlD hcase
  generalize bitLen n = lN at *
  generalize bitLen d = lD at *
  go_enter Tryz.func49, Tryz.ntmps49
  go_wp2_with fail
  refine hlu.out.mono ?_
  rintro e w' ⟨rfl, rfl⟩
  go_wp2_with fail
  refine hlv.out.mono ?_
  rintro e w' ⟨rfl, rfl⟩
  clear hlu hlv
  go_wp2_with fail
  refine (doubled_z B n  u w hu (by omega)).mono ?_
  rintro e w1 ⟨u1, rfl, hu1, hb1⟩
  have hv1 : Hid (Nl w1 C v d) := Row.under hv hb1
  go_wp2_with fail
  refine (doubled_z C d v w1 hv1.out (by omega)).mono ?_
  rintro e w2 ⟨v2, rfl, hv2, hb2⟩
  have hu2 : Hid (Nl w2 w.heap.size u1 (n * 2 ^ 0)) := Row.under hu1 hb2
  have hvH : Hid (Nl w2 w1.heap.size v2 (d * 2 ^ 0)) := hv2
  have hbw2 : Hid (Below w.heap.size w w2) := hb1.trans (hb2.mono hb1.size)
  clear hv1 hv2 hu1 hb1 hb2
  go_wp2_with fail
  refine (over_c w.heap.size w1.heap.size (n * 2 ^ 0) (d * 2 ^ 0) 15000 u1 v2 w2 hu2.out hvH.out (Nat.mul_pos hd.out (Nat.pow_pos (by decide))) hq1.out (by decide) hkA.out hkB.out).mono ?_
  rintro e w3 ⟨r3, rfl, hr3, hb3⟩
  have hbw3 : Hid (Below w.heap.size w w3) := hbw2.out.trans (hb3.mono hbw2.out.size)
  obtain ⟨ao, cap, rfl⟩ := Row.slice hr3
  have hz := nw_zero_iff (n * 2 ^ 0 % (d * 2 ^ 0))
  have hfin2 := hfin.out _ rfl
  have hq1' := hq1.out
  clear hr3 hb3 hu2 hvH hbw2 hfin hq1 hkA hkB hu hv
  generalize n * 2 ^ 0 % (d * 2 ^ 0) = R at *
  generalize n * 2 ^ 0 / (d * 2 ^ 0) = q at *
  by_cases h0 : R = 0
  · have hz0 : Wd.nw W64 R = 0 := hz.2 h0
    rw [if_pos h0] at hfin2
    obtain ⟨l, drop, E, g1, g2, g3, g4, g5, g6, g7⟩ := hfin2
    have gN : Hid (Rd.Near n d (E * 2 ^ 52 + Rd.rnd q drop)) := g7
    have gR : Hid (Calls Tryz.prog 78 #[.int .u64 q, .int .i64 0] w3 fun e w' => e = .returned (.int .u64 ((E * 2 ^ 52 + Rd.rnd q drop : Nat) : Int)) ∧ w3 = w') := roundedSize_c q l drop E (0 : Int) w3 g2 g1 g3 g4 (by omega) (by omega) g5 g6
    clear g1 g2 g3 g4 g5 g6 g7 hz h0
    go_wp2_with fail
    refine gR.out.mono ?_
    rintro e w' ⟨rfl, rfl⟩
    go_wp2
    go_ret
    exact ⟨_, rfl, gN.out, hbw3.out⟩
  · have hz0 : 0 < Wd.nw W64 R := Nat.pos_of_ne_zero fun h => h0 (hz.1 h)
    rw [if_neg h0] at hfin2
    have hor := or_one' q hq1'
    obtain ⟨l, drop, E, g1, g2, g3, g4, g5, g6, g7⟩ := hfin2
    generalize q / 2 * 2 + 1 = q' at *
    have gN : Hid (Rd.Near n d (E * 2 ^ 52 + Rd.rnd q' drop)) := g7
    have gR : Hid (Calls Tryz.prog 78 #[.int .u64 q', .int .i64 0] w3 fun e w' => e = .returned (.int .u64 ((E * 2 ^ 52 + Rd.rnd q' drop : Nat) : Int)) ∧ w3 = w') := roundedSize_c q' l drop E (0 : Int) w3 g2 g1 g3 g4 (by omega) (by omega) g5 g6
    clear g1 g2 g3 g4 g5 g6 g7 hz h0
    go_wp2_with fail
    refine gR.out.mono ?_
    rintro e w' ⟨rfl, rfl⟩
    go_wp2
    go_ret
    exact ⟨_, rfl, gN.out, hbw3.out⟩
theorem nearestSize_c (B C n d : Nat) (u v : Value) (w : World) (hu : Nl w B u n) (hv : Nl w C v d) (hn : 0 < n) (hd : 0 < d) (hn1 : Wd.nw W64 n ≤ 2000) (hd1 : Wd.nw W64 d ≤ 2000) (h1 : bitLen d ≤ bitLen n + 1082) (h2 : bitLen n ≤ bitLen d + 1255) :
    Calls Tryz.prog 49 #[u, v] w fun e w' => ∃ s : Nat, e = .returned (.int .u64 (s : Int)) ∧ Rd.Near n d s ∧ Below w.heap.size w w' := by
  by_cases h : bitLen n < bitLen d + 55
  · exact nearestSize_a B C n d u v w hu hv hn hd hn1 hd1 h1 h2 h
  · by_cases h' : bitLen d + 55 < bitLen n
    · exact nearestSize_b B C n d u v w hu hv hn hd hn1 hd1 h1 h2 h'
    · exact nearestSize_z B C n d u v w hu hv hn hd hn1 hd1 (by omega)
end Go.Proofs.YtbpncapdjolanaaGreatDoor
