/-
  The contract of math/bits.Div64 where the upper word is not 0.
-/
import Derived.Test.YtkgecgkjmikihabDoorMod
namespace Go.Proofs.YtkgecgkjmikihabDoor
open Flo Go.RowKit Go.Lib

/-- the facts of one look at a guess -/
theorem look {q r b m : Nat} (hq : q < 4294967296) (hr : r < 4294967296) (hb : b < 4294967296) (hm : m < 4294967296) :
    ∃ c d t : Nat, c = q * b ∧ t = 4294967296 * r + m ∧ IntKind.u64.wrap ((q : Int) * (b : Int)) = (c : Int) ∧ IntKind.u64.wrap (4294967296 * (r : Int)) = (d : Int) ∧ IntKind.u64.wrap ((d : Int) + (m : Int)) = (t : Int) := by
  have h1 : q * b ≤ 4294967295 * 4294967295 := Nat.mul_le_mul (by omega) (by omega)
  refine ⟨q * b, 4294967296 * r, 4294967296 * r + m, rfl, rfl, ?_, ?_, ?_⟩
  · rw [castMul]; exact wrapId _ (by omega)
  · have e : (4294967296 : Int) * (r : Int) = ((4294967296 * r : Nat) : Int) := by omega
    rw [e]; exact wrapId _ (by omega)
  · rw [castAdd]; exact wrapId _ (by omega)
theorem wrap_pred {q : Nat} (h : 0 < q) (h2 : q < 18446744073709551616) : IntKind.u64.wrap ((q : Int) - 1) = ((q - 1 : Nat) : Int) := by
  rw [IntKind.wrap_u64]; omega
theorem wrap_plus {r a : Nat} (h : r < 4294967296) (h2 : a < 4294967296) : IntKind.u64.wrap ((r : Int) + (a : Int)) = ((r + a : Nat) : Int) := by
  rw [IntKind.wrap_u64]; omega

set_option maxHeartbeats 2000000 in
theorem div64_n (hi lo y : Nat) (w : World) (hl : lo < 18446744073709551616) (hy : y < 18446744073709551616) (h : hi < y) (h0 : 0 < hi) :
    Calls Tryd.prog 33 #[.int .u64 hi, .int .u64 lo, .int .u64 y] w fun e w' => e = .returned (.tuple #[.int .u64 (((hi * 18446744073709551616 + lo) / y : Nat) : Int), .int .u64 (((hi * 18446744073709551616 + lo) % y : Nat) : Int)]) ∧ ∃ k, w' = w.drewN k := by
  have h1 : ((y : Int) == 0) = false := beq_eq_false_iff_ne.2 (by omega)
  have h2 : decide ((y : Int) ≤ (hi : Int)) = false := decide_eq_false (by omega)
  have h3 : ((hi : Int) == 0) = false := beq_eq_false_iff_ne.2 (by omega)
  have hb := bitLen_lt (k := 64) hy
  obtain ⟨s, hs⟩ : ∃ s : Nat, s = 64 - bitLen y := ⟨_, rfl⟩
  obtain ⟨Y, u, v, a, b, m, n, hY, huv, huY, hY64, hv64, hYab, hvmn, ha1, ha2, hb2, hm2, hn2, hs64, e1, e2, e3, e4, e5, e6, e7⟩ := norm hy hl h h0 hs
  have hs' : (64 : Int) - (bitLen y : Nat) = (s : Int) := by omega
  have k1 : Hid (s = 64 - bitLen y ∧ Y = y * 2 ^ s ∧ u * 18446744073709551616 + v = (hi * 18446744073709551616 + lo) * 2 ^ s ∧ Y = a * 4294967296 + b ∧ v = m * 4294967296 + n) := ⟨hs, hY, huv, hYab, hvmn⟩
  have hYab' : Hid (Y = a * 4294967296 + b) := hYab
  clear hs hY huv hYab hvmn hb
  obtain ⟨q0, hq0⟩ : ∃ q0 : Nat, q0 = u / a := ⟨_, rfl⟩
  obtain ⟨r0, hr0⟩ : ∃ r0 : Nat, r0 = u % a := ⟨_, rfl⟩
  have dm := Nat.div_add_mod u a
  have r0a : r0 < a := by rw [hr0]; exact Nat.mod_lt _ (by omega)
  have hu0 : u = q0 * a + r0 := by rw [hq0, hr0, Nat.mul_comm]; exact dm.symm
  have q0g : Kn.Q u m Y ≤ q0 := by rw [hq0]; exact Kn.guess_ge hYab'.out (by omega) hm2
  have q0l : q0 ≤ 4294967297 := by rw [hq0]; exact Kn.guess_le hYab'.out ha1 hb2 huY
  have QB := Kn.Q_lt huY hm2
  have az : ((a : Int) == 0) = false := beq_eq_false_iff_ne.2 (by omega)
  have e8 : IntKind.u64.wrap ((u : Int) / (a : Int)) = (q0 : Int) := by rw [wrap_div a (by omega), hq0]
  have e9 : IntKind.u64.wrap ((u : Int) - IntKind.u64.wrap ((q0 : Int) * (a : Int))) = (r0 : Int) := by
    have : q0 * a ≤ u := by omega
    rw [castMul, wrapId _ (by omega), IntKind.wrap_u64]; omega
  have hu0' : Hid (u = q0 * a + r0 ∧ q0 = u / a ∧ r0 = u % a) := ⟨hu0, hq0, hr0⟩
  clear dm hu0 hq0 hr0
  go_enter Tryd.func33, Tryd.ntmps33
  go_upto_block 0 with (go_at_call 34; refine (lz_c _ _ hy).mono ?_; rintro e w' ⟨rfl, rfl⟩; rw [hs'])
  go_cut [15, 16] (fun sq sr wx => w = wx ∧ sq = .int .u64 (Kn.Q u m Y : Nat) ∧ ∃ r : Nat, sr = .int .u64 r)
  case first =>
    go_wp2_with fail
    go_loopg [15, 16] q0 (fun g sq sr wx => w = wx ∧ ∃ q r : Nat, Hid (u = q * a + r) ∧ Kn.Q u m Y ≤ q ∧ q ≤ 4294967297 ∧ r < 4294967296 ∧ g = q ∧ sq = .int .u64 q ∧ sr = .int .u64 r)
    case atStart => exact ⟨rfl, q0, r0, hu0'.out.1, q0g, q0l, by omega, rfl, rfl, rfl⟩
    case round =>
      obtain ⟨rfl, q, r, hu, hQ, hq, hr, rfl, rfl, rfl⟩ := hrel
      by_cases hlt : Kn.Q u m Y < gk
      · have c1 : IntKind.u64.wrap ((gk : Int) - 1) = ((gk - 1 : Nat) : Int) := wrap_pred (by omega) (by omega)
        have c2 := wrap_plus hr ha2
        have hu' : u = (gk - 1) * a + (r + a) := by
          have := hu.out
          have e : gk * a = (gk - 1) * a + a := by rw [← Nat.succ_mul]; congr 1; omega
          omega
        have c3 := Kn.break_le (n := m) hYab'.out (by omega) hb2 hu' (by omega)
        have hu'' : Hid (u = (gk - 1) * a + (r + a)) := hu'
        have key : Hid (4294967296 * r + m < gk * b) := (Kn.test_iff hYab'.out (by omega) hu.out).2 hlt
        clear hu'
        obtain ⟨q2, hq2⟩ : ∃ q2 : Nat, q2 = gk - 1 := ⟨_, rfl⟩
        obtain ⟨r2, hr2⟩ : ∃ r2 : Nat, r2 = r + a := ⟨_, rfl⟩
        rw [← hq2] at c1 c3 hu''
        rw [← hr2] at c2 c3 hu''
        have f1 : Kn.Q u m Y ≤ q2 := by omega
        have f2 : q2 ≤ 4294967296 := by omega
        have f3 : q2 < gk := by omega
        clear hq2 hr2
        by_cases hB : 4294967296 ≤ gk
        · have d1 : (4294967296 : Int) ≤ (gk : Int) := by omega
          by_cases hR : 4294967296 ≤ r2
          · have d2 : (4294967296 : Int) ≤ (r2 : Int) := by omega
            have hfin : Hid (q2 = Kn.Q u m Y) := (by have := c3 hR; omega : q2 = Kn.Q u m Y)
            clear c3
            go_wp2_with fail
            go_meet
            exact ⟨rfl, by rw [hfin.out], r2, rfl⟩
          · have d2 : decide ((4294967296 : Int) ≤ (r2 : Int)) = false := decide_eq_false (by omega)
            clear c3
            go_wp2_with fail
            go_roundg q2
            case measure => omega
            case rel => exact ⟨rfl, q2, r2, hu'', f1, by omega, by omega, rfl, rfl, rfl⟩
        · have d1 : decide ((4294967296 : Int) ≤ (gk : Int)) = false := decide_eq_false (by omega)
          obtain ⟨c, d, t, hc, ht, g1, g2, g3⟩ := look (q := gk) (r := r) (b := b) (m := m) (by omega) hr hb2 (by omega)
          have g4 : (t : Int) < (c : Int) := by have := key.out; omega
          clear hc ht
          by_cases hR : 4294967296 ≤ r2
          · have d2 : (4294967296 : Int) ≤ (r2 : Int) := by omega
            have hfin : Hid (q2 = Kn.Q u m Y) := (by have := c3 hR; omega : q2 = Kn.Q u m Y)
            clear c3
            go_wp2_with fail
            go_meet
            exact ⟨rfl, by rw [hfin.out], r2, rfl⟩
          · have d2 : decide ((4294967296 : Int) ≤ (r2 : Int)) = false := decide_eq_false (by omega)
            clear c3
            go_wp2_with fail
            go_roundg q2
            case measure => omega
            case rel => exact ⟨rfl, q2, r2, hu'', f1, by omega, by omega, rfl, rfl, rfl⟩
      · have hB : ¬ 4294967296 ≤ gk := by omega
        have hfin : Hid (gk = Kn.Q u m Y) := (by omega : gk = Kn.Q u m Y)
        have d1 : decide ((4294967296 : Int) ≤ (gk : Int)) = false := decide_eq_false (by omega)
        obtain ⟨c, d, t, hc, ht, g1, g2, g3⟩ := look (q := gk) (r := r) (b := b) (m := m) (by omega) hr hb2 (by omega)
        have key : ¬ (4294967296 * r + m < gk * b) := fun hh => hlt ((Kn.test_iff hYab'.out (by omega) hu.out).1 hh)
        have g4 : decide ((t : Int) < (c : Int)) = false := decide_eq_false (by omega)
        have g5 : ¬ t < c := by omega
        have g6 : c ≤ t := by omega
        clear hc ht key hlt hQ hq
        go_wp2_with fail
        go_meet
        exact ⟨rfl, by rw [hfin.out], r, rfl⟩
  case rest =>
  obtain ⟨rfl, rfl, rr, rfl⟩ := hcut
  obtain ⟨q1, hq1⟩ : ∃ q1 : Nat, q1 = Kn.Q u m Y := ⟨_, rfl⟩
  obtain ⟨R, hR⟩ : ∃ R : Nat, R = (u * 4294967296 + m) % Y := ⟨_, rfl⟩
  rw [← hq1]
  have hRY : R < Y := by rw [hR]; exact Nat.mod_lt _ (by omega)
  have e10 : IntKind.u64.wrap (IntKind.u64.wrap (IntKind.u64.wrap ((u : Int) * 4294967296) + (m : Int)) - IntKind.u64.wrap ((q1 : Int) * (Y : Int))) = (R : Int) := by
    have hh := Nat.div_add_mod (u * 4294967296 + m) Y
    have h1 : q1 * Y + R = u * 4294967296 + m := by rw [hq1, hR, Nat.mul_comm]; exact hh
    rw [castMul]
    generalize q1 * Y = z at h1
    simp only [IntKind.wrap_u64]
    omega
  have hq1' : Hid (q1 = Kn.Q u m Y ∧ R = (u * 4294967296 + m) % Y) := ⟨hq1, hR⟩
  have q1B : q1 < 4294967296 := by omega
  clear hq1 hR q0g q0l QB e8 e9 hu0'
  obtain ⟨p0, hp0⟩ : ∃ p0 : Nat, p0 = R / a := ⟨_, rfl⟩
  obtain ⟨t0, ht0⟩ : ∃ t0 : Nat, t0 = R % a := ⟨_, rfl⟩
  have dm := Nat.div_add_mod R a
  have t0a : t0 < a := by rw [ht0]; exact Nat.mod_lt _ (by omega)
  have hv0 : R = p0 * a + t0 := by rw [hp0, ht0, Nat.mul_comm]; exact dm.symm
  have p0g : Kn.Q R n Y ≤ p0 := by rw [hp0]; exact Kn.guess_ge hYab'.out (by omega) hn2
  have p0l : p0 ≤ 4294967297 := by rw [hp0]; exact Kn.guess_le hYab'.out ha1 hb2 hRY
  have PB := Kn.Q_lt hRY hn2
  have e11 : IntKind.u64.wrap ((R : Int) / (a : Int)) = (p0 : Int) := by rw [wrap_div a (by omega), hp0]
  have e12 : IntKind.u64.wrap ((R : Int) - IntKind.u64.wrap ((p0 : Int) * (a : Int))) = (t0 : Int) := by
    have : p0 * a ≤ R := by omega
    rw [castMul, wrapId _ (by omega), IntKind.wrap_u64]; omega
  have hv0' : Hid (R = p0 * a + t0 ∧ p0 = R / a ∧ t0 = R % a) := ⟨hv0, hp0, ht0⟩
  clear dm hv0 hp0 ht0
  go_upto_block 2 with fail
  go_cut [18, 16] (fun sq sr wx => w = wx ∧ sq = .int .u64 (Kn.Q R n Y : Nat) ∧ ∃ r : Nat, sr = .int .u64 r)
  case first =>
    go_wp2_with fail
    go_loopg [18, 16] p0 (fun g sq sr wx => w = wx ∧ ∃ q r : Nat, Hid (R = q * a + r) ∧ Kn.Q R n Y ≤ q ∧ q ≤ 4294967297 ∧ r < 4294967296 ∧ g = q ∧ sq = .int .u64 q ∧ sr = .int .u64 r)
    case atStart => exact ⟨rfl, p0, t0, hv0'.out.1, p0g, p0l, by omega, rfl, rfl, rfl⟩
    case round =>
      obtain ⟨rfl, q, r, hu, hQ, hq, hr, rfl, rfl, rfl⟩ := hrel
      by_cases hlt : Kn.Q R n Y < gk
      · have c1 : IntKind.u64.wrap ((gk : Int) - 1) = ((gk - 1 : Nat) : Int) := wrap_pred (by omega) (by omega)
        have c2 := wrap_plus hr ha2
        have hu' : R = (gk - 1) * a + (r + a) := by
          have := hu.out
          have e : gk * a = (gk - 1) * a + a := by rw [← Nat.succ_mul]; congr 1; omega
          omega
        have c3 := Kn.break_le (n := n) hYab'.out (by omega) hb2 hu' (by omega)
        have hu'' : Hid (R = (gk - 1) * a + (r + a)) := hu'
        have key : Hid (4294967296 * r + n < gk * b) := (Kn.test_iff hYab'.out (by omega) hu.out).2 hlt
        clear hu'
        obtain ⟨q2, hq2⟩ : ∃ q2 : Nat, q2 = gk - 1 := ⟨_, rfl⟩
        obtain ⟨r2, hr2⟩ : ∃ r2 : Nat, r2 = r + a := ⟨_, rfl⟩
        rw [← hq2] at c1 c3 hu''
        rw [← hr2] at c2 c3 hu''
        have f1 : Kn.Q R n Y ≤ q2 := by omega
        have f2 : q2 ≤ 4294967296 := by omega
        have f3 : q2 < gk := by omega
        clear hq2 hr2
        by_cases hB : 4294967296 ≤ gk
        · have d1 : (4294967296 : Int) ≤ (gk : Int) := by omega
          by_cases hR : 4294967296 ≤ r2
          · have d2 : (4294967296 : Int) ≤ (r2 : Int) := by omega
            have hfin : Hid (q2 = Kn.Q R n Y) := (by have := c3 hR; omega : q2 = Kn.Q R n Y)
            clear c3
            go_wp2_with fail
            go_meet
            exact ⟨rfl, by rw [hfin.out], r2, rfl⟩
          · have d2 : decide ((4294967296 : Int) ≤ (r2 : Int)) = false := decide_eq_false (by omega)
            clear c3
            go_wp2_with fail
            go_roundg q2
            case measure => omega
            case rel => exact ⟨rfl, q2, r2, hu'', f1, by omega, by omega, rfl, rfl, rfl⟩
        · have d1 : decide ((4294967296 : Int) ≤ (gk : Int)) = false := decide_eq_false (by omega)
          obtain ⟨c, d, t, hc, ht, g1, g2, g3⟩ := look (q := gk) (r := r) (b := b) (m := n) (by omega) hr hb2 (by omega)
          have g4 : (t : Int) < (c : Int) := by have := key.out; omega
          clear hc ht
          by_cases hR : 4294967296 ≤ r2
          · have d2 : (4294967296 : Int) ≤ (r2 : Int) := by omega
            have hfin : Hid (q2 = Kn.Q R n Y) := (by have := c3 hR; omega : q2 = Kn.Q R n Y)
            clear c3
            go_wp2_with fail
            go_meet
            exact ⟨rfl, by rw [hfin.out], r2, rfl⟩
          · have d2 : decide ((4294967296 : Int) ≤ (r2 : Int)) = false := decide_eq_false (by omega)
            clear c3
            go_wp2_with fail
            go_roundg q2
            case measure => omega
            case rel => exact ⟨rfl, q2, r2, hu'', f1, by omega, by omega, rfl, rfl, rfl⟩
      · have hB : ¬ 4294967296 ≤ gk := by omega
        have hfin : Hid (gk = Kn.Q R n Y) := (by omega : gk = Kn.Q R n Y)
        have d1 : decide ((4294967296 : Int) ≤ (gk : Int)) = false := decide_eq_false (by omega)
        obtain ⟨c, d, t, hc, ht, g1, g2, g3⟩ := look (q := gk) (r := r) (b := b) (m := n) (by omega) hr hb2 (by omega)
        have key : ¬ (4294967296 * r + n < gk * b) := fun hh => hlt ((Kn.test_iff hYab'.out (by omega) hu.out).1 hh)
        have g4 : decide ((t : Int) < (c : Int)) = false := decide_eq_false (by omega)
        have g5 : ¬ t < c := by omega
        have g6 : c ≤ t := by omega
        clear hc ht key hlt hQ hq
        go_wp2_with fail
        go_meet
        exact ⟨rfl, by rw [hfin.out], r, rfl⟩
  case rest =>
  obtain ⟨rfl, rfl, rr, rfl⟩ := hcut
  obtain ⟨p1, hp1⟩ : ∃ p1 : Nat, p1 = Kn.Q R n Y := ⟨_, rfl⟩
  obtain ⟨R2, hR2⟩ : ∃ R2 : Nat, R2 = (R * 4294967296 + n) % Y := ⟨_, rfl⟩
  rw [← hp1]
  have hR2Y : R2 < Y := by rw [hR2]; exact Nat.mod_lt _ (by omega)
  have e14 : IntKind.u64.wrap (IntKind.u64.wrap (IntKind.u64.wrap ((R : Int) * 4294967296) + (n : Int)) - IntKind.u64.wrap ((p1 : Int) * (Y : Int))) = (R2 : Int) := by
    have hh := Nat.div_add_mod (R * 4294967296 + n) Y
    have h1 : p1 * Y + R2 = R * 4294967296 + n := by rw [hp1, hR2, Nat.mul_comm]; exact hh
    rw [castMul]
    generalize p1 * Y = z at h1
    simp only [IntKind.wrap_u64]
    omega
  have e13 : IntKind.u64.wrap (IntKind.u64.wrap ((q1 : Int) * 4294967296) + (p1 : Int)) = ((q1 * 4294967296 + p1 : Nat) : Int) := by
    simp only [IntKind.wrap_u64]; omega
  obtain ⟨qf, hqf⟩ : ∃ qf : Nat, qf = q1 * 4294967296 + p1 := ⟨_, rfl⟩
  rw [← hqf] at e13
  have fin1 : Hid (qf = (hi * 18446744073709551616 + lo) / y) := by
    have hk := k1.out
    have hq := hq1'.out
    have t := Kn.twoQ (u := u) (m := m) (n := n) (y := Y) (by omega)
    rw [← hq.2, ← hq.1, ← hp1, ← hqf] at t
    have e : u * 18446744073709551616 + m * 4294967296 + n = (hi * 18446744073709551616 + lo) * 2 ^ s := by omega
    rw [e, hk.2.1, Nat.mul_div_mul_right _ _ (Nat.two_pow_pos s)] at t
    exact t
  have fin2 : Hid (R2 / 2 ^ s = (hi * 18446744073709551616 + lo) % y) := by
    have hk := k1.out
    have hq := hq1'.out
    have t := Kn.two (u := u) (m := m) (n := n) (y := Y)
    rw [← hq.2, ← hR2] at t
    have e : u * 18446744073709551616 + m * 4294967296 + n = (hi * 18446744073709551616 + lo) * 2 ^ s := by omega
    rw [e, hk.2.1, Nat.mul_mod_mul_right] at t
    show R2 / 2 ^ s = _
    rw [t, Nat.mul_div_cancel _ (Nat.two_pow_pos s)]
  clear hp1 hR2 hqf p0g p0l PB e11 e12 hv0' e10
  go_wp2
  go_ret2
  refine ⟨ret_two (by rw [← fin1.out, ← e13]; simp only [IntKind.wrap_u64]; omega) ?_, 0, rfl⟩
  rw [← fin2.out, show ((2 : Int) ^ s) = ((2 ^ s : Nat) : Int) by rw [Int.natCast_pow]; rfl]
  rfl
/-- quotient and rest of two words by one -/
def dq (hi lo y : Nat) : Nat := (hi * 18446744073709551616 + lo) / y
def dr (hi lo y : Nat) : Nat := (hi * 18446744073709551616 + lo) % y
theorem dr_lt {y : Nat} (hi lo : Nat) (h : 0 < y) : dr hi lo y < y := Nat.mod_lt _ h
theorem div64_c (hi lo y : Nat) (w : World) (hl : lo < 18446744073709551616) (hy : y < 18446744073709551616) (h : hi < y) :
    Calls Tryd.prog 33 #[.int .u64 hi, .int .u64 lo, .int .u64 y] w fun e w' => e = .returned (.tuple #[.int .u64 (dq hi lo y : Nat), .int .u64 (dr hi lo y : Nat)]) ∧ ∃ k, w' = w.drewN k := by
  rcases Nat.eq_zero_or_pos hi with h0 | h0
  · subst h0
    have := div64_0 lo y w hl hy h
    unfold dq dr
    rwa [Nat.zero_mul, Nat.zero_add]
  · exact div64_n hi lo y w hl hy h h0
set_option maxHeartbeats 1000000 in
theorem rem64_c (hi lo y : Nat) (w : World) (hh : hi < 18446744073709551616) (hl : lo < 18446744073709551616) (hy : y < 18446744073709551616) (h : 0 < y) :
    Calls Tryd.prog 32 #[.int .u64 hi, .int .u64 lo, .int .u64 y] w fun e w' => e = .returned (.int .u64 (dr hi lo y : Nat)) ∧ ∃ k, w' = w.drewN k := by
  have h1 : ((y : Int) == 0) = false := beq_eq_false_iff_ne.2 (by omega)
  have hm : hi % y < y := Nat.mod_lt _ h
  obtain ⟨t, ht⟩ : ∃ t : Nat, t = hi % y := ⟨_, rfl⟩
  have e1 : (hi : Int) % (y : Int) = (t : Int) := by rw [ht]; rfl
  have hr : Hid (dr t lo y = dr hi lo y) := by
    show _ = _
    unfold dr
    rw [ht, Nat.add_mod, Nat.mul_mod, Nat.mod_mod, ← Nat.mul_mod, ← Nat.add_mod]
  rw [← ht] at hm
  clear ht
  go_enter Tryd.func32, Tryd.ntmps32
  go_wp2_with (go_at_call 33; refine (div64_c _ _ _ _ hl hy hm).mono ?_; rintro e w' ⟨rfl, k, rfl⟩)
  all_goals go_ret
  exact ⟨ret_int (by rw [hr.out]), k, rfl⟩
/-- the upper and the lower word of a product -/
def mh (x y : Nat) : Nat := x * y / 18446744073709551616
def ml (x y : Nat) : Nat := x * y % 18446744073709551616
theorem mh_lt {x y : Nat} (hx : x < 18446744073709551616) (hy : y < 18446744073709551616) : mh x y < 18446744073709551616 := by
  unfold mh
  rw [Nat.div_lt_iff_lt_mul (by decide)]
  exact Nat.mul_lt_mul'' hx hy
theorem ml_lt (x y : Nat) : ml x y < 18446744073709551616 := Nat.mod_lt _ (by decide)
theorem mul64_m (x y : Nat) (w : World) (hx : x < 18446744073709551616) (hy : y < 18446744073709551616) :
    Calls Tryd.prog 13 #[.int .u64 x, .int .u64 y] w fun e w' => e = .returned (.tuple #[.int .u64 (mh x y : Nat), .int .u64 (ml x y : Nat)]) ∧ w = w' := mul64_c x y w hx hy
theorem dr_mul (x y m : Nat) : dr (mh x y) (ml x y) m = x * y % m := by
  unfold dr mh ml
  rw [Nat.mul_comm (x * y / 18446744073709551616), Nat.div_add_mod]
end Go.Proofs.YtkgecgkjmikihabDoor
