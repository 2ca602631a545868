/-
  Package sums: the whole numbers of 34 words, read: length, digit, anyBelow, halved, roundsUp, rounded.
-/
import Derived.Test.YtmfnjmgdindlaaaWp9
namespace Go.Proofs.Ytmfnjmgdindlaaa
open Flo Go.RowKit Ari
set_option maxRecDepth 100000 in
set_option maxHeartbeats 1000000 in
theorem wlen_c (n g : Nat) (w : World) (h1 : Hid (Bx w g (Wd.wd W64 n))) (hn : Hid (n < W64 ^ 34)) :
    Calls Try.prog 58 #[.pointer (some ⟨g, 0, none⟩)] w fun e w' => e = .returned (.int .i64 (bitLen n : Nat)) ∧ w = w' := by
  go_enter Try.func58, Try.ntmps58
  go_wp2
  go_loop [3] (fun si => ∃ (i : Nat), i ≤ 34 ∧ si = .int .i64 ((i : Int) - 1) ∧ Hid (n < W64 ^ i)) (fun si => (intOf si + 1).toNat)
  case atStart => exact ⟨34, Nat.le_refl _, rfl, hn⟩
  case round =>
    obtain ⟨i, hi, rfl, hd⟩ := hrel
    by_cases h0 : i = 0
    · subst h0
      have hz : Hid (bitLen n = 0) := by
        have h := hd.out; rw [Nat.pow_zero] at h
        obtain rfl : n = 0 := by omega
        exact rfl
      go_wp2
      go_ret
      exact ⟨ret_int (by rw [hz.out]; rfl), rfl⟩
    · obtain ⟨j, rfl⟩ : ∃ j, i = j + 1 := ⟨i - 1, by omega⟩
      have e1 := h1.out.cell j (by omega)
      have hj : (j : Int) < 34 := by omega
      have hj34 : j < 34 := by omega
      have hj0 : (((j + 1 : Nat) : Int) - 1) = (j : Int) := by omega
      have hxl := wd64 n j
      have hz : Hid (Wd.wd W64 n j = 0 → n < W64 ^ j) := fun h => Wd.nw_lt_of_top W64_2 hd.out h
      have ht : Hid (Wd.wd W64 n j ≠ 0 → bitLen n = 64 * j + bitLen (Wd.wd W64 n j)) := fun h => by
        have h2 := Wd.nw_of_top W64_2 hd.out h
        have h3 : 0 < n := Nat.pos_of_ne_zero fun e => h (by rw [e]; unfold Wd.wd; rw [Nat.zero_div, Nat.zero_mod])
        have h4 := bitLen_top h3
        rw [h2, Nat.add_sub_cancel] at h4
        exact h4
      have hbl := bitLen_lt (s := Wd.wd W64 n j) (k := 64) hxl
      generalize Wd.wd W64 n j = x at e1 hxl hz ht hbl
      rw [hj0]
      clear hd hj0 h1
      by_cases hx : x = 0
      · subst hx
        have hnew := hz.out rfl
        have hnewH : Hid (n < W64 ^ j) := hnew
        clear hnew hz ht hbl
        go_wp2_with fail
        go_round
        case rel => exact ⟨j, by omega, by go_num, hnewH⟩
        case measure => simp [intOf]
      · have hx' : ((x : Int) == 0) = false := beq_eq_false_iff_ne.2 (by omega)
        have hx2 : ((x : Int) != 0) = true := by simp [bne, hx']
        have hb := ht.out hx
        have hbH : Hid (bitLen n = 64 * j + bitLen x) := hb
        have hxI : Hid ((x : Int) < 18446744073709551616) := (by omega : (x : Int) < 18446744073709551616)
        have hcall : Hid (∀ W, Calls Try.prog 64 #[.int .u64 (x : Int)] W fun e w' => e = .returned (.int .i64 (bitLen x : Nat)) ∧ W = w') := fun W => len64_c (x : Int) W (Int.natCast_nonneg x) hxI.out
        clear hb hz ht hxl hx hxI
        generalize bitLen x = L at hbl hbH hcall
        go_wp2_with fail
        refine (hcall.out _).mono ?_
        rintro e w' ⟨rfl, rfl⟩
        clear hcall
        go_wp2_with fail
        go_ret
        refine ⟨ret_int ?_, rfl⟩
        rw [hbH.out]
        have e : ∀ y : Int, 0 ≤ y → y ≤ 4096 → wrap64 y = y := fun y a b => by unfold wrap64; omega
        first | omega | (rw [e _ (by omega) (by omega)]; omega)
theorem and1_64 (x s : Nat) (hx : x < 18446744073709551616) : bits .and .u64 ((x : Int) / 2 ^ s) 1 = ((x / 2 ^ s % 2 : Nat) : Int) := by
  have e : (x : Int) / 2 ^ s = ((x / 2 ^ s : Nat) : Int) := by simp
  have h := u64_and_nat (x / 2 ^ s) 1 (Nat.lt_of_le_of_lt (Nat.div_le_self _ _) hx) (by decide)
  rw [e]
  exact h.trans (congrArg _ (Nat.and_two_pow_sub_one_eq_mod _ 1))
set_option maxRecDepth 100000 in
set_option maxHeartbeats 1000000 in
theorem wdigit_i (n g k i s : Nat) (w : World) (h1 : Hid (Bx w g (Wd.wd W64 n))) (hi : i < 34) (hk : k ≤ 4096) (hS1 : (k : Int) / 64 = (i : Int)) (hS2 : (k : Int) % 64 = (s : Int)) (hv : Hid (Wd.wd W64 n i / 2 ^ s % 2 = n / 2 ^ k % 2)) :
    Calls Try.prog 65 #[.pointer (some ⟨g, 0, none⟩), .int .i64 (k : Int)] w fun e w' => e = .returned (.bool (n / 2 ^ k % 2 == 1)) ∧ w = w' := by
  have e1 := h1.out.cell i hi
  have hi' : (i : Int) < 34 := by omega
  have ha := and1_64 (Wd.wd W64 n i) s (wd64 n i)
  rw [hv.out] at ha
  generalize Wd.wd W64 n i = x at e1 ha
  generalize n / 2 ^ k % 2 = b at ha
  clear hv h1
  go_enter Try.func65, Try.ntmps65
  go_wp2_with fail
  go_ret
  refine ⟨ret_bool ?_, rfl⟩
  first | rfl | (rw [Bool.eq_iff_iff]; simp; omega)
theorem wdigit_c (n g k : Nat) (w : World) (h1 : Bx w g (Wd.wd W64 n)) (hk : k < 2176) :
    Calls Try.prog 65 #[.pointer (some ⟨g, 0, none⟩), .int .i64 (k : Int)] w fun e w' => e = .returned (.bool (n / 2 ^ k % 2 == 1)) ∧ w = w' :=
  wdigit_i n g k (k / 64) (k % 64) w h1 (by omega) (by omega) (by omega) (by omega) (Wi.digit_word n k)
theorem andm_64 (x s : Nat) (hx : x < 18446744073709551616) (hs : s < 64) : bits .and .u64 (x : Int) ((2 ^ s - 1 : Nat) : Int) = ((x % 2 ^ s : Nat) : Int) := by
  have hp : 2 ^ s ≤ 2 ^ 63 := Nat.pow_le_pow_right (by decide) (by omega)
  have h := u64_and_nat x (2 ^ s - 1) hx (by omega)
  exact h.trans (congrArg _ (Nat.and_two_pow_sub_one_eq_mod _ s))
theorem one_shl (s : Nat) (hs : s < 64) : IntKind.u64.wrap (IntKind.u64.wrap (2 ^ s) - 1) = ((2 ^ s - 1 : Nat) : Int) := by
  have hp : 2 ^ s ≤ 2 ^ 63 := Nat.pow_le_pow_right (by decide) (by omega)
  have h0 := Nat.two_pow_pos s
  have e : (2 : Int) ^ s = ((2 ^ s : Nat) : Int) := by simp
  rw [e, wrapId _ (by omega), show ((2 ^ s : Nat) : Int) - 1 = ((2 ^ s - 1 : Nat) : Int) by omega, wrapId _ (by omega)]
set_option maxRecDepth 100000 in
set_option maxHeartbeats 1000000 in
theorem wbelow_i (n g k i s : Nat) (w : World) (h1 : Hid (Bx w g (Wd.wd W64 n))) (hi : i < 34) (hs : s < 64) (hk : k ≤ 4096) (hS1 : (k : Int) / 64 = (i : Int)) (hS2 : (k : Int) % 64 = (s : Int))
    (hv : Hid (n % 2 ^ k = n % W64 ^ i + W64 ^ i * (Wd.wd W64 n i % 2 ^ s))) :
    Calls Try.prog 66 #[.pointer (some ⟨g, 0, none⟩), .int .i64 (k : Int)] w fun e w' => e = .returned (.bool (n % 2 ^ k != 0)) ∧ w = w' := by
  have e1 := h1.out.cell i hi
  have hi' : (i : Int) < 34 := by omega
  have ha := andm_64 (Wd.wd W64 n i) s (wd64 n i) hs
  have ho := one_shl s hs
  rw [← ho] at ha
  clear ho
  have hp : Hid (0 < W64 ^ i) := Nat.pow_pos W64_0
  generalize hX : Wd.wd W64 n i = x at e1 ha hv
  clear hX
  generalize x % 2 ^ s = b at ha hv
  go_enter Try.func66, Try.ntmps66
  go_wp2
  go_loop [8] (fun si => ∃ (j : Nat), j ≤ i ∧ si = .int .i64 (j : Int) ∧ Hid (∀ t, t < j → Wd.wd W64 n t = 0)) (fun si => i - (intOf si).toNat)
  case atStart => exact ⟨0, Nat.zero_le _, rfl, fun t ht => absurd ht (by omega)⟩
  case round =>
    obtain ⟨j, hj, rfl, hz⟩ := hrel
    by_cases hlt : j < i
    · have hlt' : (j : Int) < (i : Int) := by omega
      have e2 := h1.out.cell j (by omega)
      by_cases hq : Wd.wd W64 n j = 0
      · have hz2 : Hid (∀ t, t < j + 1 → Wd.wd W64 n t = 0) := fun t ht => by
          by_cases a : t < j
          · exact hz.out t a
          · rw [show t = j by omega]; exact hq
        rw [hq] at e2
        clear hq hz h1
        go_wp2_with fail
        go_round
        case rel => exact ⟨j + 1, by omega, by go_num, hz2⟩
        case measure => simp [intOf]; omega
      · have hr : Hid (true = (n % 2 ^ k != 0)) := by
          have := Wi.low_some hlt hq
          have h2 := hv.out
          show true = _
          symm
          simp only [bne_iff_ne, ne_eq]
          intro h3
          rw [h3] at h2
          exact this (Nat.add_eq_zero_iff.1 h2.symm).1
        generalize Wd.wd W64 n j = y at e2 hq
        have hq' : ((y : Int) == 0) = false := beq_eq_false_iff_ne.2 (by omega)
        have hq2 : ((y : Int) != 0) = true := by simp [bne, hq']
        clear hz h1
        go_wp2_with fail
        go_ret
        exact ⟨ret_bool hr.out, rfl⟩
    · have hlt' : decide ((j : Int) < (i : Int)) = false := decide_eq_false (by omega)
      have hr : Hid (((b : Int) != 0) = (n % 2 ^ k != 0)) := by
        have h0 := Wi.low_zero n i (fun t ht => hz.out t (by omega))
        show _ = _
        rw [hv.out, h0, Nat.zero_add, Bool.eq_iff_iff]
        have := hp.out
        simp only [bne_iff_ne, ne_eq]
        constructor
        · intro h3 h4
          apply h3
          rcases Nat.mul_eq_zero.1 h4 with h5 | h5 <;> omega
        · intro h3 h4
          apply h3
          rw [show b = 0 by omega, Nat.mul_zero]
      clear hz h1 hv
      go_wp2_with fail
      go_ret
      exact ⟨ret_bool hr.out, rfl⟩
theorem wbelow_c (n g k : Nat) (w : World) (h1 : Bx w g (Wd.wd W64 n)) (hk : k < 2176) :
    Calls Try.prog 66 #[.pointer (some ⟨g, 0, none⟩), .int .i64 (k : Int)] w fun e w' => e = .returned (.bool (n % 2 ^ k != 0)) ∧ w = w' :=
  wbelow_i n g k (k / 64) (k % 64) w h1 (by omega) (by omega) (by omega) (by omega) (by omega) (Wi.below_word n k)
theorem W64_q : W64 = 2 ^ 64 := by decide
theorem or_halved (x y s q : Nat) (hs : s < 64) (hx : x / 2 ^ s < 2 ^ (64 - s)) (hq : x / 2 ^ s + (y * 2 ^ (64 - s)) % W64 = q) (hxl : x < 18446744073709551616) :
    bits .or .u64 ((x : Int) / 2 ^ s) (IntKind.u64.wrap ((y : Int) * 2 ^ (64 - s))) = (q : Int) := by
  have e1 : (x : Int) / 2 ^ s = ((x / 2 ^ s : Nat) : Int) := by simp
  have e2 : (y : Int) * 2 ^ (64 - s) = ((y * 2 ^ (64 - s) : Nat) : Int) := by simp
  have e3 : y * 2 ^ (64 - s) % W64 = 2 ^ (64 - s) * (y % 2 ^ s) := by
    rw [W64_q, show 2 ^ 64 = 2 ^ (64 - s) * 2 ^ s by rw [← Nat.pow_add]; congr 1; omega, Nat.mul_comm y, Nat.mul_mod_mul_left]
  rw [e1, e2, wrapMod, show y * 2 ^ (64 - s) % 18446744073709551616 = y * 2 ^ (64 - s) % W64 from rfl]
  have h := bits_or_u64_nat (x / 2 ^ s) (y * 2 ^ (64 - s) % W64) (Nat.lt_of_le_of_lt (Nat.div_le_self _ _) hxl) (Nat.mod_lt _ W64_0)
  refine h.trans ?_
  congr 1
  show x / 2 ^ s ||| y * 2 ^ (64 - s) % W64 = _
  rw [← hq, e3, Nat.or_comm, ← Nat.two_pow_add_eq_or_of_lt hx, Nat.add_comm]
set_option maxRecDepth 100000 in
set_option maxHeartbeats 1000000 in
theorem whalved_i (n g k i s R : Nat) (w : World) (h1 : Hid (Bx w g (Wd.wd W64 n))) (hi : i < 33) (hk : k ≤ 4096) (hS1 : (k : Int) / 64 = (i : Int)) (hS2 : (k : Int) % 64 = (s : Int)) (hR : 64 - (s : Int) = (R : Int)) (hs : s < 64)
    (hv : Hid (Wd.wd W64 n i / 2 ^ s + (Wd.wd W64 n (i + 1) * 2 ^ R) % W64 = n / 2 ^ k)) (hl : Hid (Wd.wd W64 n i / 2 ^ s < 2 ^ R)) :
    Calls Try.prog 59 #[.pointer (some ⟨g, 0, none⟩), .int .i64 (k : Int)] w fun e w' => e = .returned (.int .u64 ((n / 2 ^ k : Nat) : Int)) ∧ ∃ q, w' = w.drewN q := by
  have e1 := h1.out.cell i (by omega)
  have e2 := h1.out.cell (i + 1) (by omega)
  have hi' : (i : Int) < 33 := by omega
  obtain rfl : R = 64 - s := by omega
  have ho := or_halved (Wd.wd W64 n i) (Wd.wd W64 n (i + 1)) s _ hs hl.out hv.out (wd64 n i)
  generalize hRR : 64 - s = R at *
  have hRl : R ≤ 64 := by omega
  obtain ⟨I1, hI⟩ : ∃ I1 : Nat, Hid (i + 1 = I1) := ⟨_, rfl⟩
  have hI1 : (i : Int) + 1 = (I1 : Int) := by have := hI.out; omega
  have hI2 : I1 < 34 := by have := hI.out; omega
  rw [hI.out] at e2 ho
  generalize Wd.wd W64 n i = x at e1 ho
  generalize Wd.wd W64 n I1 = y at e2 ho
  generalize n / 2 ^ k = q at ho
  clear hv hl h1 hI hRR
  go_enter Try.func59, Try.ntmps59
  go_wp2_with fail
  go_quiet (fail)
  go_wp2
  go_ret
  exact ⟨rfl, _, rfl⟩
theorem whalved_c (n g k : Nat) (w : World) (h1 : Bx w g (Wd.wd W64 n)) (hk : k < 2112) (hq : n / 2 ^ k < 9007199254740992) :
    Calls Try.prog 59 #[.pointer (some ⟨g, 0, none⟩), .int .i64 (k : Int)] w fun e w' => e = .returned (.int .u64 ((n / 2 ^ k : Nat) : Int)) ∧ ∃ q, w' = w.drewN q :=
  whalved_i n g k (k / 64) (k % 64) (64 - k % 64) w h1 (by omega) (by omega) (by omega) (by omega) (by omega) (by omega) (Wi.halved_word hq).1 (Wi.halved_word hq).2
set_option maxRecDepth 100000 in
set_option maxHeartbeats 1000000 in
theorem wup_c (n g d : Nat) (w : World) (h1 : Bx w g (Wd.wd W64 n)) (hd : d < 2176) (hd0 : 0 < d) :
    Calls Try.prog 60 #[.pointer (some ⟨g, 0, none⟩), .int .i64 (d : Int)] w fun e w' => e = .returned (.bool (Wi.goesUp n d)) ∧ w = w' := by
  obtain ⟨k, hk⟩ : ∃ k, d - 1 = k := ⟨_, rfl⟩
  have c1 : Hid (Calls Try.prog 65 #[.pointer (some ⟨g, 0, none⟩), .int .i64 (k : Int)] w fun e w' => e = .returned (.bool (n / 2 ^ k % 2 == 1)) ∧ w = w') := wdigit_c n g k w h1 (by omega)
  have c2 : Hid (Calls Try.prog 65 #[.pointer (some ⟨g, 0, none⟩), .int .i64 (d : Int)] w fun e w' => e = .returned (.bool (n / 2 ^ d % 2 == 1)) ∧ w = w') := wdigit_c n g d w h1 hd
  have c3 : Hid (Calls Try.prog 66 #[.pointer (some ⟨g, 0, none⟩), .int .i64 (k : Int)] w fun e w' => e = .returned (.bool (n % 2 ^ k != 0)) ∧ w = w') := wbelow_c n g k w h1 (by omega)
  have hv : Hid (Wi.goesUp n d = ((n / 2 ^ k % 2 == 1) && ((n / 2 ^ d % 2 == 1) || (n % 2 ^ k != 0)))) := by
    show _ = _
    unfold Wi.goesUp; rw [hk]
  have hDk : (d : Int) - 1 = (k : Int) := by omega
  clear hk hd0
  generalize (n / 2 ^ k % 2 == 1) = b1 at c1 hv
  generalize (n / 2 ^ d % 2 == 1) = b2 at c2 hv
  generalize (n % 2 ^ k != 0) = b3 at c3 hv
  clear h1
  generalize Wi.goesUp n d = G at hv ⊢
  go_enter Try.func60, Try.ntmps60
  go_wp2_with fail
  refine c1.out.mono ?_
  rintro e w' ⟨rfl, rfl⟩
  cases b1
  · have hG : Hid (false = G) := hv.out.symm
    clear hv c2 c3 c1
    go_wp2_with fail
    go_ret
    exact ⟨ret_bool hG.out, rfl⟩
  · clear c1
    go_wp2_with fail
    refine c2.out.mono ?_
    rintro e w' ⟨rfl, rfl⟩
    cases b2
    · clear c2
      go_wp2_with fail
      refine c3.out.mono ?_
      rintro e w' ⟨rfl, rfl⟩
      have hG : Hid (b3 = G) := hv.out.symm
      clear hv c3
      go_wp2_with fail
      go_ret
      exact ⟨ret_bool hG.out, rfl⟩
    · have hG : Hid (true = G) := hv.out.symm
      clear hv c2 c3
      go_wp2_with fail
      go_ret
      exact ⟨ret_bool hG.out, rfl⟩
theorem bitLen_log {n : Nat} (h : 0 < n) : bitLen n = n.log2 + 1 := by
  have h0 : n ≠ 0 := by omega
  obtain ⟨a, b⟩ := (Sm.log2_iff h0 (d := n.log2)).1 rfl
  have h1 := bitLen_spec n
  have h2 : bitLen n ≤ n.log2 + 1 := bitLen_lt b
  apply Nat.le_antisymm h2
  apply Nat.lt_of_not_le
  intro h3
  have h4 : n < 2 ^ bitLen n := by first | exact h1 | exact h1.1 | exact h1.2
  have h5 : 2 ^ bitLen n ≤ 2 ^ n.log2 := Nat.pow_le_pow_right (by decide) (by omega)
  omega
theorem rnd_parts {n d : Nat} (hd : 0 < d) (hb : bitLen n = d + 53) : n / 2 ^ d < 9007199254740992 ∧ 4503599627370496 ≤ n / 2 ^ d ∧ rg n (-1074) = d * 4503599627370496 + (n / 2 ^ d + (Wi.goesUp n d).toNat) := by
  have hn : 0 < n := Nat.pos_of_ne_zero fun e => by rw [e] at hb; have : bitLen 0 = 0 := rfl; omega
  have h0 : n ≠ 0 := by omega
  have hl : n.log2 = 52 + d := by rw [bitLen_log hn] at hb; omega
  obtain ⟨a, b⟩ := (Sm.log2_iff h0).1 hl
  have hp := Nat.two_pow_pos d
  obtain ⟨k, rfl⟩ : ∃ k, d = k + 1 := ⟨d - 1, by omega⟩
  refine ⟨?_, ?_, ?_⟩
  · rw [Nat.div_lt_iff_lt_mul hp]
    rw [show 52 + (k + 1) + 1 = 53 + (k + 1) by omega, Nat.pow_add] at b
    exact b
  · rw [Nat.le_div_iff_mul_le hp]
    rw [Nat.pow_add] at a
    exact a
  · rw [Sm.rg_high a (by rw [show 53 + (k + 1) = 52 + (k + 1) + 1 by omega]; exact b), Wi.goesUp_rhe]
theorem rnd_low {n : Nat} (hb : bitLen n ≤ 53) : n < 9007199254740992 ∧ rg n (-1074) = n ∧ Wd.wd W64 n 0 = n := by
  have h : n < 9007199254740992 := by
    by_cases h0 : n = 0
    · omega
    · have hl : n.log2 < 53 := by rw [bitLen_log (by omega)] at hb; omega
      exact (Nat.log2_lt h0).1 hl
  refine ⟨h, Sm.rg_low h, ?_⟩
  unfold Wd.wd
  rw [Nat.pow_zero, Nat.div_one]
  exact Nat.mod_eq_of_lt (by unfold W64; omega)
set_option maxRecDepth 100000 in
set_option maxHeartbeats 1000000 in
theorem wround_c (n g : Nat) (w : World) (h1 : Hid (Bx w g (Wd.wd W64 n))) (hn : Hid (n < W64 ^ 34)) (hb : bitLen n ≤ 2161) :
    Calls Try.prog 48 #[.pointer (some ⟨g, 0, none⟩)] w fun e w' => e = .returned (.int .u64 ((Sm.rd n : Nat) : Int)) ∧ ∃ q, w' = w.drewN q := by
  have hlen : Hid (∀ W, W = w → Calls Try.prog 58 #[.pointer (some ⟨g, 0, none⟩)] W fun e w' => e = .returned (.int .i64 (bitLen n : Nat)) ∧ W = w') := fun W e => by subst e; exact wlen_c n g W h1 hn
  by_cases hd : bitLen n ≤ 53
  · obtain ⟨k1, k2, k3⟩ := rnd_low hd
    have e1 := h1.out.cell 0 (by omega)
    rw [k3] at e1
    have hv : Hid (Sm.rd n = n) := by show _ = _; unfold Sm.rd; rw [k2]; omega
    clear k1 k2 k3 h1 hn
    generalize bitLen n = L at hlen hd hb
    have hd' : (L : Int) - 53 ≤ 0 := by omega
    go_enter Try.func48, Try.ntmps48
    go_wp2_with (go_at_call 58; refine (hlen.out _ rfl).mono ?_; rintro e w' ⟨rfl, rfl⟩)
    go_ret
    exact ⟨ret_int (by rw [hv.out]), 0, rfl⟩
  · obtain ⟨D, hD⟩ : ∃ D : Nat, bitLen n = D + 53 := ⟨bitLen n - 53, by omega⟩
    obtain ⟨k1, k2, k3⟩ := rnd_parts (d := D) (by omega) hD
    have hH : Hid (∀ W, W = w → Calls Try.prog 59 #[.pointer (some ⟨g, 0, none⟩), .int .i64 (D : Int)] W fun e w' => e = .returned (.int .u64 ((n / 2 ^ D : Nat) : Int)) ∧ ∃ q, w' = W.drewN q) := fun W e => by subst e; exact whalved_c n g D W h1.out (by omega) k1
    have hU : Hid (∀ W, (∃ q, W = w.drewN q) → Calls Try.prog 60 #[.pointer (some ⟨g, 0, none⟩), .int .i64 (D : Int)] W fun e w' => e = .returned (.bool (Wi.goesUp n D)) ∧ W = w') := fun W ⟨q, e⟩ => by subst e; exact wup_c n g D _ h1.out (by omega) (by omega)
    have hv : Hid (Sm.rd n = min (D * 4503599627370496 + (n / 2 ^ D + (Wi.goesUp n D).toNat)) 9218868437227405312) := by show _ = _; unfold Sm.rd; rw [k3]
    have hLD : ((bitLen n : Nat) : Int) - 53 = (D : Int) := by omega
    have hD0 : decide (D = 0) = false := decide_eq_false (by omega)
    have hDl : D ≤ 2108 := by omega
    have hm : Hid (n / 2 ^ D < 9007199254740992) := k1
    generalize n / 2 ^ D = m at hH hv hm
    generalize Wi.goesUp n D = b at hU hv
    generalize Sm.rd n = R at hv ⊢
    generalize bitLen n = L at hlen hLD
    clear k1 k2 k3 h1 hn hD hd hb
    go_enter Try.func48, Try.ntmps48
    go_wp2_with (first
      | (go_at_call 58; refine (hlen.out _ rfl).mono ?_; rintro e w' ⟨rfl, rfl⟩)
      | (go_at_call 59; refine (hH.out _ rfl).mono ?_; rintro e w' ⟨rfl, q, rfl⟩)
      | fail)
    refine (hU.out _ ⟨q, rfl⟩).mono ?_
    rintro e w' ⟨rfl, rfl⟩
    clear hH hU hlen
    cases b
    · obtain ⟨T, hT⟩ : ∃ T : Nat, D * 4503599627370496 + m = T := ⟨_, rfl⟩
      have hv2 : Hid (R = min T 9218868437227405312) := by show _ = _; rw [hv.out, Bool.toNat_false, Nat.add_zero, hT]
      have qT : IntKind.u64.wrap ((D : Int) * 4503599627370496 + (m : Int)) = (T : Int) := by have := hm.out; rw [IntKind.wrap_u64]; omega
      clear hT hv hm
      go_wp2_with fail
      all_goals (go_ret; exact ⟨ret_int (by rw [hv2.out]; omega), _, rfl⟩)
    · obtain ⟨m1, hm1⟩ : ∃ m1 : Nat, m + 1 = m1 := ⟨_, rfl⟩
      obtain ⟨T, hT⟩ : ∃ T : Nat, D * 4503599627370496 + m1 = T := ⟨_, rfl⟩
      have hv2 : Hid (R = min T 9218868437227405312) := by show _ = _; rw [hv.out, Bool.toNat_true, hm1, hT]
      have qM : IntKind.u64.wrap ((m : Int) + 1) = (m1 : Int) := by have := hm.out; rw [IntKind.wrap_u64]; omega
      have qT : IntKind.u64.wrap ((D : Int) * 4503599627370496 + (m1 : Int)) = (T : Int) := by have := hm.out; rw [IntKind.wrap_u64]; omega
      clear hT hv hm hm1
      go_wp2_with fail
      all_goals (go_ret; exact ⟨ret_int (by rw [hv2.out]; omega), _, rfl⟩)
end Go.Proofs.Ytmfnjmgdindlaaa
