/-
  The document's shortest.
-/
import Derived.Test.YtmdnmhbfdceliaaGreatDoorSht
import Derived.Deep.DeepCutAuto
namespace Go.Proofs.YtmdnmhbfdceliaaGreatDoor
open Flo Go.RowKit
theorem tz_take {l : List UInt8} {k : Nat} (h : Dg.tz l = l) (hk : 1 ≤ k) : Dg.tz (l.take k) = l.take k := by
  cases l with
  | nil => simp; rfl
  | cons x l =>
    obtain ⟨i, rfl⟩ : ∃ i, k = i + 1 := ⟨k - 1, by omega⟩
    rw [List.take_succ_cons]
    show (if x.toNat = 48 then Dg.tz (l.take i) else x :: l.take i) = x :: l.take i
    by_cases hx : x.toNat = 48
    · exfalso
      have h2 : (if x.toNat = 48 then Dg.tz l else x :: l) = x :: l := h
      rw [if_pos hx] at h2
      have := Dg.tz_len l
      rw [h2] at this
      simp at this
      omega
    · rw [if_neg hx]
theorem pre_dd {A k : Nat} {l : List UInt8} (h0 : 0 < A) (hl : Lib.decDigits A = l) (hk : 1 ≤ k) (hkl : k ≤ l.length) : l.take k = Lib.decDigits (A / 10 ^ (l.length - k)) := by
  have hd : ∀ b ∈ l, Dg.isD b = true := by rw [← hl]; exact Dg.dd_all A
  have hs := (dv_split hd k).1
  rw [← hl, Dg.dd_dv, hl] at hs
  rw [← hs]
  refine Dg.dd_uniq _ _ rfl (fun b h => hd b (List.mem_of_mem_take h)) (tz_take (by rw [← hl]; exact Dg.dd_tz h0) hk) ?_
  intro h
  have := congrArg List.length h
  rw [List.length_take, Nat.min_eq_left hkl] at this
  simp at this
  omega
theorem exlen {E m A L : Nat} (h1 : m < 9007199254740992) (hE : E ≤ 2045) (hA : Rd.exA m ((E : Int) - 1074) = A) (h0 : 0 < A) (hL : (Lib.decDigits A).length = L) : L ≤ 2000 := by
  have dl := (Dg.dd_len h0).1
  rw [hL] at dl
  obtain ⟨q, hq⟩ : ∃ q, q = 3300 := ⟨_, rfl⟩
  have hb : A < 2 ^ q := by
    rw [← hA]
    unfold Rd.exA
    split
    · have h3 : m * 2 ^ ((E : Int) - 1074).toNat < 2 ^ 53 * 2 ^ ((E : Int) - 1074).toNat := Nat.mul_lt_mul_of_pos_right h1 (Nat.two_pow_pos _)
      refine Nat.lt_of_lt_of_le h3 ?_
      rw [← Nat.pow_add]
      exact Nat.pow_le_pow_right (by decide) (by omega)
    · exact Nat.lt_of_lt_of_le (m5_lt h1) (Nat.pow_le_pow_right (by decide) (by omega))
  have h3 : 2 ^ (3 * (L - 1)) ≤ 10 ^ (L - 1) := by rw [Nat.pow_mul]; exact Nat.pow_le_pow_left (by decide) _
  have h4 : 2 ^ (3 * (L - 1)) < 2 ^ q := Nat.lt_of_le_of_lt (Nat.le_trans h3 dl) hb
  have := (Nat.pow_lt_pow_iff_right (by decide : 1 < 2)).1 h4
  omega
set_option maxRecDepth 100000 in
set_option maxHeartbeats 4000000 in
theorem rshort_c (s E m : Nat) (w : World) (t : Int) (W Lo Hi n : Nat) (X : Bool) (hv : Hid (View E m t W X Lo Hi)) (hsr : Hid (Rd.Srt W X Lo Hi n)) (hs : Hid (s = E * 4503599627370496 + m)) (h0 : 0 < m) (h1 : m < 9007199254740992) (h2 : Hid ((E = 0) ∨ 4503599627370496 ≤ m)) (hE : E ≤ 2045) :
    Calls Tryz.prog 15 #[.int .u64 s] w fun e w' => ∃ (D j : Nat) (y : Int), e = .returned (.tuple #[.string (B (Lib.decDigits D)), .int .i64 y]) ∧ Hid (0 < D ∧ n = D * 10 ^ j ∧ y = t + j) ∧ Below w.heap.size w w' := by
  have hxc : Hid (Calls Tryz.prog 29 #[.int .u64 s] w fun e w' => e = .returned (.tuple #[.string (B (Lib.decDigits (Rd.exA m ((E : Int) - 1074)))), .int .i64 (Rd.exX ((E : Int) - 1074))]) ∧ Below w.heap.size w w') := rexact_c s E m w hs h0 h1 h2 hE
  obtain ⟨A, hA⟩ : ∃ A, Hid (Rd.exA m ((E : Int) - 1074) = A) := ⟨_, rfl⟩
  obtain ⟨x, hx⟩ : ∃ x, Hid (Rd.exX ((E : Int) - 1074) = x) := ⟨_, rfl⟩
  obtain ⟨l, hl⟩ : ∃ l, Hid (Lib.decDigits A = l) := ⟨_, rfl⟩
  obtain ⟨L, hL⟩ : ∃ L, l.length = L := ⟨_, rfl⟩
  have hLd : Hid ((Lib.decDigits A).length = L) := by show _ = _; rw [hl.out]; exact hL
  have hexa := hv.out.exact h0 hE hA.out hLd.out
  rw [hx.out] at hexa
  have hA0 : Hid (0 < A) := hexa.1
  have hu : Hid (t + 18 = x + L) := hexa.2.1
  have hxb1 : -1100 ≤ x := by rw [← hx.out]; unfold Rd.exX; split <;> omega
  have hxb2 : x ≤ 0 := by rw [← hx.out]; unfold Rd.exX; split <;> omega
  have hLb := exlen h1 hE hA.out hA0.out hLd.out
  have hNe : Hid (Rd.Near (Rd.num A x) (Rd.den x) s) := by
    have h := near_exact h0 h1 h2.out hE
    rw [hA.out, hx.out, ← hs.out] at h
    exact h
  have hsl : s < 9218868437227405312 := by have := hs.out; omega
  have hdd : Hid (∀ b ∈ l, Dg.isD b = true) := by rw [← hl.out]; exact Dg.dd_all A
  have hdv : Hid (Dg.dv l = A) := by rw [← hl.out]; exact Dg.dd_dv A
  have hDSk : Hid (∀ k, 1 ≤ k → k < L → (∀ j, 1 ≤ j → j < k → DN A L x s j) → k ≤ 17 ∧ ∀ D, DS A L x s k D → n = D * 10 ^ (18 - k)) := fun k k1 k2 hno => by
    have h := srt_k hv.out h0 h1 h2.out hE hA.out hLd.out k1 k2
    rw [hx.out, ← hs.out] at h
    refine ⟨(h hno).1, fun D hD => hsr.out.uniq ((h hno).2 D hD)⟩
  have hDSa : Hid ((∀ j, 1 ≤ j → j < L → DN A L x s j) → L ≤ 17 ∧ n = A * 10 ^ (18 - L)) := fun hno => by
    have h := srt_all hv.out h0 h1 h2.out hE hA.out hLd.out
    rw [hx.out, ← hs.out] at h
    exact ⟨(h hno).1, hsr.out.uniq (h hno).2⟩
  rw [hA.out, hx.out, hl.out] at hxc
  clear hexa hA hx hLd hv hsr hs h2
  go_enter Tryz.func15, Tryz.ntmps15
  go_wp2_with fail
  refine hxc.out.mono ?_
  rintro e w1 ⟨rfl, hb1⟩
  have hb1H : Hid (Below w.heap.size w w1) := hb1
  clear hb1 hxc
  have hsz : (B l).size = L := by rw [B_size, hL]
  obtain ⟨R, hR⟩ : ∃ R, Hid (B l = R) := ⟨_, rfl⟩
  rw [hR.out] at hsz ⊢
  go_wp2
  go_loopw [6] (fun si wr => ∃ k : Nat, 1 ≤ k ∧ k ≤ L ∧ si = .int .i64 k ∧ Hid (∀ j, 1 ≤ j → j < k → DN A L x s j) ∧ Hid (Below w.heap.size w wr)) (fun si _ => 3000 - (intOf si).toNat)
  case atStart => exact ⟨1, Nat.le_refl _, by have := (Dg.dd_len hA0.out).2.2; rw [hl.out, hL] at this; exact this, rfl, (fun j j1 j2 => absurd j1 (by omega) : ∀ j, 1 ≤ j → j < 1 → DN A L x s j), hb1H⟩
  case round =>
    clear hb1H
    obtain ⟨k, hk1, hkL, rfl, hno, hb⟩ := hrel
    have hszb := hb.out.size
    by_cases hlt : k < L
    · have hlt' : (k : Int) < (L : Int) := by omega
      have hk17 : k ≤ 17 := (hDSk.out k hk1 hlt hno.out).1
      have hDSr : Hid (∀ D, DS A L x s k D → n = D * 10 ^ (18 - k)) := (hDSk.out k hk1 hlt hno.out).2
      obtain ⟨lo, hlo⟩ : ∃ lo, Hid (B (l.take k) = lo) := ⟨_, rfl⟩
      obtain ⟨re, hre⟩ : ∃ re, Hid (B (l.drop k) = re) := ⟨_, rfl⟩
      have e0 : R.extract 0 k = lo := by rw [← hR.out, B_pre, hlo.out]
      have e1 : R.extract k L = re := by rw [← hsz, ← hR.out, B_suf, hre.out]
      have z0 : lo.size = k := by rw [← hlo.out, B_size, List.length_take]; omega
      obtain ⟨r, hr⟩ : ∃ r, L - k = r := ⟨_, rfl⟩
      have z1 : re.size = r := by rw [← hre.out, B_size, List.length_drop]; omega
      have hrb : r ≤ 2000 := by omega
      have hr1 : 1 ≤ r := by omega
      obtain ⟨D, hD⟩ : ∃ D, Hid (A / 10 ^ (L - k) = D) := ⟨_, rfl⟩
      have hspl := dv_split hdd.out k
      rw [hL, hdv.out, hD.out] at hspl
      have hloD : Hid (Dg.dv lo.data.toList = D) := by rw [← hlo.out]; exact hspl.1
      have hlod : Hid (∀ b ∈ lo.data.toList, Dg.isD b = true) := by rw [← hlo.out]; exact fun b h => hdd.out b (List.mem_of_mem_take h)
      have hpre := pre_dd hA0.out hl.out hk1 (by omega)
      rw [hL, hD.out] at hpre
      have hloB : Hid (lo = B (Lib.decDigits D)) := by show _ = _; rw [← hlo.out, hpre]
      have hD0 : Hid (0 < D) := by
        rw [← hD.out]
        have := (Dg.dd_len hA0.out).1
        rw [hl.out, hL] at this
        exact Nat.div_pos (Nat.le_trans (Nat.pow_le_pow_right (by decide) (by omega)) this) (Nat.pow_pos (by decide))
      have hDl : Hid (D < 10 ^ k) := by
        have h := Dg.dv_lt (l.take k) (fun b h => hdd.out b (List.mem_of_mem_take h))
        rw [hspl.1, List.length_take, Nat.min_eq_left (by omega)] at h
        exact h
      have hle : Hid (D * 10 ^ r ≤ A) := by rw [← hD.out, hr]; exact Nat.div_mul_le_self _ _
      have hhl : Hid ((Lib.decDigits (D + 1)).length ≤ 20) := by
        show _ ≤ _
        apply Nat.le_of_not_lt
        intro hc
        have d1 := (Dg.dd_len (u := D + 1) (by omega)).1
        have d2 : 10 ^ 20 ≤ 10 ^ ((Lib.decDigits (D + 1)).length - 1) := Nat.pow_le_pow_right (by decide) (by omega)
        have d3 : 10 ^ k ≤ 10 ^ 17 := Nat.pow_le_pow_right (by decide) hk17
        have := hDl.out
        omega
      have hyx : (x : Int) + (r : Int) = t + (18 - k : Nat) := by have := hu.out; omega
      have hyH : Hid (x + (r : Int) = t + ((18 - k : Nat) : Int)) := hyx
      clear hspl hpre hyx
      go_wp2_with fail
      go_quiet (fail)
      go_wp2_with fail
      have hbq : Hid (Below w.heap.size w (wr.drewN nq)) := below_drewN hb.out nq
      generalize wr.drewN nq = wq at *
      have hszq := hbq.out.size
      clear hb hszb
      refine (rup_c lo D wq (by omega) hloD hlod hD0).mono ?_
      rintro e w2 ⟨rfl, hb2⟩
      have hb2H : Hid (Below w.heap.size w w2) := hbq.out.trans (hb2.mono hszq)
      have hs2 := hb2H.out.size
      clear hb2 hbq hszq
      obtain ⟨hh, hhh⟩ : ∃ hh, Hid (B (Lib.decDigits (D + 1)) = hh) := ⟨_, rfl⟩
      have zh : hh.size ≤ 20 := by rw [← hhh.out, B_size]; exact hhl.out
      have hhD : Hid (Dg.dv hh.data.toList = D + 1) := by rw [← hhh.out]; exact Dg.dd_dv (D + 1)
      have hhd : Hid (∀ b ∈ hh.data.toList, Dg.isD b = true) := by rw [← hhh.out]; exact Dg.dd_all (D + 1)
      rw [hhh.out]
      clear hhl
      go_wp2_with fail
      refine (rread_c lo D (x + (r : Int)) w2 (by omega) hloD hlod (by omega) (by omega)).mono ?_
      rintro e w3 ⟨v1, rfl, hv1, hb3⟩
      obtain ⟨b1, o1, rfl, hn1'⟩ := rd_low hNe.out hA0.out hsl hD0.out hle.out hv1
      have hn1 : Hid (b1 = s ↔ Rd.Near (Rd.num D (x + (r : Nat))) (Rd.den (x + (r : Nat))) s) := hn1'
      have hb3H : Hid (Below w.heap.size w w3) := hb2H.out.trans (hb3.mono hs2)
      have hs3 := hb3H.out.size
      clear hn1' hv1 hb3 hb2H hs2
      go_wp2_with fail
      refine (rread_c hh (D + 1) (x + (r : Int)) w3 (by omega) hhD hhd (by omega) (by omega)).mono ?_
      rintro e w4 ⟨v2, rfl, hv2, hb4⟩
      obtain ⟨b2, o2, rfl, hn2'⟩ := rd_high hsl (Nat.succ_pos D) hv2
      have hn2 : Hid ((b2 = s ∧ o2 = false) ↔ Rd.Near (Rd.num (D + 1) (x + (r : Nat))) (Rd.den (x + (r : Nat))) s) := hn2'
      have hb4H : Hid (Below w.heap.size w w4) := hb3H.out.trans (hb4.mono hs3)
      have hDS1 : Hid (∀ D', (D' = D ∧ b1 = s ∧ ((b2 = s ∧ o2 = false) → ¬ (10 ^ r < 2 * (A % 10 ^ r) ∨ (10 ^ r = 2 * (A % 10 ^ r) ∧ D % 2 = 1)))) ∨ (D' = D + 1 ∧ (b2 = s ∧ o2 = false) ∧ (b1 = s → (10 ^ r < 2 * (A % 10 ^ r) ∨ (10 ^ r = 2 * (A % 10 ^ r) ∧ D % 2 = 1)))) → n = D' * 10 ^ (18 - k)) := fun D' h => by
        refine hDSr.out D' ?_
        unfold DS
        rw [hD.out, hr, ← hn1.out, ← hn2.out]
        exact h
      have hDN1 : Hid (b1 ≠ s → ¬ (b2 = s ∧ o2 = false) → ∀ j, 1 ≤ j → j < k + 1 → DN A L x s j) := fun c1 c2 j j1 j2 => by
        by_cases hj : j < k
        · exact hno.out j j1 hj
        · have : j = k := by omega
          subst this
          unfold DN
          rw [hD.out, hr, ← hn1.out, ← hn2.out]
          exact ⟨c1, c2⟩
      clear hn2' hv2 hb4 hb3H hs3 hn1 hn2 hDSr hno hNe hDSk hDSa hloD hlod hhD hhd hle
      have hlow : Hid (n = D * 10 ^ (18 - k) → ∃ (D' j : Nat) (y : Int), (Ending.returned (.tuple #[.string lo, .int .i64 (x + (r : Int))]) = Ending.returned (.tuple #[.string (B (Lib.decDigits D')), .int .i64 y])) ∧ Hid (0 < D' ∧ n = D' * 10 ^ j ∧ y = t + j)) := fun h => ⟨D, 18 - k, x + (r : Int), by rw [hloB.out], hD0.out, h, hyH.out⟩
      have hhig : Hid (n = (D + 1) * 10 ^ (18 - k) → ∃ (D' j : Nat) (y : Int), (Ending.returned (.tuple #[.string hh, .int .i64 (x + (r : Int))]) = Ending.returned (.tuple #[.string (B (Lib.decDigits D')), .int .i64 y])) ∧ Hid (0 < D' ∧ n = D' * 10 ^ j ∧ y = t + j)) := fun h => ⟨D + 1, 18 - k, x + (r : Int), by rw [hhh.out], Nat.succ_pos D, h, hyH.out⟩
      by_cases c1 : b1 = s
      · have c1' : ((b1 : Int) == (s : Int)) = true := beq_iff_eq.2 (by omega)
        by_cases c2 : b2 = s ∧ o2 = false
        · obtain ⟨c2a, c2b⟩ := c2
          have c2' : ((b2 : Int) == (s : Int)) = true := beq_iff_eq.2 (by omega)
          have hx0 : l[k]? = some (re[0]'(by omega)) := by
            have h := ba_get re 0 (by omega)
            rw [show re.data.toList = l.drop k by rw [← hre.out]; rfl, List.getElem?_drop, Nat.add_zero] at h
            exact h
          obtain ⟨i, hi⟩ : ∃ i, k = i + 1 := ⟨k - 1, by omega⟩
          have hz0 : l[k - 1]? = some (lo[i]'(by omega)) := by
            have h := ba_get lo i (by omega)
            rw [show lo.data.toList = l.take k by rw [← hlo.out]; rfl, List.getElem?_take, if_pos (by omega)] at h
            rw [show k - 1 = i by omega]; exact h
          have htie := tie_iff hdd.out hk1 (by omega) hx0 hz0
          rw [hL, hdv.out, hD.out, hr] at htie
          have hzd := of_decide_eq_true (hdd.out _ (List.mem_of_getElem? hz0))
          have e2 : re.extract 1 r = B (l.drop (k + 1)) := by rw [← z1, ← hre.out, B_suf, List.drop_drop, Nat.add_comm]
          have hzc : Hid (Calls Tryz.prog 32 #[.string (B (l.drop (k + 1)))] w4 fun e w' => e = .returned (.bool ((l.drop (k + 1)).all fun b => b.toNat == 48)) ∧ w4 = w') := rzeros_c _ w4 (by rw [List.length_drop]; omega)
          generalize (l.drop (k + 1)).all (fun b => b.toNat == 48) = az at *
          generalize B (l.drop (k + 1)) = rs at *
          have hlo2 : Hid (¬ (53 < (re[0]'(by omega)).toNat ∨ ((re[0]'(by omega)).toNat = 53 ∧ (¬ (az = true) ∨ ((lo[i]'(by omega)).toNat - 48) % 2 = 1))) → n = D * 10 ^ (18 - k)) := fun h => hDS1.out D (.inl ⟨rfl, c1, fun _ h2 => h (htie.1 h2)⟩)
          have hhi2 : Hid ((53 < (re[0]'(by omega)).toNat ∨ ((re[0]'(by omega)).toNat = 53 ∧ (¬ (az = true) ∨ ((lo[i]'(by omega)).toNat - 48) % 2 = 1))) → n = (D + 1) * 10 ^ (18 - k)) := fun h => hDS1.out (D + 1) (.inr ⟨rfl, ⟨c2a, c2b⟩, fun _ => htie.2 h⟩)
          have hre0 : 0 < re.size := by omega
          have hloi : i < lo.size := by omega
          subst c2b
          clear htie hDS1 hDN1 hx0 hz0 c1 c2a
          by_cases t1 : 53 < (re[0]'hre0).toNat
          · have hendH := hhig.out (hhi2.out (.inl t1))
            have t1' : (53 : Int) < ((re[0]'hre0).toNat : Int) := by omega
            go_wp2_with fail
            go_ret2
            obtain ⟨D', j, y, g1, g2⟩ := hendH
            exact ⟨D', j, y, g1, g2, hb4H.out⟩
          · by_cases t2 : (re[0]'hre0).toNat = 53
            · have t1' : decide ((53 : Int) < ((re[0]'hre0).toNat : Int)) = false := decide_eq_false (by omega)
              have t2' : (((re[0]'hre0).toNat : Int) == 53) = true := beq_iff_eq.2 (by omega)
              cases az with
              | false =>
                have hendH := hhig.out (hhi2.out (.inr ⟨t2, .inl (by decide)⟩))
                clear hlo2 hhi2 hlow hhig
                go_wp2_with fail
                refine hzc.out.mono ?_
                rintro e w' ⟨rfl, rfl⟩
                clear hzc
                go_wp2_with fail
                go_ret2
                obtain ⟨D', j, y, g1, g2⟩ := hendH
                exact ⟨D', j, y, g1, g2, hb4H.out⟩
              | true =>
                obtain ⟨z, hz⟩ : ∃ z : Nat, Hid ((lo[i]'hloi).toNat - 48 = z) := ⟨_, rfl⟩
                have hzw : IntKind.u8.wrap (((lo[i]'hloi).toNat : Int) - 48) = (z : Int) := by have := hz.out; simp only [IntKind.wrap_u8]; omega
                have hzl : z ≤ 9 := by have := hz.out; omega
                have hzI : ((lo[i]'hloi).toNat : Int) - 48 = (z : Int) := by have := hz.out; omega
                by_cases c5 : z % 2 = 1
                · have hendH := hhig.out (hhi2.out (.inr ⟨t2, .inr (by rw [hz.out]; exact c5)⟩))
                  have c5' : (((z : Int) % 2) == 1) = true := beq_iff_eq.2 (by omega)
                  clear hlo2 hhi2 hlow hhig
                  go_wp2_with fail
                  refine hzc.out.mono ?_
                  rintro e w' ⟨rfl, rfl⟩
                  clear hzc
                  go_wp2_with fail
                  go_ret2
                  obtain ⟨D', j, y, g1, g2⟩ := hendH
                  exact ⟨D', j, y, g1, g2, hb4H.out⟩
                · have hendH := hlow.out (hlo2.out (by rw [hz.out]; intro h; rcases h with h | ⟨_, h | h⟩; exact t1 h; exact h rfl; exact c5 h))
                  have c5' : (((z : Int) % 2) == 1) = false := beq_eq_false_iff_ne.2 (by omega)
                  clear hlo2 hhi2 hlow hhig
                  go_wp2_with fail
                  refine hzc.out.mono ?_
                  rintro e w' ⟨rfl, rfl⟩
                  clear hzc
                  go_wp2_with fail
                  go_ret2
                  obtain ⟨D', j, y, g1, g2⟩ := hendH
                  exact ⟨D', j, y, g1, g2, hb4H.out⟩
            · have hendH := hlow.out (hlo2.out (by omega))
              have t1' : decide ((53 : Int) < ((re[0]'hre0).toNat : Int)) = false := decide_eq_false (by omega)
              have t2' : (((re[0]'hre0).toNat : Int) == 53) = false := beq_eq_false_iff_ne.2 (by omega)
              go_wp2_with fail
              go_ret2
              obtain ⟨D', j, y, g1, g2⟩ := hendH
              exact ⟨D', j, y, g1, g2, hb4H.out⟩
        · have hend := hlow.out (hDS1.out D (.inl ⟨rfl, c1, fun h => absurd h c2⟩))
          have hendH : Hid (∃ (D' j : Nat) (y : Int), (Ending.returned (.tuple #[.string lo, .int .i64 (x + (r : Int))]) = Ending.returned (.tuple #[.string (B (Lib.decDigits D')), .int .i64 y])) ∧ Hid (0 < D' ∧ n = D' * 10 ^ j ∧ y = t + j)) := hend
          clear hend hlow hhig hDS1 hDN1
          by_cases c3 : b2 = s
          · have c2' : ((b2 : Int) == (s : Int)) = true := beq_iff_eq.2 (by omega)
            have c4 : o2 = true := by cases o2 with | true => rfl | false => exact absurd ⟨c3, rfl⟩ c2
            subst c4
            clear c1 c2 c3
            go_wp2_with fail
            go_ret2
            obtain ⟨D', j, y, g1, g2⟩ := hendH.out
            exact ⟨D', j, y, g1, g2, hb4H.out⟩
          · have c2' : ((b2 : Int) == (s : Int)) = false := beq_eq_false_iff_ne.2 (by omega)
            clear c1 c2 c3
            go_wp2_with fail
            go_ret2
            obtain ⟨D', j, y, g1, g2⟩ := hendH.out
            exact ⟨D', j, y, g1, g2, hb4H.out⟩
      · have c1' : ((b1 : Int) == (s : Int)) = false := beq_eq_false_iff_ne.2 (by omega)
        by_cases c2 : b2 = s ∧ o2 = false
        · obtain ⟨c2a, c2b⟩ := c2
          have c2' : ((b2 : Int) == (s : Int)) = true := beq_iff_eq.2 (by omega)
          have hendH : Hid (∃ (D' j : Nat) (y : Int), (Ending.returned (.tuple #[.string hh, .int .i64 (x + (r : Int))]) = Ending.returned (.tuple #[.string (B (Lib.decDigits D')), .int .i64 y])) ∧ Hid (0 < D' ∧ n = D' * 10 ^ j ∧ y = t + j)) := hhig.out (hDS1.out (D + 1) (.inr ⟨rfl, ⟨c2a, c2b⟩, fun h => absurd h c1⟩))
          subst c2b
          clear hlow hhig hDS1 hDN1 c1 c2a
          go_wp2_with fail
          go_ret2
          obtain ⟨D', j, y, g1, g2⟩ := hendH.out
          exact ⟨D', j, y, g1, g2, hb4H.out⟩
        · have hnx : Hid (∀ j, 1 ≤ j → j < k + 1 → DN A L x s j) := hDN1.out c1 c2
          clear hlow hhig hDS1 hDN1
          by_cases c3 : b2 = s
          · have c2' : ((b2 : Int) == (s : Int)) = true := beq_iff_eq.2 (by omega)
            have c4 : o2 = true := by cases o2 with | true => rfl | false => exact absurd ⟨c3, rfl⟩ c2
            subst c4
            clear c1 c2 c3
            go_wp2_with fail
            go_roundw
            case rel => exact ⟨k + 1, by omega, by omega, by go_num, hnx, hb4H⟩
            case measure => simp [intOf]; omega
          · have c2' : ((b2 : Int) == (s : Int)) = false := beq_eq_false_iff_ne.2 (by omega)
            clear c1 c2 c3
            go_wp2_with fail
            go_roundw
            case rel => exact ⟨k + 1, by omega, by omega, by go_num, hnx, hb4H⟩
            case measure => simp [intOf]; omega
    · have hlt' : ¬ ((k : Int) < (L : Int)) := by omega
      have hkL' : k = L := by omega
      subst hkL'
      have hfin := hDSa.out hno.out
      have hend : Hid (∃ (D j : Nat) (y : Int), (Ending.returned (.tuple #[.string R, .int .i64 x]) = Ending.returned (.tuple #[.string (B (Lib.decDigits D)), .int .i64 y])) ∧ Hid (0 < D ∧ n = D * 10 ^ j ∧ y = t + j)) := ⟨A, 18 - k, x, by rw [hl.out, hR.out], hA0.out, hfin.2, by have := hu.out; have := hfin.1; omega⟩
      clear hfin
      go_wp2
      go_ret2
      obtain ⟨D, j, y, g1, g2⟩ := hend.out
      exact ⟨D, j, y, g1, g2, hb.out⟩
end Go.Proofs.YtmdnmhbfdceliaaGreatDoor
