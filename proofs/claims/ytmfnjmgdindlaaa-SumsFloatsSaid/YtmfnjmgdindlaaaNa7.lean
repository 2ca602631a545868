/-
  timbrenat: push, Div.
-/
import Derived.Test.YtmfnjmgdindlaaaNa4
import Derived.Test.YtmfnjmgdindlaaaNa6
namespace Go.Proofs.Ytmfnjmgdindlaaa
open Flo Go.RowKit
set_option maxRecDepth 100000 in
set_option maxHeartbeats 1000000 in
theorem npush_c (B n d : Nat) (v : Value) (w : World) (hr : Nm w B v n) (hk : Wd.nw W32 n ≤ 100000) (hd : d < 4294967296) :
    Calls Try.prog 62 #[v, .int .u32 d] w fun e w' => ∃ v', e = .returned v' ∧ Nm w' w.heap.size v' (n * 2 + d) ∧ Below w.heap.size w w' := by
  have hm : Hid (Calls Try.prog 67 #[v, .int .u32 2, .int .u32 d] w fun e w' => ∃ v', e = .returned v' ∧ Nm w' w.heap.size v' (n * 2 + d) ∧ Below w.heap.size w w') := nmul_c B 2 d n v w hr hk (by decide) hd
  obtain ⟨ao, cap, rfl⟩ := Row.slice hr
  clear hr
  go_enter Try.func62, Try.ntmps62
  go_wp2_with fail
  refine hm.out.mono ?_
  rintro e w' ⟨v', rfl, hv, hb⟩
  have hvH : Hid (Nm w' w.heap.size v' (n * 2 + d)) := hv
  have hbH : Hid (Below w.heap.size w w') := hb
  clear hm hv hb
  go_wp2
  go_ret
  exact ⟨_, rfl, hvH.out, hbH.out⟩
theorem div_bit {N D i : Nat} (hD : 0 < D) : N / 2 ^ i / D = N / 2 ^ (i + 1) / D * 2 + (if D ≤ N / 2 ^ (i + 1) % D * 2 + N / 2 ^ i % 2 then 1 else 0) ∧
    N / 2 ^ i % D = (if D ≤ N / 2 ^ (i + 1) % D * 2 + N / 2 ^ i % 2 then N / 2 ^ (i + 1) % D * 2 + N / 2 ^ i % 2 - D else N / 2 ^ (i + 1) % D * 2 + N / 2 ^ i % 2) := by
  have e : N / 2 ^ (i + 1) = N / 2 ^ i / 2 := by rw [Nat.pow_succ, Nat.div_div_eq_div_mul]
  rw [e]
  generalize N / 2 ^ i = M
  have h1 := Nat.div_add_mod (M / 2) D
  have h2 := Nat.mod_lt (M / 2) hD
  generalize M / 2 / D = Q at *
  generalize hR : M / 2 % D = R at *
  have h3 : M = D * (Q * 2) + (R * 2 + M % 2) := by
    have : M = M / 2 * 2 + M % 2 := by omega
    have h4 : D * (Q * 2) = D * Q * 2 := by rw [Nat.mul_assoc]
    rw [h4]
    omega
  have h5 : M % 2 < 2 := by omega
  clear hR
  generalize M % 2 = d at *
  split
  · rename_i hc
    have h4 : M = D * (Q * 2 + 1) + (R * 2 + d - D) := by rw [Nat.mul_add, Nat.mul_one]; omega
    have hlt : R * 2 + d - D < D := by omega
    exact ⟨by rw [h4, Nat.mul_add_div hD, Nat.div_eq_of_lt hlt, Nat.add_zero], by rw [h4, Nat.mul_add_mod, Nat.mod_eq_of_lt hlt]⟩
  · rename_i hc
    have hlt : R * 2 + d < D := by omega
    exact ⟨by rw [h3, Nat.mul_add_div hD, Nat.div_eq_of_lt hlt, Nat.add_zero], by rw [h3, Nat.mul_add_mod, Nat.mod_eq_of_lt hlt]⟩
theorem div_top {N D F : Nat} (hD : 0 < D) (h : bitLen N + 1 - bitLen D ≤ F) : N / 2 ^ F < D := by
  have h1 := bitLen_hi N
  have h2 := bitLen_lo hD
  have h3 := bitLen_pos hD
  rw [Nat.div_lt_iff_lt_mul (Nat.pow_pos (by decide))]
  refine Nat.lt_of_lt_of_le h1 ?_
  refine Nat.le_trans ?_ (Nat.mul_le_mul_right _ h2)
  rw [← Nat.pow_add]
  exact Nat.pow_le_pow_right (by decide) (by omega)
set_option maxRecDepth 100000 in
set_option maxHeartbeats 1000000 in
theorem ndiv_b (B C N D n d k l : Nat) (ao bo : Option Addr) (cap cbp : Nat) (w : World) (huH : Hid (Nm w B (.slice ao k cap) N)) (hvH : Hid (Nm w C (.slice bo l cbp) D)) (hk : k ≤ 10000) (hl : l ≤ 10000) (hkN : Hid (k = Wd.nw W32 N)) (hlD : Hid (l = Wd.nw W32 D))
    (hn : Hid (n = bitLen N)) (hd : Hid (d = bitLen D)) (hnl : n ≤ 320000) (hdl : d ≤ 320000) (hX : (n : Int) - (d : Int) + 1 < 0) (hlt : Hid (N < D)) :
    Calls Try.prog 52 #[.slice ao k cap, .slice bo l cbp] w fun e w' => ∃ v', e = .returned (.tuple #[.int .u64 ((N / D : Nat) : Int), v']) ∧ Nm w' w.heap.size v' (N % D) ∧ Below w.heap.size w w' := by
  have hs1 : Hid (Calls Try.prog 51 #[.slice ao k cap] w fun e w'' => e = .returned (.int .i64 (n : Nat)) ∧ w = w'') := by rw [hn.out]; exact nsize_c B N _ w huH.out (by have := hkN.out; omega)
  have hs2 : Hid (Calls Try.prog 51 #[.slice bo l cbp] w fun e w'' => e = .returned (.int .i64 (d : Nat)) ∧ w = w'') := by rw [hd.out]; exact nsize_c C D _ w hvH.out (by have := hlD.out; omega)
  have hkk : Hid (Wd.nw W32 N ≤ 100000) := by have := hkN.out; show _ ≤ _; omega
  go_enter Try.func52, Try.ntmps52
  go_wp2_with fail
  refine hs1.out.mono ?_
  rintro e w' ⟨rfl, rfl⟩
  go_wp2_with fail
  refine hs2.out.mono ?_
  rintro e w' ⟨rfl, rfl⟩
  clear hs1 hs2
  go_wp2_with fail
  refine (ntop_c B N 0 _ w huH.out hkk.out (by omega)).mono ?_
  rintro e w1 ⟨v1, rfl, hv1, hb1⟩
  have hv1H : Hid (Nm w1 w.heap.size v1 (N % D)) := by rw [Nat.mod_eq_of_lt hlt.out]; rw [Nat.pow_zero, Nat.div_one] at hv1; exact hv1
  have hq0 : Hid (N / D = 0) := Nat.div_eq_of_lt hlt.out
  have hb1H : Hid (Below w.heap.size w w1) := hb1
  have hn0 : (0 : Int) ≤ (n : Int) := by omega
  clear hv1 hb1
  go_wp2_with fail
  refine wp_loop_rounds 1 ?_
  rw [rounds_succ]
  go_wp2
  go_ret2
  refine ⟨v1, ?_, hv1H.out, hb1H.out⟩
  rw [hq0.out]; rfl
set_option maxRecDepth 100000 in
set_option maxHeartbeats 1000000 in
theorem ndiv_a (B C N D n d F k l : Nat) (ao bo : Option Addr) (cap cbp : Nat) (w : World) (huH : Hid (Nm w B (.slice ao k cap) N)) (hvH : Hid (Nm w C (.slice bo l cbp) D)) (hk : k ≤ 10000) (hl : l ≤ 10000) (hkN : Hid (k = Wd.nw W32 N)) (hlD : Hid (l = Wd.nw W32 D)) (hDH : Hid (0 < D)) (hq : Hid (N / D < 18446744073709551616))
    (hn : Hid (n = bitLen N)) (hd : Hid (d = bitLen D)) (hdl : d ≤ 320000) (hX : (n : Int) - (d : Int) + 1 = (F : Int)) (hFn : (F : Int) ≤ (n : Int)) (hF : Hid (N / 2 ^ F < D)) (hFl : F ≤ 320000) :
    Calls Try.prog 52 #[.slice ao k cap, .slice bo l cbp] w fun e w' => ∃ v', e = .returned (.tuple #[.int .u64 ((N / D : Nat) : Int), v']) ∧ Nm w' w.heap.size v' (N % D) ∧ Below w.heap.size w w' := by
  have hs1 : Hid (Calls Try.prog 51 #[.slice ao k cap] w fun e w'' => e = .returned (.int .i64 (n : Nat)) ∧ w = w'') := by rw [hn.out]; exact nsize_c B N _ w huH.out (by have := hkN.out; omega)
  have hs2 : Hid (Calls Try.prog 51 #[.slice bo l cbp] w fun e w'' => e = .returned (.int .i64 (d : Nat)) ∧ w = w'') := by rw [hd.out]; exact nsize_c C D _ w hvH.out (by have := hlD.out; omega)
  have hkk : Hid (Wd.nw W32 N ≤ 100000) := by have := hkN.out; show _ ≤ _; omega
  go_enter Try.func52, Try.ntmps52
  go_wp2_with fail
  refine hs1.out.mono ?_
  rintro e w' ⟨rfl, rfl⟩
  go_wp2_with fail
  refine hs2.out.mono ?_
  rintro e w' ⟨rfl, rfl⟩
  clear hs1 hs2
  go_wp2_with fail
  refine (ntop_c B N F _ w huH.out hkk.out (by omega)).mono ?_
  rintro e w1 ⟨v1, rfl, hv1, hb1⟩
  have hv1H : Hid (Nm w1 w.heap.size v1 (N / 2 ^ F % D)) := by rw [Nat.mod_eq_of_lt hF.out]; exact hv1
  have hb1H : Hid (Below w.heap.size w w1) := hb1
  clear hv1 hb1
  go_wp2_with fail
  go_loopw [8, 9, 10] (fun sr sq si wr => ∃ j : Nat, j ≤ F ∧ si = .int .i64 ((j : Int) - 1) ∧ sq = .int .u64 ((N / 2 ^ j / D : Nat) : Int) ∧ Hid (Nm wr w.heap.size sr (N / 2 ^ j % D)) ∧ Hid (Below w.heap.size w wr)) (fun _ _ si _ => (intOf si + 1).toNat)
  case atStart => exact ⟨F, Nat.le_refl _, rfl, by rw [Nat.div_eq_of_lt hF.out]; rfl, hv1H, hb1H⟩
  case round =>
    clear hv1H hb1H
    obtain ⟨j, hj, rfl, rfl, hrow, hb⟩ := hrel
    have hsz := hb.out.size
    by_cases h0 : j = 0
    · subst h0
      have hq1 : Hid (N / 2 ^ 0 / D = N / D) := by show _ = _; rw [Nat.pow_zero, Nat.div_one]
      have hr1 : Hid (Nm wr w.heap.size u8 (N % D)) := by have := hrow.out; rw [Nat.pow_zero, Nat.div_one] at this; exact this
      clear hrow
      go_wp2
      go_ret2
      refine ⟨u8, ?_, hr1.out, hb.out⟩
      rw [← hq1.out]; rfl
    · obtain ⟨i, rfl⟩ : ∃ i, j = i + 1 := ⟨j - 1, by omega⟩
      have hi0 : (((i + 1 : Nat) : Int) - 1) = (i : Int) := by omega
      rw [hi0]
      clear hi0
      have hst := div_bit (N := N) (i := i) hDH.out
      have hqN : N / 2 ^ i / D ≤ N / D := Nat.div_le_div_right (Nat.div_le_self _ _)
      have hRD : N / 2 ^ (i + 1) % D < D := Nat.mod_lt _ hDH.out
      have hdig : Hid (Calls Try.prog 63 #[.slice ao k cap, .int .i64 i] wr fun e w' => e = .returned (.int .u32 ((N / 2 ^ i % 2 : Nat) : Int)) ∧ wr = w') := ndigit_c B N i _ wr (huH.out.under hb.out) (by have := hkN.out; omega) (by have := hn.out; omega)
      have hbt : N / 2 ^ i % 2 < 2 := Nat.mod_lt _ (by decide)
      have hN64 := hq.out
      have hnwD : Wd.nw W32 (N / 2 ^ (i + 1) % D) ≤ l := by rw [hlD.out]; exact Wd.nw_mono W32_2 (by omega)
      have hq1 : Hid (N / 2 ^ i / D = _) := hst.1
      have hr1 : Hid (N / 2 ^ i % D = _) := hst.2
      have hRDH : Hid (N / 2 ^ (i + 1) % D < D) := hRD
      clear hst hRD
      generalize N / 2 ^ (i + 1) % D = R at hrow hq1 hr1 hnwD hRDH
      generalize N / 2 ^ (i + 1) / D = Q at hq1 ⊢
      generalize N / 2 ^ i % 2 = b at hdig hbt hq1 hr1
      have hQ : Hid (Q * 2 + 1 < 18446744073709551616 ∨ ¬ D ≤ R * 2 + b) := by
        by_cases hc : D ≤ R * 2 + b
        · left
          have := hq1.out
          rw [if_pos hc] at this
          omega
        · exact .inr hc
      have hQ2 : Q * 2 < 18446744073709551616 := by
        have := hq1.out
        split at this <;> omega
      have eQ : IntKind.u64.wrap ((Q : Int) * 2) = ((Q * 2 : Nat) : Int) := by rw [show (Q : Int) * 2 = ((Q * 2 : Nat) : Int) by omega]; exact wrapId _ (by omega)
      have hnw2 : Hid (Wd.nw W32 (R * 2 + b) ≤ 100000) := by
        have h1 : R * 2 + b < W32 ^ (l + 1) := by
          have h2 := Wd.lt_pow_nw W32_2 R
          have h3 : W32 ^ Wd.nw W32 R ≤ W32 ^ l := Nat.pow_le_pow_right W32_0 hnwD
          rw [Nat.pow_succ]
          have h4 : (R + 1) * 4294967296 ≤ W32 ^ l * 4294967296 := Nat.mul_le_mul_right _ (by omega)
          show _ < W32 ^ l * 4294967296
          omega
        have := Wd.nw_le W32_2 h1
        show _ ≤ _
        omega
      clear hqN hN64
      go_wp2_with fail
      refine hdig.out.mono ?_
      rintro e w' ⟨rfl, rfl⟩
      clear hdig
      go_wp2_with fail
      refine (npush_c w.heap.size R b u8 wr hrow.out (by omega) (by omega)).mono ?_
      rintro e w2 ⟨v2, rfl, hv2, hb2⟩
      have hv2H : Hid (Nm w2 w.heap.size v2 (R * 2 + b)) := hv2.mono hsz
      have hb2H : Hid (Below w.heap.size w w2) := hb.out.trans (hb2.mono hsz)
      clear hv2 hb2 hrow hb
      have hsz2 := hb2H.out.size
      go_wp2_with fail
      have hcp : Hid (Calls Try.prog 38 #[v2, .slice bo l cbp] w2 fun e w' => e = .returned (.int .i64 (sgnOf (R * 2 + b) D)) ∧ ∃ q, w' = w2.drewN q) := ncmp_c w.heap.size C (R * 2 + b) D _ _ w2 hv2H.out (hvH.out.under hb2H.out) (by have := hnw2.out; omega)
      refine hcp.out.mono ?_
      rintro e w' ⟨rfl, q, rfl⟩
      clear hcp
      by_cases hc : D ≤ R * 2 + b
      · have hsg : (0 : Int) ≤ sgnOf (R * 2 + b) D := by unfold sgnOf; rw [if_neg (by omega)]; split <;> omega
        have hQ1 : Q * 2 + 1 < 18446744073709551616 := by rcases hQ.out with h | h; exact h; exact absurd hc h
        have hq2 : Hid (N / 2 ^ i / D = Q * 2 + 1) := by rw [hq1.out]; show _ = _; rw [if_pos hc]
        have hr2 : Hid (N / 2 ^ i % D = R * 2 + b - D) := by rw [hr1.out]; show _ = _; rw [if_pos hc]
        have hcH : Hid (D ≤ R * 2 + b) := hc
        have hbq : Hid (Below w.heap.size w (w2.drewN q)) := below_drewN hb2H.out q
        generalize sgnOf (R * 2 + b) D = sg1 at hsg
        clear hq1 hr1 hQ hc eQ
        go_wp2_with fail
        refine (nsub_c w.heap.size C (R * 2 + b) D v2 _ (w2.drewN q) hv2H.out (hvH.out.under hbq.out) hnw2.out hcH.out).mono ?_
        rintro e w3 ⟨v3, rfl, hv3, hb3⟩
        have hv3H : Hid (Nm w3 w.heap.size v3 (N / 2 ^ i % D)) := by rw [hr2.out]; exact hv3.mono hsz2
        have hb3H : Hid (Below w.heap.size w w3) := hbq.out.trans (hb3.mono hsz2)
        clear hv3 hb3 hv2H hb2H hbq
        go_wp2
        go_roundw
        case rel => exact ⟨i, by omega, by go_num, by rw [hq2.out]; go_num, hv3H, hb3H⟩
        case measure => simp [intOf]
      · have hsg : ¬ ((0 : Int) ≤ sgnOf (R * 2 + b) D) := by unfold sgnOf; rw [if_pos (by omega)]; omega
        have hq2 : Hid (N / 2 ^ i / D = Q * 2) := by rw [hq1.out]; show _ = _; rw [if_neg hc]; rfl
        have hr2 : Hid (N / 2 ^ i % D = R * 2 + b) := by rw [hr1.out]; show _ = _; rw [if_neg hc]
        have hbq : Hid (Below w.heap.size w (w2.drewN q)) := below_drewN hb2H.out q
        have hv3H : Hid (Nm (w2.drewN q) w.heap.size v2 (N / 2 ^ i % D)) := by rw [hr2.out]; exact hv2H.out
        generalize sgnOf (R * 2 + b) D = sg1 at hsg
        clear hq1 hr1 hQ hc eQ
        go_wp2
        go_roundw
        case rel => exact ⟨i, by omega, by go_num, by rw [hq2.out]; go_num, hv3H, hbq⟩
        case measure => simp [intOf]
theorem ndiv_c (B C N D : Nat) (u v : Value) (w : World) (hu : Nm w B u N) (hv : Nm w C v D) (hN : Wd.nw W32 N ≤ 10000) (hD1 : Wd.nw W32 D ≤ 10000) (hD : 0 < D) (hq : Hid (N / D < 18446744073709551616)) :
    Calls Try.prog 52 #[u, v] w fun e w' => ∃ v', e = .returned (.tuple #[.int .u64 ((N / D : Nat) : Int), v']) ∧ Nm w' w.heap.size v' (N % D) ∧ Below w.heap.size w w' := by
  have l1 := bit_nw32 (n := N)
  have l2 := bit_nw32 (n := D)
  have l3 := bitLen_pos hD
  obtain ⟨ao, cap, rfl⟩ := Row.slice hu
  obtain ⟨bo, cbp, rfl⟩ := Row.slice hv
  by_cases hc : bitLen N + 1 < bitLen D
  · refine ndiv_b B C N D (bitLen N) (bitLen D) _ _ ao bo cap cbp w hu hv hN hD1 rfl rfl rfl rfl (by omega) (by omega) (by omega) ?_
    have h := div_top (N := N) (F := 0) hD (by omega)
    rw [Nat.pow_zero, Nat.div_one] at h
    exact h
  · exact ndiv_a B C N D (bitLen N) (bitLen D) (bitLen N + 1 - bitLen D) _ _ ao bo cap cbp w hu hv hN hD1 rfl rfl hD hq rfl rfl (by omega) (by omega) (by omega) (div_top hD (Nat.le_refl _)) (by omega)
end Go.Proofs.Ytmfnjmgdindlaaa
