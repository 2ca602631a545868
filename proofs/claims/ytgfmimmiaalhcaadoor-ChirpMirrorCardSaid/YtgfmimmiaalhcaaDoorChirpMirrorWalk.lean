/-
  The walk of ChirpMirror.
-/
import Derived.Test.YtgfmimmiaalhcaaDoorCm0
import Derived.Test.YtgfmimmiaalhcaaDoorLc2
import Derived.Test.YtgfmimmiaalhcaaDoorRows
namespace Go.Proofs.YtgfmimmiaalhcaaDoor
open Flo Go.RowKit
theorem um (n : Int) (q : Nat) (hq : 0 < q) : ∃ r : Nat, r < q ∧ (IntKind.u64.wrap n).tmod (q : Int) = (r : Int) := by
  rw [IntKind.wrap_u64, Int.tmod_eq_emod_of_nonneg (by omega)]
  refine ⟨((n % 18446744073709551616) % (q : Int)).toNat, ?_, ?_⟩
  · have h1 := Int.emod_lt_of_pos (n % 18446744073709551616) (show (0 : Int) < (q : Int) by omega)
    have h2 := Int.emod_nonneg (n % 18446744073709551616) (show (q : Int) ≠ 0 by omega)
    omega
  · have h2 := Int.emod_nonneg (n % 18446744073709551616) (show (q : Int) ≠ 0 by omega)
    omega
theorem t40 (k : Int) : -1099511627776 < k.tmod 1099511627776 ∧ k.tmod 1099511627776 < 1099511627776 :=
  ⟨by have := Int.lt_tmod_of_pos k (show (0 : Int) < 1099511627776 by omega); omega, Int.tmod_lt_of_pos k (by omega)⟩
theorem i64_and0 (a b : Nat) (ha : a ≤ 65536) (hb : b ≤ 65536) (h : a &&& b = 0) : bits .and .i64 (a : Int) (b : Int) = 0 := by
  show IntKind.i64.wrap ((BitVec.ofInt 64 (a : Int) &&& BitVec.ofInt 64 (b : Int)).toNat : Int) = 0
  rw [BitVec.toNat_and, BitVec.ofInt_natCast, BitVec.ofInt_natCast, BitVec.toNat_ofNat, BitVec.toNat_ofNat, Nat.mod_eq_of_lt (by omega), Nat.mod_eq_of_lt (by omega), h]
  rfl
set_option maxRecDepth 100000 in
set_option maxHeartbeats 8000000 in
theorem mirror_w (n0 j0 more : Int) (w : World) :
    Calls Tryd.prog 6 #[.int .i64 n0, .int .i64 j0, .int .i64 more] w fun e w' => e = .returned (.bool true) ∧ Below w.heap.size w w' := by
  obtain ⟨r, hr, er⟩ := um n0 2000 (by decide)
  obtain ⟨r2, hr2, er2⟩ := um more 50 (by decide)
  have erH : Hid ((IntKind.u64.wrap n0).tmod 2000 = (r : Int)) := er
  have er2H : Hid ((IntKind.u64.wrap more).tmod 50 = (r2 : Int)) := er2
  obtain ⟨J, hJ⟩ : ∃ J, j0.tmod 1099511627776 = J := ⟨_, rfl⟩
  have hJb := t40 j0
  rw [hJ] at hJb
  have hJ1 := hJb.1
  have hJ2 := hJb.2
  obtain ⟨n, hn, hn1⟩ : ∃ n : Nat, Hid (n = 1 + r) ∧ (1 : Int) + (r : Int) = (n : Int) := ⟨1 + r, (rfl : _ = _), by omega⟩
  have n0' : 0 < n := by have := hn.out; omega
  have n1' : n ≤ 2000 := by have := hn.out; omega
  obtain ⟨M, hM, hM1⟩ : ∃ M : Nat, Hid (M = 2 * n) ∧ (2 : Int) * (n : Int) = (M : Int) := ⟨2 * n, (rfl : _ = _), by omega⟩
  have hM0 : Hid (0 < M ∧ M ≤ 4194304) := by show _ ∧ _; rw [hM.out]; omega
  have hM2 : M ≤ 4000 := by have := hM.out; omega
  have hM3 : 2 ≤ M := by have := hM.out; omega
  obtain ⟨K, hK, hK1⟩ : ∃ K : Nat, Hid (2 * n - 1 = K) ∧ (M : Int) - 1 = (K : Int) := ⟨2 * n - 1, (rfl : _ = _), by have := hM.out; omega⟩
  obtain ⟨m, hm, hm1⟩ : ∃ m : Nat, Hid (m = K + r2) ∧ (K : Int) + (r2 : Int) = (m : Int) := ⟨K + r2, (rfl : _ = _), by omega⟩
  have hK2 : K ≤ 3999 := by have := hK.out; omega
  have hK3 : 1 ≤ K := by have := hK.out; omega
  have hm2 : m ≤ 4049 := by have := hm.out; omega
  have hm3 : K ≤ m := by have := hm.out; omega
  have hnm : Hid (2 * n - 1 ≤ m) := by show _ ≤ _; rw [hK.out]; exact hm3
  have c1 : Hid (∀ W, Calls Tryd.prog 9 #[.int .i64 (n : Int), .int .i64 J] W fun e w' => e = .returned (.tuple #[.complex .f64 (chp M J).1 (chp M J).2, .nilIface]) ∧ Below W.heap.size W w') := fun W => chAtOk_c n M J W n0' (by omega) hM
  have c2 : Hid (∀ W, Calls Tryd.prog 9 #[.int .i64 (n : Int), .int .i64 (-J)] W fun e w' => e = .returned (.tuple #[.complex .f64 (chp M J).1 (chp M J).2, .nilIface]) ∧ Below W.heap.size W w') := fun W => by
    have := chAtOk_c n M (-J) W n0' (by omega) hM
    unfold chp at this ⊢
    rw [chm_neg] at this
    exact this
  have c3 : Hid (∀ W, Calls Tryd.prog 9 #[.int .i64 (n : Int), .int .i64 (J + (M : Int))] W fun e w' => e = .returned (.tuple #[.complex .f64 (chp M J).1 (chp M J).2, .nilIface]) ∧ Below W.heap.size W w') := fun W => by
    have := chAtOk_c n M (J + (M : Int)) W n0' (by omega) hM
    unfold chp at this ⊢
    rw [chm_on] at this
    exact this
  have c4 : Hid (∀ W, Calls Tryd.prog 9 #[.int .i64 (n : Int), .int .i64 0] W fun e w' => e = .returned (.tuple #[.complex .f64 4607182418800017408 0, .nilIface]) ∧ Below W.heap.size W w') := fun W => by
    have := chAtOk_c n M 0 W n0' (by omega) hM
    rw [chp_zero] at this
    exact this
  have c5 : Hid (∀ W, Calls Tryd.prog 20 #[.int .i64 (n : Int), .int .i64 (m : Int)] W fun e w' => ∃ g, e = .returned (.tuple #[.slice (some ⟨g, 0, none⟩) m m, .nilIface]) ∧ W.heap.size ≤ g ∧ Rw w' g m (oul M m n) ∧ Below W.heap.size W w') := fun W => otherOk_c n m M W n0' (by omega) (by omega) hnm.out hM
  have c6 : Hid (∀ W, Calls Tryd.prog 13 #[.int .i64 (n : Int)] W fun e w' => e = .returned (.int .i64 (K : Int)) ∧ w' = W) := fun W => by rw [← hK.out]; exact leastOk_c n W n0' (by omega)
  have c7 : Hid (∀ W, Calls Tryd.prog 15 #[.int .i64 (n : Int)] W fun e w' => ∃ s : Nat, e = .returned (.tuple #[.int .i64 (s : Int), .nilIface]) ∧ Sz K s ∧ s ≤ 16384 ∧ w' = W) := fun W => by rw [← hK.out]; exact sizeOk_c n W n0' (by omega)
  have hzl : Hid ((chp M J).1 < 18446744073709551616 ∧ (chp M J).2 < 18446744073709551616) := by
    have := chp_fin hM0.out.1 hM0.out.2 J
    exact ⟨this.1.1, this.2.1⟩
  generalize chp M J = z at *
  obtain ⟨x, y⟩ := z
  have o0 : FloatKind.f64.format.order 0 0 = some .eq := by decide +kernel
  have o1 : FloatKind.f64.format.order 4607182418800017408 4607182418800017408 = some .eq := by decide +kernel
  clear er er2 hJb
  go_enter Tryd.func6, Tryd.ntmps6
  go_wp2_with fail
  refine (lives13_c _).mono ?_
  rintro e w1 ⟨rfl, B1⟩
  have A1 : Hid (Below w.heap.size w w1) := B1
  clear B1
  have er := erH.out
  have er2 := er2H.out
  go_wp2_with fail
  refine (c1.out _).mono ?_
  rintro e w2 ⟨rfl, B2⟩
  have A2 : Hid (Below w.heap.size w w2) := below_tr A1.out B2
  clear B2 A1
  go_wp2_with fail
  refine (c2.out _).mono ?_
  rintro e w3 ⟨rfl, B3⟩
  have A3 : Hid (Below w.heap.size w w3) := below_tr A2.out B3
  clear B3 A2
  go_wp2_with fail
  refine (c3.out _).mono ?_
  rintro e w4 ⟨rfl, B4⟩
  have A4 : Hid (Below w.heap.size w w4) := below_tr A3.out B4
  clear B4 A3
  go_wp2_with fail
  refine (c4.out _).mono ?_
  rintro e w5 ⟨rfl, B5⟩
  have A5 : Hid (Below w.heap.size w w5) := below_tr A4.out B5
  clear B5 A4 c1 c2 c3 c4
  go_wp2_with fail
  refine (same13_c x y x y _ hzl.out.1 hzl.out.2 hzl.out.1 hzl.out.2 (Lk.refl _)).mono ?_
  rintro e w6 ⟨rfl, rfl⟩
  go_wp2_with fail
  refine (same13_c x y x y _ hzl.out.1 hzl.out.2 hzl.out.1 hzl.out.2 (Lk.refl _)).mono ?_
  rintro e w6 ⟨rfl, rfl⟩
  go_wp2_with fail
  refine (c5.out _).mono ?_
  rintro e w7 ⟨g, rfl, hg, R7, B7⟩
  have A7 : Hid (Below w.heap.size w w7) := below_tr A5.out B7
  have hR : Hid (Rw w7 g m (oul M m n)) := R7
  clear B7 A5 hg R7 c5
  go_wp2_with fail
  refine (c6.out _).mono ?_
  rintro e w8 ⟨rfl, rfl⟩
  go_wp2_with fail
  clear hM1 er er2
  go_loopw [17, 18] (fun sc si wx => ∃ i d : Nat, 1 ≤ i ∧ i ≤ m ∧ si = .int .i64 (i : Int) ∧ sc = .int .i64 ((cnt m n i : Nat) : Int) ∧ Hid (wx = w8.drewN d)) (fun _ si _ => m - (intOf si).toNat)
  case atStart => exact ⟨1, 0, Nat.le_refl _, by omega, rfl, by rw [cnt_one n0']; rfl, (rfl : w8 = w8.drewN 0)⟩
  case round =>
    obtain ⟨i, d, hi1, him, rfl, rfl, hw⟩ := hrel
    have hcb : cnt m n i ≤ 4049 := by unfold cnt; omega
    by_cases hlt : i < m
    · have hlt' : (i : Int) < (m : Int) := by omega
      obtain ⟨t, ht, ht1⟩ : ∃ t : Nat, Hid (t = m - i) ∧ (m : Int) - (i : Int) = (t : Int) := ⟨m - i, (rfl : _ = _), by omega⟩
      have htm : t < m := by have := ht.out; omega
      have e1 : (oul M m n).getD i (0, 0) = otu M m n i := oul_at hlt
      have e2 : (oul M m n).getD t (0, 0) = otu M m n i := by rw [oul_at htm, ht.out, otu_mirror hi1 hlt hnm.out]
      have hR1 : Hid (Rw wr g m (oul M m n)) := by show Rw _ _ _ _; rw [hw.out]; exact hR.out.keep (below_drewN (Below.refl _ _) d)
      have k1 := hR1.out.cell hlt
      have k2 := hR1.out.cell htm
      rw [e1] at k1
      rw [e2] at k2
      have hl := otu_lim hM0.out.1 hM0.out.2 m n i
      have hT : Hid ((n ≤ i ∧ n ≤ m - i) → otu M m n i = (0, 0)) := fun h => otu_zero h
      have hN : Hid (¬ (n ≤ i ∧ n ≤ m - i) → (FloatKind.f64.format.order (otu M m n i).1 0 == some .eq) = false ∨ (FloatKind.f64.format.order (otu M m n i).2 0 == some .eq) = false) := fun h => by
        obtain ⟨k, e⟩ := otu_chirp hi1 hlt h
        rw [e]; exact chp_ne hM0.out.1 hM0.out.2 k
      clear e1 e2
      generalize otu M m n i = z at *
      obtain ⟨a, b⟩ := z
      have hcall : Hid (∀ W, Calls Tryd.prog 12 #[.complex .f64 a b, .complex .f64 a b] W fun e w' => e = .returned (.bool true) ∧ w' = W) := fun W => (same13_c _ _ _ _ W hl.1 hl.2 hl.1 hl.2 (Lk.refl _)).mono fun _ _ h => ⟨h.1, h.2.symm⟩
      dsimp only at k1 k2
      clear hl
      go_wp2_with fail
      go_quiet (first | (go_at_call 12; exact Calls.quiet_of_same (hcall.out _)))
      have hw2 : Hid (wr.drewN nq = w8.drewN (d + nq)) := by show _ = _; rw [hw.out, World.drewN_drewN]
      have k3 : (wr.drewN nq).cell? ⟨g, i, none⟩ = some (.complex .f64 a b) := k1
      clear hcall k1 k2 hw hR1
      generalize wr.drewN nq = wd at *
      by_cases hz : n ≤ i ∧ n ≤ m - i
      · have ez := hT.out hz
        simp only [Prod.mk.injEq] at ez
        obtain ⟨rfl, rfl⟩ := ez
        obtain ⟨c2, hc2, hc3⟩ : ∃ c2 : Nat, Hid (c2 = cnt m n (i + 1)) ∧ ((cnt m n i : Nat) : Int) + 1 = (c2 : Int) := ⟨_, (rfl : _ = _), by rw [cnt_step_t hz hlt]; omega⟩
        clear hT hN hz
        generalize cnt m n i = c1 at *
        go_wp2_with fail
        go_roundw
        case rel => exact ⟨i + 1, d + nq, by omega, by omega, by go_num, by rw [hc2.out], hw2⟩
        case measure => simp [intOf]; omega
      · have hc2 : Hid (cnt m n (i + 1) = cnt m n i) := cnt_step_f hz hlt
        have hNN := hN.out hz
        clear hT hN hz
        by_cases ha : (FloatKind.f64.format.order a 0 == some .eq) = true
        · have hb : (FloatKind.f64.format.order b 0 == some .eq) = false := by
            rcases hNN with h | h
            · rw [ha] at h; cases h
            · exact h
          clear hNN
          go_wp2_with fail
          go_roundw
          case rel => exact ⟨i + 1, d + nq, by omega, by omega, by go_num, by rw [hc2.out], hw2⟩
          case measure => simp [intOf]; omega
        · have ha' : (FloatKind.f64.format.order a 0 == some .eq) = false := by simpa using ha
          clear hNN ha
          go_wp2_with fail
          go_roundw
          case rel => exact ⟨i + 1, d + nq, by omega, by omega, by go_num, by rw [hc2.out], hw2⟩
          case measure => simp [intOf]; omega
    · have hlt' : decide ((i : Int) < (m : Int)) = false := decide_eq_false (by omega)
      have ei : i = m := by omega
      subst ei
      have A9 : Hid (Below w.heap.size w wr) := by show Below _ _ _; rw [hw.out]; exact below_drewN A7.out d
      have hce : Hid (cnt i n i = i - K) := by show _ = _; rw [cnt_end n0' hnm.out, hK.out]
      obtain ⟨q, hq, hq1⟩ : ∃ q : Nat, cnt i n i = q ∧ (i : Int) - (K : Int) = (q : Int) := ⟨_, rfl, by rw [hce.out]; omega⟩
      rw [hq]
      clear hce hq A7 hR hw hcb
      have hM1 : (2 : Int) * (n : Int) = (M : Int) := by have := hM.out; omega
      go_wp2_with fail
      refine (c7.out _).mono ?_
      rintro e w9 ⟨s, rfl, hS, hs1, rfl⟩
      have hSH : Hid (Sz K s) := hS
      have hs0 : 0 < s := sz_pos hS
      have hs2 : K ≤ s := by obtain ⟨_, _, h, _⟩ := hS; exact h
      have hs3 : (s : Int) ≥ (K : Int) := by omega
      by_cases hs4 : s = 1
      · subst hs4
        clear hS
        go_wp2_with fail
        go_ret
        exact ⟨rfl, A9.out⟩
      · have q1 : ((s : Int) == 1) = false := beq_eq_false_iff_ne.2 (by omega)
        have q2 : s < 2 * K := by
          obtain ⟨t, e, _, h | h⟩ := hS
          · rw [h] at e; exact absurd e hs4
          · exact h
        obtain ⟨KK, hKK, hKK1, hKK2⟩ : ∃ KK : Nat, (2 : Int) * (K : Int) = (KK : Int) ∧ (s : Int) < (KK : Int) ∧ KK ≤ 7998 := ⟨2 * K, by omega, by omega, by omega⟩
        obtain ⟨s1, hs5, hs6⟩ : ∃ s1 : Nat, (s : Int) - 1 = (s1 : Int) ∧ Hid (s1 = s - 1) := ⟨s - 1, by omega, (rfl : _ = _)⟩
        have hand : bits .and .i64 (s : Int) (s1 : Int) = 0 := i64_and0 s s1 (by omega) (by have := hs6.out; omega) (by rw [hs6.out]; exact sz_and hS)
        clear hS
        go_wp2_with fail
        go_ret
        exact ⟨rfl, A9.out⟩
end Go.Proofs.YtgfmimmiaalhcaaDoor
namespace Go.Proofs.YtgfmimmiaalhcaaDoor.chirpMirror
open Go.RowKit
theorem walk (x0 x1 x2 : Int) (w : World) (_l0 : -9223372036854775808 ≤ x0) (_u0 : x0 ≤ 9223372036854775807) (_l1 : -9223372036854775808 ≤ x1) (_u1 : x1 ≤ 9223372036854775807) (_l2 : -9223372036854775808 ≤ x2) (_u2 : x2 ≤ 9223372036854775807) (_hL : laidMetH Tryd.prog Rows.chirpMirrorRow.laid w) :
    Calls Tryd.prog 6 #[.int .i64 x0, .int .i64 x1, .int .i64 x2] w fun e w' => e = .returned (.bool true) ∧ Below w.heap.size w w' := mirror_w x0 x1 x2 w
end Go.Proofs.YtgfmimmiaalhcaaDoor.chirpMirror
