/-
  The document's layer 13: At, Chirp, List, Other, May, Least, Size.
-/
import Derived.Test.YtgfmimmiaalhcaaDoorCh2
import Derived.Test.YtgfmimmiaalhcaaDoorGr0
namespace Go.Proofs.YtgfmimmiaalhcaaDoor
open Flo Go.RowKit
set_option maxHeartbeats 1000000 in
theorem r13At_c (n M : Nat) (j : Int) (w : World) (h : 0 < n) (hn : n ≤ 16384) (hM : Hid (M = 2 * n)) :
    Calls Tryd.prog 29 #[.int .i64 n, .int .i64 j] w fun e w' => e = .returned (.complex .f64 (chp M j).1 (chp M j).2) ∧ ∃ d, w' = w.drewN d := by
  have hM1 : (2 : Int) * (n : Int) = (M : Int) := by rw [hM.out]; omega
  have hM0 : 0 < M := by rw [hM.out]; omega
  have hM2 : M ≤ 32768 := by rw [hM.out]; omega
  have hmod : Hid (∀ W, Calls Tryd.prog 35 #[.int .i64 j, .int .i64 M] W fun e w' => e = .returned (.int .i64 (Rp.md M j)) ∧ w' = W) := fun W => mod7_c M j W hM0 (by omega)
  obtain ⟨r, hr⟩ : ∃ r, Rp.md M j = r := ⟨_, rfl⟩
  have hrM : r < M := by rw [← hr]; exact Rp.md_lt hM0 _
  obtain ⟨q, hq, hq1, hq2⟩ : ∃ q : Nat, Hid (q = r * r) ∧ (r : Int) * (r : Int) = (q : Int) ∧ q ≤ 1073741824 := ⟨r * r, (rfl : _ = _), by rw [Int.natCast_mul], by have := Nat.mul_le_mul (show r ≤ 32768 by omega) (show r ≤ 32768 by omega); omega⟩
  obtain ⟨t, ht, ht1⟩ : ∃ t : Nat, Hid (t = q % M) ∧ (q : Int).tmod (M : Int) = (t : Int) := ⟨q % M, (rfl : _ = _), by rw [Int.tmod_eq_emod_of_nonneg (by omega)]; rfl⟩
  have htM : t < M := by rw [ht.out]; exact Nat.mod_lt _ hM0
  have hroot : Hid (∀ W, Calls Tryd.prog 41 #[.int .i64 M, .int .i64 (t : Int)] W fun e w' => e = .returned (.complex .f64 (chp M j).1 (chp M j).2) ∧ ∃ d, w' = W.drewN d) := fun W => by
    have e := chm_sq hM0 j
    rw [hr, ← hq.out, ← ht.out] at e
    have e2 : chp M j = (Rp.pc M t, Rp.pim M t) := by unfold chp; rw [e]
    rw [e2]
    have := r7Root_c M (t : Int) W hM0 (by omega)
    rw [md_self htM] at this
    exact this
  rw [hr] at hmod
  have hne : ¬ (M : Int) = 0 := by omega
  obtain ⟨R, hR⟩ : ∃ R, (r : Int) = R := ⟨_, rfl⟩
  obtain ⟨Q, hQ⟩ : ∃ Q, (q : Int) = Q := ⟨_, rfl⟩
  obtain ⟨T, hT⟩ : ∃ T, (t : Int) = T := ⟨_, rfl⟩
  have hR1 : 0 ≤ R := by omega
  have hR2 : R < (M : Int) := by omega
  have hQ1 : 0 ≤ Q := by omega
  have hQ2 : Q ≤ 1073741824 := by omega
  have hT1 : 0 ≤ T := by omega
  have hT2 : T < (M : Int) := by omega
  rw [hR] at hmod hq1
  rw [hQ] at hq1 ht1
  rw [hT] at ht1 hroot
  generalize chp M j = z at *
  obtain ⟨a, b⟩ := z
  clear hr hR hQ hT hrM hq hq2 ht htM
  go_enter Tryd.func29, Tryd.ntmps29
  go_wp2_with fail
  refine (hmod.out _).mono ?_
  rintro e w1 ⟨rfl, rfl⟩
  go_wp2_with fail
  refine (hroot.out _).mono ?_
  rintro e w2 ⟨rfl, d, rfl⟩
  go_wp2_with fail
  go_ret
  exact ⟨rfl, d, rfl⟩
set_option maxHeartbeats 1000000 in
theorem r13ChirpOk_c (n M : Nat) (j : Int) (w : World) (h : 0 < n) (hn : n ≤ 16384) (hM : Hid (M = 2 * n)) :
    Calls Tryd.prog 10 #[.int .i64 n, .int .i64 j] w fun e w' => e = .returned (.tuple #[.complex .f64 (chp M j).1 (chp M j).2, .int .i64 0]) ∧ ∃ d, w' = w.drewN d := by
  have q1 : decide ((n : Int) < 1) = false := decide_eq_false (by omega)
  have q2 : decide ((n : Int) > 16384) = false := decide_eq_false (by omega)
  go_enter Tryd.func10, Tryd.ntmps10
  go_wp2_with fail
  refine (r13At_c n M j w h hn hM).mono ?_
  rintro e w2 ⟨rfl, d, rfl⟩
  go_wp2_with fail
  go_ret2
  exact ⟨rfl, d, rfl⟩
theorem r13ChirpNo_c (n j : Int) (w : World) (h : inn n = false) :
    Calls Tryd.prog 10 #[.int .i64 n, .int .i64 j] w fun e w' => e = .returned (.tuple #[.complex .f64 0 0, .int .i64 7]) ∧ w' = w := by
  have h' : ¬ (1 ≤ n ∧ n ≤ 16384) := of_decide_eq_false h
  clear h
  by_cases h1 : n < 1
  · clear h'
    go_enter Tryd.func10, Tryd.ntmps10
    go_wp2_with fail
    go_ret2
    exact ⟨rfl, rfl⟩
  · have h1' : decide (n < 1) = false := decide_eq_false h1
    have h2 : n > 16384 := by omega
    clear h'
    go_enter Tryd.func10, Tryd.ntmps10
    go_wp2_with fail
    go_ret2
    exact ⟨rfl, rfl⟩
theorem r13LeastOk_c (n : Nat) (w : World) (h : 0 < n) (hn : n ≤ 16384) :
    Calls Tryd.prog 14 #[.int .i64 n] w fun e w' => e = .returned (.int .i64 ((2 * n - 1 : Nat) : Int)) ∧ w' = w := by
  have q1 : decide ((n : Int) < 1) = false := decide_eq_false (by omega)
  have q2 : decide ((n : Int) > 16384) = false := decide_eq_false (by omega)
  obtain ⟨K, hK, hK1⟩ : ∃ K : Nat, Hid (2 * n - 1 = K) ∧ (2 : Int) * (n : Int) - 1 = (K : Int) := ⟨2 * n - 1, (rfl : _ = _), by omega⟩
  rw [hK.out]
  go_enter Tryd.func14, Tryd.ntmps14
  go_wp2_with fail
  go_ret
  exact ⟨rfl, rfl⟩
theorem r13LeastNo_c (n : Int) (w : World) (h : inn n = false) :
    Calls Tryd.prog 14 #[.int .i64 n] w fun e w' => e = .returned (.int .i64 0) ∧ w' = w := by
  have h' : ¬ (1 ≤ n ∧ n ≤ 16384) := of_decide_eq_false h
  clear h
  by_cases h1 : n < 1
  · clear h'
    go_enter Tryd.func14, Tryd.ntmps14
    go_wp2_with fail
    go_ret
    exact ⟨rfl, rfl⟩
  · have h1' : decide (n < 1) = false := decide_eq_false h1
    have h2 : n > 16384 := by omega
    clear h'
    go_enter Tryd.func14, Tryd.ntmps14
    go_wp2_with fail
    go_ret
    exact ⟨rfl, rfl⟩
set_option maxHeartbeats 1000000 in
theorem r13SizeNo_c (n : Int) (w : World) (h : ¬ (1 ≤ n ∧ n ≤ 8192)) :
    Calls Tryd.prog 16 #[.int .i64 n] w fun e w' => e = .returned (.tuple #[.int .i64 0, .int .i64 7]) ∧ w' = w := by
  by_cases h1 : n < 1
  · clear h
    go_enter Tryd.func16, Tryd.ntmps16
    go_wp2_with fail
    go_ret2
    exact ⟨rfl, rfl⟩
  · have h1' : decide (n < 1) = false := decide_eq_false h1
    by_cases h2 : 16384 < n
    · have h2' : n > 16384 := h2
      clear h
      go_enter Tryd.func16, Tryd.ntmps16
      go_wp2_with fail
      go_ret2
      exact ⟨rfl, rfl⟩
    · have h2' : decide (n > 16384) = false := decide_eq_false h2
      obtain ⟨K, hK, hK0⟩ : ∃ K : Nat, Hid ((K : Int) = 2 * n - 1) ∧ 2 * n - 1 = (K : Int) := ⟨(2 * n - 1).toNat, (by omega : ((2 * n - 1).toNat : Int) = 2 * n - 1), by omega⟩
      have hK1 : K ≤ 32767 := by have := hK.out; omega
      have hK2 : 16385 ≤ K := by have := hK.out; omega
      clear h
      go_enter Tryd.func16, Tryd.ntmps16
      go_wp2_with fail
      go_loopw [4] (fun ss wx => ∃ s : Nat, ss = .int .i64 (s : Int) ∧ s ≤ 65534 ∧ 0 < s ∧ wx = w) (fun ss _ => K - (intOf ss).toNat)
      case atStart => exact ⟨1, rfl, by decide, by decide, rfl⟩
      case round =>
        obtain ⟨s, rfl, hs1, hs0, rfl⟩ := hrel
        by_cases hlt : s < K
        · have hlt' : (s : Int) < (K : Int) := by omega
          obtain ⟨s2, hs2, hs3⟩ : ∃ s2 : Nat, Hid (s2 = 2 * s) ∧ (s : Int) * 2 = (s2 : Int) := ⟨2 * s, (rfl : _ = _), by omega⟩
          have hs4 : s2 ≤ 65534 := by have := hs2.out; omega
          have hs5 : 0 < s2 := by have := hs2.out; omega
          go_wp2_with fail
          go_roundw
          case rel => exact ⟨s2, rfl, hs4, hs5, by trivial⟩
          case measure => simp [intOf]; have := hs2.out; omega
        · have hlt' : decide ((s : Int) < (K : Int)) = false := decide_eq_false (by omega)
          have q2 : (s : Int) > 16384 := by omega
          go_wp2_with fail
          go_ret2
          exact ⟨rfl, rfl⟩
set_option maxHeartbeats 1000000 in
theorem r13SizeOk_c (n : Nat) (w : World) (h : 0 < n) (hn : n ≤ 8192) :
    Calls Tryd.prog 16 #[.int .i64 n] w fun e w' => ∃ s : Nat, e = .returned (.tuple #[.int .i64 (s : Int), .int .i64 0]) ∧ Sz (2 * n - 1) s ∧ s ≤ 16384 ∧ w' = w := by
  have g1 : decide ((n : Int) < 1) = false := decide_eq_false (by omega)
  have g2 : decide ((n : Int) > 16384) = false := decide_eq_false (by omega)
  obtain ⟨K, hK, hK0⟩ : ∃ K : Nat, Hid (2 * n - 1 = K) ∧ (2 : Int) * (n : Int) - 1 = (K : Int) := ⟨2 * n - 1, (rfl : _ = _), by omega⟩
  rw [hK.out]
  have hK1 : K ≤ 16383 := by have := hK.out; omega
  go_enter Tryd.func16, Tryd.ntmps16
  go_wp2_with fail
  go_loopw [4] (fun ss wx => ∃ s : Nat, ss = .int .i64 (s : Int) ∧ s ≤ 32766 ∧ 0 < s ∧ Hid (∃ t, s = 2 ^ t ∧ (t = 0 ∨ 2 ^ t < 2 * K)) ∧ wx = w) (fun ss _ => K - (intOf ss).toNat)
  case atStart => exact ⟨1, rfl, by decide, by decide, ⟨0, rfl, .inl rfl⟩, rfl⟩
  case round =>
    obtain ⟨s, rfl, hs1, hs0, hs, rfl⟩ := hrel
    by_cases hlt : s < K
    · have hlt' : (s : Int) < (K : Int) := by omega
      obtain ⟨s2, hs2, hs3⟩ : ∃ s2 : Nat, Hid (s2 = 2 * s) ∧ (s : Int) * 2 = (s2 : Int) := ⟨2 * s, (rfl : _ = _), by omega⟩
      have hs4 : s2 ≤ 32766 := by have := hs2.out; omega
      have hs5 : 0 < s2 := by have := hs2.out; omega
      have hH : Hid (∃ t, s2 = 2 ^ t ∧ (t = 0 ∨ 2 ^ t < 2 * K)) := by
        obtain ⟨t, e, _⟩ := hs.out
        exact ⟨t + 1, by rw [hs2.out, e, Nat.pow_succ]; omega, .inr (by rw [Nat.pow_succ]; omega)⟩
      clear hs
      go_wp2_with fail
      go_roundw
      case rel => exact ⟨s2, rfl, hs4, hs5, hH, by trivial⟩
      case measure => simp [intOf]; have := hs2.out; omega
    · have hlt' : decide ((s : Int) < (K : Int)) = false := decide_eq_false (by omega)
      have hE : Hid (Sz K s ∧ s ≤ 16384) := by
        obtain ⟨t, e, h2⟩ := hs.out
        exact ⟨⟨t, e, by omega, by rw [e]; exact h2⟩, by rw [e]; exact sz_small h2 hK1⟩
      have q2 : decide ((s : Int) > 16384) = false := decide_eq_false (by have := hE.out.2; omega)
      clear hs
      go_wp2_with fail
      go_ret2
      exact ⟨s, rfl, hE.out.1, hE.out.2, rfl⟩
set_option maxHeartbeats 2000000 in
theorem r13List_c (n M : Nat) (w : World) (h : 0 < n) (hn : n ≤ 16384) (hM : Hid (M = 2 * n)) :
    Calls Tryd.prog 19 #[.int .i64 n] w fun e w' => ∃ v' us, e = .returned v' ∧ Gro w' w.heap.size n v' (fun k : Nat => chp M (k : Int)) us ∧ Below w.heap.size w w' := by
  have hM0 : Hid (0 < M ∧ M ≤ 4194304) := by show _ ∧ _; rw [hM.out]; omega
  obtain ⟨F, hF⟩ : ∃ F : Nat → Nat × Nat, Hid (F = fun k : Nat => chp M (k : Int)) := ⟨_, (rfl : _ = _)⟩
  rw [← hF.out]
  have R0 : Hid (Gro (w.alloc (.cells #[] 23)) w.heap.size 0 (.slice (some ⟨w.heap.size, 0, none⟩) 0 0) F []) := Gro.start w F
  have hB0 : Hid (Below w.heap.size w (w.alloc (.cells #[] 23))) := (Below.refl _ _).alloc (Nat.le_refl _) _
  obtain ⟨i0, hi, hz0, hz1, hz2⟩ := info_cx
  go_enter Tryd.func19, Tryd.ntmps19
  go_wp2_with fail
  go_loopw [3, 4] (fun so sk wx => ∃ (k : Nat) (us : List (Nat × Nat)), k ≤ n ∧ sk = .int .i64 (k : Int) ∧ Hid (Gro wx w.heap.size k so F us) ∧ Hid (Below w.heap.size w wx)) (fun _ sk _ => n - (intOf sk).toNat)
  case atStart => exact ⟨0, [], Nat.zero_le _, rfl, R0, hB0⟩
  case round =>
    clear R0 hB0
    obtain ⟨k, us, hk, rfl, R, hb⟩ := hrel
    by_cases hlt : k < n
    · have hlt' : (k : Int) < (n : Int) := by omega
      go_wp2_with fail
      refine (r13At_c n M (k : Int) wr h hn hM).mono ?_
      rintro e w3 ⟨rfl, d, rfl⟩
      have hfi := chp_fin hM0.out.1 hM0.out.2 (k : Int)
      have hlk : Hid (Lk (chp M (k : Int)) (F k)) := by show Lk _ _; rw [hF.out]; exact Lk.refl _
      generalize chp M (k : Int) = z at *
      obtain ⟨x, y⟩ := z
      have lx : x < 18446744073709551616 := hfi.1.1
      have ly : y < 18446744073709551616 := hfi.2.1
      have RD : Hid (Gro (wr.drewN d) w.heap.size k u3 F us) := R.out.keep (below_drewN (Below.refl _ _) d)
      have hbD : Hid (Below w.heap.size w (wr.drewN d)) := below_drewN hb.out d
      have hsz := hbD.out.size
      clear R hb hfi
      generalize wr.drewN d = wd at *
      have hown : Hid (wd.ownsRow w.heap.size 23 1 u3 k (cz us)) := RD.out.own
      go_wp2_with (at_builtin; refine wpList_append_own _ rfl _ _ 38 rfl w.heap.size 23 i0 (.complex .f64 0 0) 1 16 Tryd.underlying38 hi hz0 hz1 hz2 rfl (by decide) _ _ _ rfl (hown.out.alloc _) ⟨wd.heap.size, 0, none⟩ 1 1 [.complex .f64 x y] rfl rfl (cell_one_new10 _ _ _) (by simp [Value.oneCell']) (by unfold maxLen; omega) (by omega) (by simp; omega) ?_)
      intro v' w4 q1 q2 q3
      have R4 : Hid (Gro w4 w.heap.size (k + 1) v' F (us ++ [(x, y)])) := RD.out.snoc q1 lx ly hlk.out
      have B4 : Hid (Below w.heap.size w w4) := (hbD.out.alloc hsz _).grown q2 (by simp; omega) (fun k' hk' => (RD.out.own.lt k' hk').1)
      clear q1 q2 q3 RD hbD hown hlk
      go_wp2_with fail
      go_roundw
      case rel => exact ⟨k + 1, _, by omega, by go_num, R4, B4⟩
      case measure => simp [intOf]; omega
    · have hlt' : decide ((k : Int) < (n : Int)) = false := decide_eq_false (by omega)
      have ek : k = n := by omega
      subst ek
      go_wp2_with fail
      go_ret
      exact ⟨_, us, rfl, R.out, hb.out⟩
set_option maxHeartbeats 2000000 in
theorem r13Other_c (n m M : Nat) (w : World) (h : 0 < n) (hn : n ≤ 16384) (hm : m ≤ 16384) (hnm : 2 * n - 1 ≤ m) (hM : Hid (M = 2 * n)) :
    Calls Tryd.prog 22 #[.int .i64 n, .int .i64 m] w fun e w' => ∃ g, e = .returned (.slice (some ⟨g, 0, none⟩) m m) ∧ w.heap.size ≤ g ∧ Rw w' g m (oul M m n) ∧ Below w.heap.size w w' := by
  have hM0 : Hid (0 < M ∧ M ≤ 4194304) := by show _ ∧ _; rw [hM.out]; omega
  obtain ⟨w1, hmk, hrow, hb1⟩ := makeCx w m (by omega)
  have R0 : Hid (Rw w1 w.heap.size m (oul M m 0)) := Rw.made hrow.out
  have B1 : Hid (Below w.heap.size w w1) := hb1
  have hg3 : (0 : Int) ≤ (m : Int) := by omega
  have hnmH : Hid (2 * n - 1 ≤ m) := hnm
  have hnm2 : n ≤ m := by omega
  clear hrow hb1 hnm
  go_enter Tryd.func22, Tryd.ntmps22
  go_wp2_with fail
  clear hmk
  go_loopw [6, 7] (fun sj _ wx => ∃ j : Nat, j ≤ n ∧ sj = .int .i64 (j : Int) ∧ Hid (Rw wx w.heap.size m (oul M m j)) ∧ Hid (Below w.heap.size w wx)) (fun sj _ _ => n - (intOf sj).toNat)
  case atStart => exact ⟨0, Nat.zero_le _, rfl, R0, B1⟩
  case round =>
    clear R0 B1
    obtain ⟨j, hjn, rfl, R, hb⟩ := hrel
    by_cases hlt : j < n
    · have hlt' : (j : Int) < (n : Int) := by omega
      have hjm : j < m := by omega
      have hfi := chp_fin hM0.out.1 hM0.out.2 (j : Int)
      have hng := fun w => run_fneg (P := Tryd.prog) (chp M (j : Int)).2 w hfi.2.1
      go_wp2_with fail
      refine (r13At_c n M (j : Int) wr h hn hM).mono ?_
      rintro e w4 ⟨rfl, d, rfl⟩
      have R4 : Hid (Rw (wr.drewN d) w.heap.size m (oul M m j)) := R.out.keep (below_drewN (Below.refl _ _) d)
      have B4 : Hid (Below w.heap.size w (wr.drewN d)) := below_drewN hb.out d
      clear R hb hfi
      generalize wr.drewN d = wd at *
      have c4 := R4.out.cell hjm
      have f4 := R4.out.frozen j
      have hsc := store_cx
      by_cases hj0 : j = 0
      · subst hj0
        have RA : Hid (Rw (wd.setCell ⟨w.heap.size, 0, none⟩ (.complex .f64 (chp M ((0 : Nat) : Int)).1 (Ari.ng (chp M ((0 : Nat) : Int)).2))) w.heap.size m (oul M m 1)) := by
          have := R4.out.put 0 (chp M ((0 : Nat) : Int)).1 (Ari.ng (chp M ((0 : Nat) : Int)).2)
          rw [show ((chp M ((0 : Nat) : Int)).1, Ari.ng (chp M ((0 : Nat) : Int)).2) = cjp (chp M 0) from rfl, oul_first] at this
          exact this
        have BA : Hid (Below w.heap.size w (wd.setCell ⟨w.heap.size, 0, none⟩ (.complex .f64 (chp M ((0 : Nat) : Int)).1 (Ari.ng (chp M ((0 : Nat) : Int)).2)))) := B4.out.setCell (p := ⟨w.heap.size, 0, none⟩) (Nat.le_refl _) _
        clear R4 B4
        generalize chp M ((0 : Nat) : Int) = z at *
        obtain ⟨x, y⟩ := z
        go_wp2_with fail
        go_roundw
        case rel => exact ⟨1, by omega, by go_num, RA, BA⟩
        case measure => simp [intOf]; omega
      · have hj1 : (j : Int) > 0 := by omega
        obtain ⟨t, ht, ht1⟩ : ∃ t : Nat, Hid (t = m - j) ∧ (m : Int) - (j : Int) = (t : Int) := ⟨m - j, (rfl : _ = _), by omega⟩
        have htm : t < m := by have := ht.out; omega
        have RA := R4.out.put j (chp M (j : Int)).1 (Ari.ng (chp M (j : Int)).2)
        have c5 := RA.cell htm
        have f5 := RA.frozen t
        have c6 := RA.cell hjm
        rw [getD_set_eq _ (by rw [oul_len]; exact hjm)] at c6
        have RB := RA.put t (chp M (j : Int)).1 (Ari.ng (chp M (j : Int)).2)
        rw [show ((chp M (j : Int)).1, Ari.ng (chp M (j : Int)).2) = cjp (chp M (j : Int)) from rfl, ht.out, oul_step (by omega) hlt hnmH.out, ← ht.out] at RB
        have RBH : Hid (Rw ((wd.setCell ⟨w.heap.size, j, none⟩ (.complex .f64 (chp M (j : Int)).1 (Ari.ng (chp M (j : Int)).2))).setCell ⟨w.heap.size, t, none⟩ (.complex .f64 (chp M (j : Int)).1 (Ari.ng (chp M (j : Int)).2))) w.heap.size m (oul M m (j + 1))) := RB
        have B5 : Hid (Below w.heap.size w ((wd.setCell ⟨w.heap.size, j, none⟩ (.complex .f64 (chp M (j : Int)).1 (Ari.ng (chp M (j : Int)).2))).setCell ⟨w.heap.size, t, none⟩ (.complex .f64 (chp M (j : Int)).1 (Ari.ng (chp M (j : Int)).2)))) := (B4.out.setCell (p := ⟨w.heap.size, j, none⟩) (Nat.le_refl _) _).setCell (p := ⟨w.heap.size, t, none⟩) (Nat.le_refl _) _
        clear RA RB R4 B4
        generalize chp M (j : Int) = z at *
        obtain ⟨x, y⟩ := z
        dsimp only at c6
        go_wp2_with fail
        go_roundw
        case rel => exact ⟨j + 1, by omega, by go_num, RBH, B5⟩
        case measure => simp [intOf]; omega
    · have hlt' : decide ((j : Int) < (n : Int)) = false := decide_eq_false (by omega)
      have ej : j = n := by omega
      subst ej
      go_wp2_with fail
      go_ret
      exact ⟨_, rfl, Nat.le_refl _, R.out, hb.out⟩
end Go.Proofs.YtgfmimmiaalhcaaDoor
