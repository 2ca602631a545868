/-
  Contracts of package chirp: chirps, At, List, Least, Size, where nothing is refused.
-/
import Derived.Test.YtgfmimmiaalhcaaDoorCh0
import Derived.Test.YtgfmimmiaalhcaaDoorPt7
import Derived.Test.YtgfmimmiaalhcaaDoorDp1
namespace Go.Proofs.YtgfmimmiaalhcaaDoor
open Flo Go.RowKit

theorem chirps_c (n : Int) (w : World) : Calls Tryd.prog 27 #[.int .i64 n] w fun e w' => e = .returned (.bool (inn n)) ∧ w' = w := by
  by_cases h1 : 1 ≤ n
  · by_cases h2 : n ≤ 16384
    · have hv : Hid (true = inn n) := ((decide_eq_true ⟨h1, h2⟩ : inn n = true).symm : true = inn n)
      go_enter Tryd.func27, Tryd.ntmps27
      go_wp2
      go_ret
      exact ⟨ret_bool hv.out, rfl⟩
    · have hv : Hid (false = inn n) := ((decide_eq_false (fun h => h2 h.2) : inn n = false).symm : false = inn n)
      have h2' : decide (n ≤ 16384) = false := decide_eq_false h2
      go_enter Tryd.func27, Tryd.ntmps27
      go_wp2
      go_ret
      exact ⟨ret_bool hv.out, rfl⟩
  · have hv : Hid (false = inn n) := ((decide_eq_false (fun h => h1 h.1) : inn n = false).symm : false = inn n)
    have h1' : decide (1 ≤ n) = false := decide_eq_false h1
    have h1'' : decide (n ≥ 1) = false := decide_eq_false h1
    go_enter Tryd.func27, Tryd.ntmps27
    go_wp2
    go_ret
    exact ⟨ret_bool hv.out, rfl⟩
theorem inn_nat {n : Nat} (h : 0 < n) (hn : n ≤ 16384) : inn (n : Int) = true := decide_eq_true ⟨by omega, by omega⟩
theorem tm_lt {M : Nat} (j : Int) (h : 0 < M) : -(M : Int) < j.tmod M ∧ j.tmod M < (M : Int) := by
  have h2 := Int.tmod_lt_of_pos j (b := (M : Int)) (by omega)
  refine ⟨?_, h2⟩
  have h3 := Int.tmod_lt_of_pos (-j) (b := (M : Int)) (by omega)
  rw [Int.neg_tmod] at h3
  omega
theorem sq_lt {M r : Int} (h1 : -M < r) (h2 : r < M) (hM : M ≤ 32768) : -1073741824 ≤ r * r ∧ r * r ≤ 1073741824 := by
  have h4 : r.natAbs ≤ 32768 := by omega
  have h5 : r.natAbs * r.natAbs ≤ 32768 * 32768 := Nat.mul_le_mul h4 h4
  have h6 : ((r.natAbs * r.natAbs : Nat) : Int) = r * r := Int.natAbs_mul_self
  omega
set_option maxHeartbeats 1000000 in
theorem chirp_c (n M : Nat) (j : Int) (w : World) (h : 0 < n) (hn : n ≤ 16384) (hM : Hid (M = 2 * n)) :
    Calls Tryd.prog 28 #[.int .i64 n, .int .i64 j] w fun e w' => e = .returned (.complex .f64 (chp M j).1 (chp M j).2) ∧ Below w.heap.size w w' := by
  have hM1 : (2 : Int) * (n : Int) = (M : Int) := by rw [hM.out]; omega
  have hM0 : 0 < M := by rw [hM.out]; omega
  have hM2 : M ≤ 32768 := by rw [hM.out]; omega
  have hr := tm_lt j hM0
  have hq := sq_lt hr.1 hr.2 (by omega)
  have hroot := rootOk_c M (j.tmod M * j.tmod M) w hM0 (by omega)
  rw [chm_rest] at hroot
  have hR : Hid (Calls Tryd.prog 40 #[.int .i64 M, .int .i64 (j.tmod M * j.tmod M)] w fun e w' => e = .returned (.tuple #[.complex .f64 (chp M j).1 (chp M j).2, .nilIface]) ∧ Below w.heap.size w w') := hroot
  clear hroot
  generalize chp M j = z at *
  obtain ⟨a, b⟩ := z
  obtain ⟨r, hr0⟩ : ∃ r, j.tmod M = r := ⟨_, rfl⟩
  rw [hr0] at hr hq hR
  obtain ⟨q, hq0⟩ : ∃ q, r * r = q := ⟨_, rfl⟩
  rw [hq0] at hq hR
  have hr1 := hr.1
  have hr2 := hr.2
  have hq1 := hq.1
  have hq2 := hq.2
  have hne : ¬ (M : Int) = 0 := by omega
  clear hr hq
  go_enter Tryd.func28, Tryd.ntmps28
  go_wp2_with fail
  refine hR.out.mono ?_
  rintro e w1 ⟨rfl, B⟩
  have hB : Hid (Below w.heap.size w w1) := B
  clear B
  go_wp2_with fail
  go_ret
  exact ⟨rfl, hB.out⟩
set_option maxHeartbeats 1000000 in
theorem chAtOk_c (n M : Nat) (j : Int) (w : World) (h : 0 < n) (hn : n ≤ 16384) (hM : Hid (M = 2 * n)) :
    Calls Tryd.prog 9 #[.int .i64 n, .int .i64 j] w fun e w' => e = .returned (.tuple #[.complex .f64 (chp M j).1 (chp M j).2, .nilIface]) ∧ Below w.heap.size w w' := by
  have hc := chirps_c (n : Int) w
  rw [inn_nat h hn] at hc
  go_enter Tryd.func9, Tryd.ntmps9
  go_wp2_with fail
  refine hc.mono ?_
  rintro e w1 ⟨rfl, rfl⟩
  go_wp2_with fail
  refine (chirp_c n M j _ h hn hM).mono ?_
  rintro e w2 ⟨rfl, B⟩
  have hB : Hid (Below w1.heap.size w1 w2) := B
  clear B
  go_wp2_with fail
  go_ret2
  exact ⟨rfl, hB.out⟩
theorem leastOk_c (n : Nat) (w : World) (h : 0 < n) (hn : n ≤ 16384) :
    Calls Tryd.prog 13 #[.int .i64 n] w fun e w' => e = .returned (.int .i64 ((2 * n - 1 : Nat) : Int)) ∧ w' = w := by
  have hc := chirps_c (n : Int) w
  rw [inn_nat h hn] at hc
  obtain ⟨K, hK, hK1⟩ : ∃ K : Nat, Hid (2 * n - 1 = K) ∧ (2 : Int) * (n : Int) - 1 = (K : Int) := ⟨2 * n - 1, (rfl : _ = _), by omega⟩
  rw [hK.out]
  go_enter Tryd.func13, Tryd.ntmps13
  go_wp2_with fail
  refine hc.mono ?_
  rintro e w1 ⟨rfl, rfl⟩
  go_wp2_with fail
  go_ret
  exact ⟨rfl, rfl⟩
theorem leastNo_c (n : Int) (w : World) (h : inn n = false) :
    Calls Tryd.prog 13 #[.int .i64 n] w fun e w' => e = .returned (.int .i64 0) ∧ w' = w := by
  have hc := chirps_c n w
  rw [h] at hc
  clear h
  go_enter Tryd.func13, Tryd.ntmps13
  go_wp2_with fail
  refine hc.mono ?_
  rintro e w1 ⟨rfl, rfl⟩
  go_wp2_with fail
  go_ret
  exact ⟨rfl, rfl⟩
set_option maxHeartbeats 2000000 in
theorem chListOk_c (n M : Nat) (w : World) (h : 0 < n) (hn : n ≤ 16384) (hM : Hid (M = 2 * n)) :
    Calls Tryd.prog 17 #[.int .i64 n] w fun e w' => ∃ g us, e = .returned (.tuple #[.slice (some ⟨g, 0, none⟩) n n, .nilIface]) ∧ w.heap.size ≤ g ∧ Row w' g g n (fun k : Nat => chp M (k : Int)) n us ∧ Below w.heap.size w w' := by
  have hM0 : Hid (0 < M ∧ M ≤ 4194304) := by show _ ∧ _; rw [hM.out]; omega
  obtain ⟨w1, hmk, hrow, hb1⟩ := makeCx w n (by omega)
  obtain ⟨F, hF⟩ : ∃ F : Nat → Nat × Nat, Hid (F = fun k : Nat => chp M (k : Int)) := ⟨_, (rfl : _ = _)⟩
  rw [← hF.out]
  have R0 : Hid (Row w1 w.heap.size w.heap.size n F 0 (List.replicate n (0, 0))) := Row.made F hrow.out
  have hg3 : (0 : Int) ≤ (n : Int) := by omega
  have hc := chirps_c (n : Int) w
  rw [inn_nat h hn] at hc
  clear hrow
  go_enter Tryd.func17, Tryd.ntmps17
  go_wp2_with fail
  refine hc.mono ?_
  rintro e w1' ⟨rfl, rfl⟩
  clear hc
  go_wp2_with fail
  clear hmk
  go_loopw [5, 14] (fun _ si wx => ∃ (i : Nat) (us : List (Nat × Nat)), i ≤ n ∧ si = .int .i64 (i : Int) ∧ Hid (Row wx w1'.heap.size w1'.heap.size n F i us) ∧ Hid (Below w1'.heap.size w1' wx)) (fun _ si _ => n - (intOf si).toNat)
  case atStart => exact ⟨0, _, Nat.zero_le _, rfl, R0, hb1⟩
  case round =>
    clear R0 hb1
    obtain ⟨i, us, hi, rfl, R, hb⟩ := hrel
    by_cases hlt : i < n
    · have hlt' : (i : Int) < (n : Int) := by omega
      go_wp2_with fail
      refine (chirp_c n M (i : Int) wr h hn hM).mono ?_
      rintro e w3 ⟨rfl, B⟩
      have hfi := chp_fin hM0.out.1 hM0.out.2 (i : Int)
      have lkF : Lk ((chp M (i : Int)).1, (chp M (i : Int)).2) (F i) := by rw [hF.out]; exact Lk.refl _
      have R2 : Hid (Row w3 w1'.heap.size w1'.heap.size n F i us) := R.out.keep B
      have B2 : Hid (Below w1'.heap.size w1' w3) := below_tr hb.out B
      generalize chp M (i : Int) = z at *
      obtain ⟨x, y⟩ := z
      clear R hb B
      have c3 := R2.out.cell hlt
      have f2 := R2.out.frozen i
      have R3 : Hid (Row (w3.setCell ⟨w1'.heap.size, i, none⟩ (.complex .f64 x y)) w1'.heap.size w1'.heap.size n F (i + 1) (us.set i (x, y))) := R2.out.put hfi.1.1 hfi.2.1 hlt lkF
      have B3 : Hid (Below w1'.heap.size w1' (w3.setCell ⟨w1'.heap.size, i, none⟩ (.complex .f64 x y))) := B2.out.setCell (p := ⟨w1'.heap.size, i, none⟩) (Nat.le_refl _) _
      have hsc := store_cx
      clear R2 B2 lkF hfi
      go_wp2
      go_roundw
      case rel => exact ⟨i + 1, _, by omega, by go_num, R3, B3⟩
      case measure => simp [intOf]; omega
    · have hlt' : decide ((i : Int) < (n : Int)) = false := decide_eq_false (by omega)
      have ei : i = n := by omega
      subst ei
      go_wp2
      go_ret2
      exact ⟨_, _, rfl, Nat.le_refl _, R.out, hb.out⟩
end Go.Proofs.YtgfmimmiaalhcaaDoor
