/-
  The statements' own sum of whole numbers, turned.
-/
import Derived.Test.YtehaokdjdhejlaaDoorRz0
namespace Go.Proofs.YtehaokdjdhejlaaDoor
open Flo Go.RowKit
theorem tsm_sml {n k B : Nat} {F : Nat → Int × Int} (h : ∀ i, Dw.Sml (F i) B) : ∀ j, Dw.Sml (Dw.tsm n k F j) (j * B)
  | 0 => ⟨Nat.zero_le _, Nat.zero_le _⟩
  | j + 1 => by
    obtain ⟨h1, h2⟩ := tsm_sml (n := n) (k := k) h j
    obtain ⟨h3, h4⟩ := Dw.trm_sml (e := 4 / n * j * k % 4) (h j)
    rw [Nat.succ_mul]
    exact ⟨by show (_ + _ : Int).natAbs ≤ _; omega, by show (_ + _ : Int).natAbs ≤ _; omega⟩
theorem ret_ii {a b c d : Int} (h : a = c) (h' : b = d) : Ending.returned (.tuple #[.int .i64 a, .int .i64 b]) = .returned (.tuple #[.int .i64 c, .int .i64 d]) := by rw [h, h']
set_option maxRecDepth 100000 in
set_option maxHeartbeats 2000000 in
theorem turned_c (gr gi n k : Nat) (rs is : List Int) (w : World) (hr : Rz w gr gr n rs) (hi : Rz w gi gi n is) (hn : n = 1 ∨ n = 2 ∨ n = 4) (hk : k < n) (br : ∀ i, (rs.getD i 0).natAbs < 1099511627776) (bi : ∀ i, (is.getD i 0).natAbs < 1099511627776) :
    Calls Tryd.prog 26 #[.slice (some ⟨gr, 0, none⟩) n n, .slice (some ⟨gi, 0, none⟩) n n, .int .i64 (k : Int)] w fun e w' => e = .returned (.tuple #[.int .i64 (Dw.ts n k fun i => (rs.getD i 0, is.getD i 0)).1, .int .i64 (Dw.ts n k fun i => (rs.getD i 0, is.getD i 0)).2]) ∧ ∃ d, w' = w.drewN d := by
  obtain ⟨F, hF⟩ : ∃ F : Nat → Int × Int, Hid (F = fun i => (rs.getD i 0, is.getD i 0)) := ⟨_, (rfl : _ = _)⟩
  rw [← hF.out]
  have hrH : Hid (Rz w gr gr n rs) := hr
  have hiH : Hid (Rz w gi gi n is) := hi
  have hnH : Hid (n = 1 ∨ n = 2 ∨ n = 4) := hn
  have hbF : Hid (∀ i, Dw.Sml (F i) 1099511627776) := by
    show ∀ i, _
    intro i
    rw [hF.out]
    exact ⟨Nat.le_of_lt (br i), Nat.le_of_lt (bi i)⟩
  have hn4 : n ≤ 4 := by omega
  have hn0 : 0 < n := by omega
  clear hr hi hn br bi
  go_enter Tryd.func26, Tryd.ntmps26
  go_wp2_with fail
  go_loopw [9, 10, 11] (fun sa sb sj wx => ∃ (j : Nat) (a b : Int) (d : Nat), j ≤ n ∧ sj = .int .i64 (j : Int) ∧ sa = .int .i64 a ∧ sb = .int .i64 b ∧ Hid (Dw.tsm n k F j = (a, b)) ∧ Hid (wx = w.drewN d)) (fun _ _ sj _ => n - (intOf sj).toNat)
  case atStart => exact ⟨0, 0, 0, 0, Nat.zero_le _, rfl, rfl, rfl, (rfl : _ = _), (rfl : w = w.drewN 0)⟩
  case round =>
    obtain ⟨j, a, b, d, hj, rfl, rfl, rfl, hab, hw⟩ := hrel
    by_cases hlt : j < n
    · have hlt' : (j : Int) < (n : Int) := by omega
      have c1 : wr.cell? ⟨gr, j, none⟩ = some (.int .i64 (rs.getD j 0)) := by rw [hw.out]; exact hrH.out.cell hlt
      have c2 : wr.cell? ⟨gi, j, none⟩ = some (.int .i64 (is.getD j 0)) := by rw [hw.out]; exact hiH.out.cell hlt
      have hFj : F j = (rs.getD j 0, is.getD j 0) := by rw [hF.out]
      obtain ⟨C, hC, hC1⟩ : ∃ C : Nat, Hid (C = 4 / n) ∧ (4 : Int).tdiv (n : Int) = (C : Int) := ⟨4 / n, (rfl : _ = _), by rw [Int.tdiv_eq_ediv_of_nonneg (by decide)]; rfl⟩
      have hC4 : C ≤ 4 := by rw [hC.out]; exact Nat.div_le_self _ _
      obtain ⟨C1, hCa, hCa1⟩ : ∃ C1 : Nat, Hid (C1 = C * j) ∧ (C : Int) * (j : Int) = (C1 : Int) := ⟨C * j, (rfl : _ = _), by rw [Int.natCast_mul]⟩
      have hCa4 : C1 ≤ 16 := by rw [hCa.out]; exact Nat.mul_le_mul hC4 (show j ≤ 4 by omega)
      obtain ⟨C2, hCb, hCb1⟩ : ∃ C2 : Nat, Hid (C2 = C1 * k) ∧ (C1 : Int) * (k : Int) = (C2 : Int) := ⟨C1 * k, (rfl : _ = _), by rw [Int.natCast_mul]⟩
      have hCb4 : C2 ≤ 64 := by rw [hCb.out]; exact Nat.mul_le_mul hCa4 (show k ≤ 4 by omega)
      obtain ⟨e, heH, he1⟩ : ∃ e : Nat, Hid (e = C2 % 4) ∧ (C2 : Int).tmod 4 = (e : Int) := ⟨C2 % 4, (rfl : _ = _), by rw [Int.tmod_eq_emod_of_nonneg (by omega)]; rfl⟩
      have he4 : e < 4 := by rw [heH.out]; exact Nat.mod_lt _ (by decide)
      have hst : Hid (Dw.tsm n k F (j + 1) = (a + (Dw.trm e (rs.getD j 0, is.getD j 0)).1, b + (Dw.trm e (rs.getD j 0, is.getD j 0)).2)) := by
        show ((Dw.tsm n k F j).1 + (Dw.trm (4 / n * j * k % 4) (F j)).1, (Dw.tsm n k F j).2 + (Dw.trm (4 / n * j * k % 4) (F j)).2) = _
        rw [hab.out, hFj, heH.out, hCb.out, hCa.out, hC.out]
      have hs1 := tsm_sml (n := n) (k := k) hbF.out j
      rw [hab.out] at hs1
      have hs2 := hbF.out j
      rw [hFj] at hs2
      obtain ⟨p1, p2⟩ := hs1
      obtain ⟨p3, p4⟩ := hs2
      have hjB : j * 1099511627776 ≤ 4 * 1099511627776 := Nat.mul_le_mul_right _ (by omega)
      have p1' : -4398046511104 ≤ a ∧ a ≤ 4398046511104 := by omega
      have p2' : -4398046511104 ≤ b ∧ b ≤ 4398046511104 := by omega
      have p3' : -1099511627776 ≤ rs.getD j 0 ∧ rs.getD j 0 ≤ 1099511627776 := by omega
      have p4' : -1099511627776 ≤ is.getD j 0 ∧ is.getD j 0 ≤ 1099511627776 := by omega
      clear hFj p1 p2 p3 p4 hjB hab
      generalize rs.getD j 0 = ra at *
      generalize is.getD j 0 = rb at *
      have hnz : ¬ n = 0 := by omega
      have hcs : e = 0 ∨ e = 1 ∨ e = 2 ∨ e = 3 := by omega
      rcases hcs with he | he | he | he
      · subst he
        obtain ⟨X, hX⟩ : ∃ X : Int, a + ra = X := ⟨_, rfl⟩
        obtain ⟨Y, hY⟩ : ∃ Y : Int, b + rb = Y := ⟨_, rfl⟩
        have hXY : Hid (Dw.tsm n k F (j + 1) = (X, Y)) := by
          show _ = _
          rw [hst.out]; unfold Dw.trm; rw [if_pos rfl]
          rw [← hX, ← hY]
          all_goals exact Prod.ext (by show a + _ = _; omega) (by show b + _ = _; omega)
        have bX : -17592186044416 ≤ X ∧ X ≤ 17592186044416 := by omega
        have bY : -17592186044416 ≤ Y ∧ Y ≤ 17592186044416 := by omega
        clear hst
        go_wp2_with fail
        go_quiet (fail)
        have hw2 : Hid (wr.drewN nq = w.drewN (d + nq)) := by show _ = _; rw [hw.out, World.drewN_drewN]
        clear hw c1 c2
        generalize wr.drewN nq = wd at *
        go_wp2_with fail
        go_roundw
        case rel => exact ⟨j + 1, X, Y, d + nq, by omega, by go_num, rfl, rfl, hXY, hw2⟩
        case measure => simp [intOf]; omega
      · subst he
        obtain ⟨X, hX⟩ : ∃ X : Int, a + rb = X := ⟨_, rfl⟩
        obtain ⟨Y, hY⟩ : ∃ Y : Int, b - ra = Y := ⟨_, rfl⟩
        have hXY : Hid (Dw.tsm n k F (j + 1) = (X, Y)) := by
          show _ = _
          rw [hst.out]; unfold Dw.trm; rw [if_neg (by decide), if_pos rfl]
          rw [← hX, ← hY]
          all_goals exact Prod.ext (by show a + _ = _; omega) (by show b + _ = _; omega)
        have bX : -17592186044416 ≤ X ∧ X ≤ 17592186044416 := by omega
        have bY : -17592186044416 ≤ Y ∧ Y ≤ 17592186044416 := by omega
        clear hst
        go_wp2_with fail
        go_quiet (fail)
        have hw2 : Hid (wr.drewN nq = w.drewN (d + nq)) := by show _ = _; rw [hw.out, World.drewN_drewN]
        clear hw c1 c2
        generalize wr.drewN nq = wd at *
        go_wp2_with fail
        go_roundw
        case rel => exact ⟨j + 1, X, Y, d + nq, by omega, by go_num, rfl, rfl, hXY, hw2⟩
        case measure => simp [intOf]; omega
      · subst he
        obtain ⟨X, hX⟩ : ∃ X : Int, a - ra = X := ⟨_, rfl⟩
        obtain ⟨Y, hY⟩ : ∃ Y : Int, b - rb = Y := ⟨_, rfl⟩
        have hXY : Hid (Dw.tsm n k F (j + 1) = (X, Y)) := by
          show _ = _
          rw [hst.out]; unfold Dw.trm; rw [if_neg (by decide), if_neg (by decide), if_pos rfl]
          rw [← hX, ← hY]
          all_goals exact Prod.ext (by show a + _ = _; omega) (by show b + _ = _; omega)
        have bX : -17592186044416 ≤ X ∧ X ≤ 17592186044416 := by omega
        have bY : -17592186044416 ≤ Y ∧ Y ≤ 17592186044416 := by omega
        clear hst
        go_wp2_with fail
        go_quiet (fail)
        have hw2 : Hid (wr.drewN nq = w.drewN (d + nq)) := by show _ = _; rw [hw.out, World.drewN_drewN]
        clear hw c1 c2
        generalize wr.drewN nq = wd at *
        go_wp2_with fail
        go_roundw
        case rel => exact ⟨j + 1, X, Y, d + nq, by omega, by go_num, rfl, rfl, hXY, hw2⟩
        case measure => simp [intOf]; omega
      · subst he
        obtain ⟨X, hX⟩ : ∃ X : Int, a - rb = X := ⟨_, rfl⟩
        obtain ⟨Y, hY⟩ : ∃ Y : Int, b + ra = Y := ⟨_, rfl⟩
        have hXY : Hid (Dw.tsm n k F (j + 1) = (X, Y)) := by
          show _ = _
          rw [hst.out]; unfold Dw.trm; rw [if_neg (by decide), if_neg (by decide), if_neg (by decide)]
          rw [← hX, ← hY]
          all_goals exact Prod.ext (by show a + _ = _; omega) (by show b + _ = _; omega)
        have bX : -17592186044416 ≤ X ∧ X ≤ 17592186044416 := by omega
        have bY : -17592186044416 ≤ Y ∧ Y ≤ 17592186044416 := by omega
        clear hst
        go_wp2_with fail
        go_quiet (fail)
        have hw2 : Hid (wr.drewN nq = w.drewN (d + nq)) := by show _ = _; rw [hw.out, World.drewN_drewN]
        clear hw c1 c2
        generalize wr.drewN nq = wd at *
        go_wp2_with fail
        go_roundw
        case rel => exact ⟨j + 1, X, Y, d + nq, by omega, by go_num, rfl, rfl, hXY, hw2⟩
        case measure => simp [intOf]; omega
    · have hlt' : decide ((j : Int) < (n : Int)) = false := decide_eq_false (by omega)
      have ej : j = n := by omega
      subst ej
      go_wp2_with fail
      go_ret2
      exact ⟨ret_ii (by show a = (Dw.tsm j k F j).1; rw [hab.out]) (by show b = (Dw.tsm j k F j).2; rw [hab.out]), d, hw.out⟩
end Go.Proofs.YtehaokdjdhejlaaDoor
