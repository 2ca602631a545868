/-
  The document's layer 10: the product of places modulo n; Plus, Less; the sum, watched.
-/
import Derived.Test.YtehaokdjdhejlaaDoorWt1
namespace Go.Proofs.YtehaokdjdhejlaaDoor
open Flo Go.RowKit
set_option maxHeartbeats 1000000 in
theorem prod10_c (j n : Nat) (k : Int) (w : World) (hj : j < n) (hn : n ≤ 4096) :
    Calls Tryd.prog 49 #[.int .i64 (j : Int), .int .i64 k, .int .i64 (n : Int)] w fun e w' => e = .returned (.int .i64 ((j * Rp.md n k % n : Nat) : Int)) ∧ w' = w := by
  have m1 := mod7_c n (j : Int) w (by omega) (by omega)
  rw [md_self hj] at m1
  have m2 := mod7_c n k w (by omega) (by omega)
  have hm := Rp.md_lt (n := n) (by omega) k
  generalize Rp.md n k = m at *
  obtain ⟨q, hq, hq1⟩ : ∃ q : Nat, Hid (q = j * m) ∧ (j : Int) * (m : Int) = (q : Int) := ⟨j * m, (rfl : _ = _), by rw [Int.natCast_mul]⟩
  have hqb : q ≤ 16777216 := by rw [hq.out]; exact Nat.mul_le_mul (show j ≤ 4096 by omega) (show m ≤ 4096 by omega)
  have hr : (q : Int).tmod (n : Int) = ((j * m % n : Nat) : Int) := by rw [Int.tmod_eq_emod_of_nonneg (by omega), hq.out, Int.natCast_emod]
  have hn0 : ¬ n = 0 := by omega
  generalize j * m % n = r at *
  go_enter Tryd.func49, Tryd.ntmps49
  go_wp2_with fail
  refine m1.mono ?_
  rintro e w1 ⟨rfl, rfl⟩
  go_wp2_with fail
  refine m2.mono ?_
  rintro e w2 ⟨rfl, rfl⟩
  go_wp2_with fail
  go_ret
  exact ⟨rfl, rfl⟩
set_option maxHeartbeats 2000000 in
theorem watched_n (g b off cap : Nat) (fl : Bool) (zs : List (Nat × Nat)) (n k : Nat) (w : World) (hW : Hid (Wt w g fl)) (hL : Hid (zs.length = n)) (hb : Hid (∀ i, i < n → w.cell? ⟨b, off + i, none⟩ = some (.complex .f64 (zs.getD i (0, 0)).1 (zs.getD i (0, 0)).2)))
    (hne : b ≠ g) (hl : Hid (Lim zs)) (hk : k < n) (hn2 : n ≤ 1024) :
    Calls Tryd.prog 45 #[.pointer (some ⟨g, 0, none⟩), .slice (some ⟨b, off, none⟩) n cap, .int .i64 (k : Int)] w fun e w' => ∃ x y b', e = .returned (.complex .f64 x y) ∧ Wt w' g b' ∧ Fr (fun k => k = g) w w' ∧ (b' = false → fl = false ∧ Tr.Cs n k (fun j => zs.getD j (0, 0)) (n - 1)) := by
  have hn : 0 < n := by omega
  have hc0 : w.cell? ⟨b, off, none⟩ = some (.complex .f64 (zs.getD 0 (0, 0)).1 (zs.getD 0 (0, 0)).2) := hb.out 0 hn
  have hl0 : Hid ((zs.getD 0 (0, 0)).1 < 18446744073709551616 ∧ (zs.getD 0 (0, 0)).2 < 18446744073709551616) := hl.out 0 (by rw [hL.out]; exact hn)
  have z0 : Hid (Lk ((zs.getD 0 (0, 0)).1, (zs.getD 0 (0, 0)).2) (dst n k (fun j => zs.getD j (0, 0)) 0)) := Lk.refl _
  have hneH : Hid (b ≠ g) := hne
  clear hne
  generalize (zs.getD 0 (0, 0)).1 = x0 at *
  generalize (zs.getD 0 (0, 0)).2 = y0 at *
  go_enter Tryd.func45, Tryd.ntmps45
  go_wp2_with fail
  clear hc0
  go_loopw [8, 9, 10, 11, 12] (fun sy sj _ _ _ wx => ∃ (x y j : Nat) (b' : Bool), sy = .complex .f64 x y ∧ sj = .int .i64 (j : Int) ∧ j ≤ n ∧ 1 ≤ j ∧ Hid (Wt wx g b') ∧ Hid (Fr (fun k => k = g) w wx) ∧ Hid (x < 18446744073709551616 ∧ y < 18446744073709551616 ∧ Lk (x, y) (dst n k (fun j => zs.getD j (0, 0)) (j - 1))) ∧ Hid (b' = false → fl = false ∧ Tr.Cs n k (fun j => zs.getD j (0, 0)) (j - 1))) (fun _ sj _ _ _ _ => n - (intOf sj).toNat)
  case atStart => exact ⟨x0, y0, 1, fl, rfl, rfl, hn, Nat.le_refl _, hW, Fr.refl _ _, ⟨hl0.out.1, hl0.out.2, z0.out⟩, fun h => ⟨h, fun i hi => absurd hi (Nat.not_lt_zero i)⟩⟩
  case round =>
    clear z0 hl0
    obtain ⟨x, y, j, b1, rfl, rfl, hjn, hj1, k1, f1, hxy, c1⟩ := hrel
    by_cases hlt : j < n
    · have hlt' : (j : Int) < (n : Int) := by omega
      have hcj : wr.cell? ⟨b, off + j, none⟩ = some (.complex .f64 (zs.getD j (0, 0)).1 (zs.getD j (0, 0)).2) := f1.out.cell (hb.out j hlt) hneH.out
      have hlj := hl.out j (by rw [hL.out]; exact hlt)
      obtain ⟨m, hm⟩ : ∃ m, Hid (m = j * k % n) := ⟨_, (rfl : _ = _)⟩
      have hmn : m < n := by rw [hm.out]; exact Nat.mod_lt _ hn
      have hpc : Hid (Calls Tryd.prog 49 #[.int .i64 (j : Int), .int .i64 (k : Int), .int .i64 (n : Int)] wr fun e w' => e = .returned (.int .i64 (m : Int)) ∧ w' = wr) := by
        have := prod10_c j n (k : Int) wr hlt (by omega)
        rw [md_self hk, ← hm.out] at this
        exact this
      have hst : Hid (dst n k (fun j => zs.getD j (0, 0)) j = adc (dst n k (fun j => zs.getD j (0, 0)) (j - 1)) (tws n m (zs.getD j (0, 0)))) := by
        show _ = _
        obtain ⟨i, rfl⟩ : ∃ i, j = i + 1 := ⟨j - 1, by omega⟩
        rw [hm.out]; rfl
      have hzj : Hid (∀ P : Nat × Nat → Prop, P (zs.getD j (0, 0)) → P ((fun j => zs.getD j (0, 0)) j)) := fun P h => h
      obtain ⟨⟨a, c⟩, hac⟩ : ∃ z, Hid (zs.getD j (0, 0) = z) := ⟨_, (rfl : _ = _)⟩
      rw [hac.out] at hcj hlj hst
      by_cases hm0 : m = 0
      · have hmz : ((m : Int) == 0) = true := beq_iff_eq.2 (by omega)
        have hmz' : ((m : Int) != 0) = false := by show (!(_ == _)) = _; rw [hmz]; rfl
        have lkt : Hid (Lk (a, c) (tws n m (a, c))) := by
          show Lk _ _
          unfold tws; rw [if_pos hm0]; exact Lk.refl _
        have c2 : Hid (b1 = false → fl = false ∧ Tr.Cs n k (fun j => zs.getD j (0, 0)) (j - 1) ∧ Tr.Ct n m ((fun j => zs.getD j (0, 0)) j)) := fun h => ⟨(c1.out h).1, (c1.out h).2, .inl hm0⟩
        have k2 : Hid (Wt wr g b1) := k1
        have f2 : Hid (Fr (fun k => k = g) w wr) := f1
        clear hm0
        go_wp2_with fail
        refine hpc.out.mono ?_
        rintro e w9 ⟨rfl, rfl⟩
        go_wp2_with fail
        refine (wadd_c g x y a c b1 _ k2.out).mono ?_
        rintro e w3 ⟨x3, y3, b3, rfl, lx3, ly3, lk3, h2, h3, h4⟩
        have ead : Hid (adc (x, y) (a, c) = dst n k (fun j => zs.getD j (0, 0)) j) := by
          show _ = _
          rw [hst.out]; exact adc_of hxy.out.2.2 lkt.out
        have k3 : Hid (Wt w3 g b3) := h2
        have f3 : Hid (Fr (fun k => k = g) w w3) := f2.out.then h3
        have d3 : Hid (x3 < 18446744073709551616 ∧ y3 < 18446744073709551616 ∧ Lk (x3, y3) (dst n k (fun j => zs.getD j (0, 0)) j)) := ⟨lx3, ly3, by rw [← ead.out]; exact lk3⟩
        have c3 : Hid (b3 = false → fl = false ∧ Tr.Cs n k (fun j => zs.getD j (0, 0)) j) := fun h => by
          have g3 := h4 h
          have g2 := c2.out g3.1
          refine ⟨g2.1, fun i hi => ?_⟩
          by_cases ci : i < j - 1
          · exact g2.2.1 i ci
          · have ei : i + 1 = j := by omega
            rw [ei]
            exact ⟨by rw [← hm.out]; exact g2.2.2, by rw [← ead.out]; exact g3.2⟩
        clear h2 h3 h4 lk3
        obtain ⟨J, hJ, hJ1⟩ : ∃ J : Nat, Hid (J = j + 1) ∧ (j : Int) + 1 = (J : Int) := ⟨j + 1, (rfl : _ = _), by omega⟩
        go_wp2_with fail
        go_roundw
        case rel =>
          refine ⟨x3, y3, J, b3, rfl, rfl, ?_, ?_, k3, f3, ?_, ?_⟩
          · rw [hJ.out]; exact hlt
          · rw [hJ.out]; omega
          · rw [hJ.out]; exact d3
          · rw [hJ.out]; exact c3
        case measure => simp [intOf]; have := hJ.out; omega
      · have hmz : ((m : Int) == 0) = false := beq_eq_false_iff_ne.2 (by omega)
        have hmz' : ((m : Int) != 0) = true := by show (!(_ == _)) = _; rw [hmz]; rfl
        have hmH : Hid (¬ m = 0) := hm0
        clear hm0
        have hpcf := Rp.pc_fin (n := n) m hn (by omega)
        have hpif := Rp.pim_fin (n := n) m hn (by omega)
        have hr1 : Hid (Rp.pc n m < 18446744073709551616 ∧ Rp.pim n m < 18446744073709551616) := ⟨hpcf.1, hpif.1⟩
        clear hpcf hpif
        have hRt : Hid (Calls Tryd.prog 52 #[.int .i64 (n : Int), .int .i64 (m : Int)] wr fun e w' => e = .returned (.complex .f64 (Rp.pc n m) (Rp.pim n m)) ∧ ∃ d, w' = wr.drewN d) := r7Root_n n m wr hmn (by omega)
        have htw : Hid (tws n m (a, c) = mlc (a, c) (Rp.pc n m, Rp.pim n m)) := by show _ = _; unfold tws; rw [if_neg hmH.out]
        have hct : Hid (Tr.Cm (a, c) (Rp.pc n m, Rp.pim n m) → Tr.Ct n m ((fun j => zs.getD j (0, 0)) j)) := fun h => .inr (by show Tr.Cm (zs.getD j (0, 0)) _; rw [hac.out]; exact h)
        generalize Rp.pc n m = rc at *
        generalize Rp.pim n m = rs at *
        go_wp2_with fail
        refine hpc.out.mono ?_
        rintro e w9 ⟨rfl, rfl⟩
        go_wp2_with fail
        refine hRt.out.mono ?_
        rintro e w8 ⟨rfl, d, rfl⟩
        go_wp2_with fail
        refine (wmul_c g a c rc rs b1 _ (k1.out.drewN d) hlj.1 hlj.2 hr1.out.1 hr1.out.2).mono ?_
        rintro e w2 ⟨t1, t2, b2, rfl, lt1, lt2, lkm, g2, g3, g4⟩
        have k2 : Hid (Wt w2 g b2) := g2
        have f2 : Hid (Fr (fun k => k = g) w w2) := (f1.out.drewN d).then g3
        have lkt : Hid (Lk (t1, t2) (tws n m (a, c))) := by show Lk _ _; rw [htw.out]; exact lkm
        have c2 : Hid (b2 = false → fl = false ∧ Tr.Cs n k (fun j => zs.getD j (0, 0)) (j - 1) ∧ Tr.Ct n m ((fun j => zs.getD j (0, 0)) j)) := fun h => ⟨(c1.out (g4 h).1).1, (c1.out (g4 h).1).2, hct.out (g4 h).2⟩
        clear g2 g3 g4 lkm hRt hpc k1 f1 c1
        go_wp2_with fail
        refine (wadd_c g x y t1 t2 b2 w2 k2.out).mono ?_
        rintro e w3 ⟨x3, y3, b3, rfl, lx3, ly3, lk3, h2, h3, h4⟩
        have ead : Hid (adc (x, y) (t1, t2) = dst n k (fun j => zs.getD j (0, 0)) j) := by
          show _ = _
          rw [hst.out]; exact adc_of hxy.out.2.2 lkt.out
        have k3 : Hid (Wt w3 g b3) := h2
        have f3 : Hid (Fr (fun k => k = g) w w3) := f2.out.then h3
        have d3 : Hid (x3 < 18446744073709551616 ∧ y3 < 18446744073709551616 ∧ Lk (x3, y3) (dst n k (fun j => zs.getD j (0, 0)) j)) := ⟨lx3, ly3, by rw [← ead.out]; exact lk3⟩
        have c3 : Hid (b3 = false → fl = false ∧ Tr.Cs n k (fun j => zs.getD j (0, 0)) j) := fun h => by
          have g3 := h4 h
          have g2 := c2.out g3.1
          refine ⟨g2.1, fun i hi => ?_⟩
          by_cases ci : i < j - 1
          · exact g2.2.1 i ci
          · have ei : i + 1 = j := by omega
            rw [ei]
            exact ⟨by rw [← hm.out]; exact g2.2.2, by rw [← ead.out]; exact g3.2⟩
        clear h2 h3 h4 lk3
        obtain ⟨J, hJ, hJ1⟩ : ∃ J : Nat, Hid (J = j + 1) ∧ (j : Int) + 1 = (J : Int) := ⟨j + 1, (rfl : _ = _), by omega⟩
        go_wp2_with fail
        go_roundw
        case rel =>
          refine ⟨x3, y3, J, b3, rfl, rfl, ?_, ?_, k3, f3, ?_, ?_⟩
          · rw [hJ.out]; exact hlt
          · rw [hJ.out]; omega
          · rw [hJ.out]; exact d3
          · rw [hJ.out]; exact c3
        case measure => simp [intOf]; have := hJ.out; omega
    · have hlt' : decide ((j : Int) < (n : Int)) = false := decide_eq_false (by omega)
      have ej : j = n := by omega
      subst ej
      go_wp2_with fail
      go_ret
      exact ⟨x, y, b1, rfl, k1.out, f1.out, c1.out⟩
end Go.Proofs.YtehaokdjdhejlaaDoor
