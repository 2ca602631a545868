/-
  The program's reader: number.
-/
import Derived.Test.YtfoblbpbhldngaaDoorOq1
namespace Go.Proofs.YtfoblbpbhldngaaDoor
open Flo Go.RowKit Tr
open Lib (decDigits)
/-- what is told of a number that must begin here -/
def UE (g p M V : Nat) (l : List UInt8) (a : Addr) (w : World) (e : Ending) (w' : World) : Prop := Rz w' g l (p + M) ∧ w.grownBy w' (some g) ∧ (M ≠ 0 → e = .returned (.int .i64 (V : Int))) ∧ (M = 0 → e = .panicked (pan a))
theorem pw_low {k n : Nat} (h : 10 ^ k ≤ 10 * n) (hk : ¬ k < 6) : 100000 ≤ n := by
  have h1 : 10 ^ 6 ≤ 10 ^ k := Nat.pow_le_pow_right (by decide) (by omega)
  have h2 : (10 : Nat) ^ 6 = 1000000 := by decide
  omega
theorem pw_high {k n : Nat} (h : n < 10 ^ k) (hk : k < 6) : n < 100000 := by
  have h1 : 10 ^ k ≤ 10 ^ 5 := Nat.pow_le_pow_right (by decide) (by omega)
  have h2 : (10 : Nat) ^ 5 = 100000 := by decide
  omega
theorem pw_pos {k n : Nat} (h : k = 0 ∨ 10 ^ k ≤ 10 * n) (hk : 0 < k) : 0 < n := by
  rcases h with h | h
  · omega
  · have : 0 < 10 ^ k := Nat.pow_pos (by decide)
    omega
theorem pw_step {k n X : Nat} (h : k = 0 ∨ 10 ^ k ≤ 10 * n) (h0 : k ≠ 0 ∨ X ≠ 0) : 10 ^ (k + 1) ≤ 10 * (10 * n + X) := by
  rw [Nat.pow_succ]
  rcases h with h | h
  · subst h; simp; omega
  · omega
theorem pw_step2 {k n X : Nat} (h : n < 10 ^ k) (hX : X ≤ 9) : 10 * n + X < 10 ^ (k + 1) := by
  rw [Nat.pow_succ]; omega
set_option maxRecDepth 100000 in
set_option maxHeartbeats 1500000 in
theorem number_c (g p : Nat) (l : List UInt8) (a : Addr) (w : World) (hz : Rz w g l p) (hE : Et w a) (hgE : 2 < g) (hl : l.length ≤ 65536) (hp : p ≤ l.length) :
    Calls Tryd.prog 47 #[.pointer (some ⟨g, 0, none⟩)] w (UE g p (Ps.dc (l.drop p)) (Ps.nv (l.drop p)) l a w) := by
  obtain ⟨M, hM⟩ : ∃ M : Nat, Hid (Ps.dc (l.drop p) = M) := ⟨_, (rfl : _ = _)⟩
  obtain ⟨V, hV⟩ : ∃ V : Nat, Hid (Ps.nv (l.drop p) = V) := ⟨_, (rfl : _ = _)⟩
  rw [hM.out, hV.out]
  go_enter Tryd.func47, Tryd.ntmps47
  go_wp2_with fail
  go_loopw [3] (fun sn wx => ∃ k q n : Nat, k ≤ 6 ∧ n ≤ 999999 ∧ Hid (k ≤ M) ∧ q ≤ l.length ∧ Hid (q = p + k) ∧ Hid (n = Dg.dv ((l.drop p).take k)) ∧ Hid (n < 10 ^ k) ∧ Hid (k = 0 ∨ 10 ^ k ≤ 10 * n) ∧ sn = .int .i64 (n : Int) ∧ Hid (Rz wx g l q) ∧ Hid (w.grownBy wx (some g)) ∧ Hid (Et wx a)) (fun sn _ => 1000000 - (intOf sn).toNat)
  case atStart => exact ⟨0, p, 0, Nat.zero_le _, Nat.zero_le _, Nat.zero_le _, hp, (rfl : _ = _), (rfl : _ = _), (by show 0 < 1; decide), Or.inl rfl, rfl, hz, World.grownBy.refl _ _, hE⟩
  case round =>
    obtain ⟨k, q, n, hk, hn, hkM, hql, hq, hnv, hhi, hlo, rfl, hzr, hg, hEr⟩ := hrel
    have eL : Hid ((Bt l).size = l.length) := Bt_size l
    have h64 : (Bt l).size ≤ 65536 := by rw [eL.out]; exact hl
    have d0 : ∀ D, (wr.drewN D).cell? ⟨g, 0, none⟩ = some (.string (Bt l)) := fun D => (hzr.out.dr D).c0
    have d1 : ∀ D, (wr.drewN D).cell? ⟨g, 1, none⟩ = some (.int .i64 (q : Int)) := fun D => (hzr.out.dr D).c1
    have d2 : ∀ D, (wr.drewN D).frozen? ⟨g, 1, none⟩ = false := fun D => (hzr.out.dr D).fz 1
    have c0 := hzr.out.c0
    have c1 := hzr.out.c1
    have fin : (k = 6 ∨ ∀ b, (l.drop p)[k]? = some b → Dg.isD b = false) → Hid (n = V) ∧ Hid (M = k) ∧ Hid (∀ D, Rz (wr.drewN D) g l (p + M)) := fun h => by
      have e1 : M = k := by rw [← hM.out]; exact Ps.dc_stop (by rw [hM.out]; exact hkM.out) h
      refine ⟨?_, e1, fun D => ?_⟩
      · show n = V
        rw [hnv.out, ← hV.out]; unfold Ps.nv; rw [hM.out, e1]
      · rw [e1, ← hq.out]; exact hzr.out.dr D
    have hfin2 : Hid (∀ D, w.grownBy (wr.drewN D) (some g)) := fun D => gb_dr hg.out D
    have hE2 : Hid (∀ D, Et (wr.drewN D) a) := fun D => hEr.out.dr D
    -- what stands at the end: nought, or more
    have ends : Hid (n = V) → Hid (M = k) → Hid (∀ D, Rz (wr.drewN D) g l (p + M)) → Hid ((0 < k → ∀ D, UE g p M V l a w (.returned (.int .i64 (n : Int))) (wr.drewN D)) ∧ (k = 0 → ∀ D, UE g p M V l a w (.panicked (pan a)) (wr.drewN D))) := fun f1 f3 f2 =>
      ⟨fun h D => ⟨f2.out D, hfin2.out D, fun _ => by rw [f1.out], fun h0 => by have := f3.out; omega⟩, fun h D => ⟨f2.out D, hfin2.out D, fun h0 => by have := f3.out; omega, fun _ => rfl⟩⟩
    have hn0 : Hid (0 < k → ((n : Int) == 0) = false) := fun h => beq_eq_false_iff_ne.2 (by have := pw_pos hlo.out h; omega)
    have hn1 : Hid (k = 0 → n = 0) := fun h => by have h1 := hhi.out; rw [h] at h1; simpa using h1
    by_cases hk6 : k < 6
    · have hk6' : (n : Int) < 100000 := by have := pw_high hhi.out hk6; omega
      by_cases hlq : q < (Bt l).size
      · have hlq' : (q : Int) < ((Bt l).size : Int) := by omega
        have hx := bt_get l q hlq
        have hx2 : Hid ((l.drop p)[k]? = some ((Bt l)[q])) := by show _ = _; rw [List.getElem?_drop, ← hq.out]; exact hx
        clear hx
        obtain ⟨Y, hY⟩ : ∃ Y : Int, ((Bt l)[q].toNat : Int) - 48 = Y := ⟨_, rfl⟩
        have hb8 : (Bt l)[q].toNat < 256 := (Bt l)[q].toNat_lt
        have wr0 : IntKind.i64.wrap ((Bt l)[q].toNat : Int) = ((Bt l)[q].toNat : Int) := by rw [IntKind.wrap_i64]; omega
        by_cases x1 : Y < 0 ∨ 9 < Y
        · obtain ⟨f1, f3, f2⟩ := fin (.inr fun b h => by rw [hx2.out] at h; cases h; simp [Dg.isD]; omega)
          have E := ends f1 f3 f2
          clear fin ends f1 f2 f3 hx2
          by_cases x2 : Y < 0
          · have x2' : decide (Y < 0) = true := decide_eq_true x2
            by_cases h0 : k = 0
            · have e0 := hn1.out h0
              subst e0
              clear hn0 hn1 hnv hhi hlo
              go_wp2_with fail
              go_quiet (fail)
              go_wp2_with fail
              go_quiet (fail)
              go_wp2_with fail
              refine (giveUp_c g a _ (hE2.out _)).mono ?_
              rintro e w2 ⟨rfl, rfl⟩
              go_wp2_with fail
              exact ⟨rfl, E.out.2 h0 _⟩
            · have hn0' := hn0.out (by omega)
              have hk0 : Hid (0 < k) := by show 0 < k; omega
              clear hn0 hn1 hnv hhi hlo h0
              go_wp2_with fail
              go_quiet (fail)
              go_wp2_with fail
              go_quiet (fail)
              go_wp2_with fail
              go_ret
              exact E.out.1 hk0.out _
          · have x2' : decide (Y < 0) = false := decide_eq_false x2
            have x3 : Y > 9 := by omega
            have x3' : decide (Y > 9) = true := decide_eq_true x3
            clear x1
            by_cases h0 : k = 0
            · have e0 := hn1.out h0
              subst e0
              clear hn0 hn1 hnv hhi hlo
              go_wp2_with fail
              go_quiet (fail)
              go_wp2_with fail
              go_quiet (fail)
              go_wp2_with fail
              refine (giveUp_c g a _ (hE2.out _)).mono ?_
              rintro e w2 ⟨rfl, rfl⟩
              go_wp2_with fail
              exact ⟨rfl, E.out.2 h0 _⟩
            · have hn0' := hn0.out (by omega)
              have hk0 : Hid (0 < k) := by show 0 < k; omega
              clear hn0 hn1 hnv hhi hlo h0
              go_wp2_with fail
              go_quiet (fail)
              go_wp2_with fail
              go_quiet (fail)
              go_wp2_with fail
              go_ret
              exact E.out.1 hk0.out _
        · have y1 : decide (Y < 0) = false := decide_eq_false (by omega)
          have y2 : decide (Y > 9) = false := decide_eq_false (by omega)
          have y3 : ¬ Y < 0 := by omega
          have y4 : ¬ Y > 9 := by omega
          have hdig : Hid (Dg.isD ((Bt l)[q]) = true) := by show _ = _; simp [Dg.isD]; omega
          clear fin x1
          by_cases hz0 : k = 0 ∧ Y = 0
          · obtain ⟨h0, e48⟩ := hz0
            have e0 := hn1.out h0
            subst e0
            have hx3 : Hid ((l.drop p)[0]? = some 48) := by
              show _ = _
              rw [← h0, hx2.out]
              exact congrArg some (UInt8.toNat_inj.1 (show _ = 48 by omega))
            have e1 : M = 0 := by rw [← hM.out]; exact Ps.dc_nought hx3.out
            have e2 : V = 0 := by rw [← hV.out]; unfold Ps.nv; rw [hM.out, e1]; rfl
            have E := ends (show 0 = V by rw [e2]) (show M = k by rw [e1, h0]) (fun D => by rw [e1]; have := hzr.out.dr D; rw [hq.out, h0] at this; exact this)
            have e48' : (Y == 0) = true := by rw [e48]; rfl
            clear hx2 hx3 hdig hn0 hn1 hnv hhi hlo ends e1 e2
            go_wp2_with fail
            go_quiet (fail)
            go_wp2_with fail
            go_quiet (fail)
            go_wp2_with fail
            refine (giveUp_c g a _ (hE2.out _)).mono ?_
            rintro e w2 ⟨rfl, rfl⟩
            go_wp2_with fail
            exact ⟨rfl, E.out.2 h0 _⟩
          · have hst : Hid (k + 1 ≤ M) := by
              show _ ≤ _
              rw [← hM.out]
              refine Ps.dc_more (by rw [hM.out]; exact hkM.out) hk6 hx2.out hdig.out ?_
              by_cases h0 : k = 0
              · right
                intro e
                refine hz0 ⟨h0, ?_⟩
                rw [e] at hY
                exact hY.symm
              · exact .inl h0
            obtain ⟨X, hX, hX9, hXI⟩ : ∃ X : Nat, Hid (X = (Bt l)[q].toNat - 48) ∧ X ≤ 9 ∧ Y = (X : Int) := ⟨(Bt l)[q].toNat - 48, (rfl : _ = _), by omega, by omega⟩
            have hnv2 : Hid (10 * n + X = Dg.dv ((l.drop p).take (k + 1))) := by
              show _ = _
              rw [Dg.take_snoc hx2.out, Dg.dv_snoc, ← hnv.out, ← hX.out]; omega
            have hX0 : k ≠ 0 ∨ X ≠ 0 := by
              by_cases h0 : k = 0
              · exact .inr (fun e => hz0 ⟨h0, by omega⟩)
              · exact .inl h0
            have hlo2 : Hid (k + 1 = 0 ∨ 10 ^ (k + 1) ≤ 10 * (10 * n + X)) := Or.inr (pw_step hlo.out hX0)
            have hhi2 : Hid (10 * n + X < 10 ^ (k + 1)) := pw_step2 hhi.out hX9
            have hn2 : 10 * n + X ≤ 999999 := by
              have h1 := hhi2.out
              have h3 : 10 ^ (k + 1) ≤ 10 ^ 6 := Nat.pow_le_pow_right (by decide) (by omega)
              have h4 : (10 : Nat) ^ 6 = 1000000 := by decide
              omega
            have hgr : Hid (n < 10 * n + X) := by
              show _ < _
              by_cases h0 : k = 0
              · omega
              · have := pw_pos hlo.out (by omega); omega
            have hq1 : q + 1 ≤ l.length := by rw [← eL.out]; omega
            have hq2 : Hid (q + 1 = p + (k + 1)) := by show _ = _; rw [hq.out]; omega
            have hz1 : Hid (∀ D, Rz ((wr.drewN D).setCell ⟨g, 1, none⟩ (.int .i64 ((q : Int) + 1))) g l (q + 1)) := fun D => (hzr.out.dr D).set (q + 1)
            have hg0 : ∀ D, wr.grownBy ((wr.drewN D).setCell ⟨g, 1, none⟩ (.int .i64 ((q : Int) + 1))) (some g) := fun D => Lib.Hx.grownBy_set (gb_dr (Lib.Hx.grownBy_refl _ _) D) ⟨g, 1, none⟩ rfl _
            have hg1 : Hid (∀ D, w.grownBy ((wr.drewN D).setCell ⟨g, 1, none⟩ (.int .i64 ((q : Int) + 1))) (some g)) := fun D => gb_tr hg.out (hg0 D)
            have hE1 : Hid (∀ D, Et ((wr.drewN D).setCell ⟨g, 1, none⟩ (.int .i64 ((q : Int) + 1))) a) := fun D => hEr.out.kept (hg0 D) hgE
            obtain ⟨N, hN, hNI⟩ : ∃ N : Nat, Hid (N = 10 * n + X) ∧ 10 * (n : Int) + Y = (N : Int) := ⟨10 * n + X, (rfl : _ = _), by omega⟩
            have wr3 : IntKind.i64.wrap (10 * (n : Int)) = 10 * (n : Int) := by rw [IntKind.wrap_i64]; omega
            have hN6 : N ≤ 999999 := by rw [hN.out]; exact hn2
            have wr4 : IntKind.i64.wrap (N : Int) = (N : Int) := by rw [IntKind.wrap_i64]; omega
            have hmes : Hid (1000000 - N < 1000000 - n) := by show _ < _; rw [hN.out]; have := hgr.out; omega
            have hnvN : Hid (N = Dg.dv ((l.drop p).take (k + 1))) := by show _ = _; rw [hN.out]; exact hnv2.out
            have hhiN : Hid (N < 10 ^ (k + 1)) := by show _ < _; rw [hN.out]; exact hhi2.out
            have hloN : Hid (k + 1 = 0 ∨ 10 ^ (k + 1) ≤ 10 * N) := by show _ ∨ _; rw [hN.out]; exact hlo2.out
            clear hx2 hX hXI hX9 hX0 hlo2 hhi2 hnv2 hn2 hgr hg0 ends hdig hnv hhi hlo
            by_cases h0 : k = 0
            · have e0 := hn1.out h0
              subst e0
              have hY0 : (Y == 0) = false := beq_eq_false_iff_ne.2 (fun e => hz0 ⟨h0, e⟩)
              have hYN : Hid (Y = (N : Int)) := by show _ = _; omega
              have hYt : Hid (Y.toNat = N) := by show _ = _; omega
              clear hn0 hn1 hz0
              go_wp2_with fail
              go_quiet (fail)
              go_wp2_with fail
              go_quiet (fail)
              go_wp2_with fail
              go_roundw
              case rel => exact ⟨k + 1, q + 1, N, by omega, hN6, hst, hq1, hq2, hnvN, hhiN, hloN, by rw [hYN.out], hz1.out _, hg1.out _, hE1.out _⟩
              case measure => simpa [intOf, hYt.out] using hmes.out
            · have hn0' := hn0.out (by omega)
              clear hn0 hn1 hz0
              go_wp2_with fail
              go_quiet (fail)
              go_wp2_with fail
              go_quiet (fail)
              go_wp2_with fail
              go_roundw
              case rel => exact ⟨k + 1, q + 1, N, by omega, hN6, hst, hq1, hq2, hnvN, hhiN, hloN, rfl, hz1.out _, hg1.out _, hE1.out _⟩
              case measure => simpa [intOf] using hmes.out
      · have hlq' : decide ((q : Int) < ((Bt l).size : Int)) = false := decide_eq_false (by omega)
        obtain ⟨f1, f3, f2⟩ := fin (.inr fun b h => by rw [List.getElem?_drop, ← hq.out, List.getElem?_eq_none (by rw [← eL.out]; omega)] at h; cases h)
        have E := ends f1 f3 f2
        clear fin ends f1 f2 f3
        by_cases h0 : k = 0
        · have e0 := hn1.out h0
          subst e0
          clear hn0 hn1 hnv hhi hlo
          go_wp2_with fail
          go_quiet (fail)
          go_wp2_with fail
          refine (giveUp_c g a _ (hE2.out _)).mono ?_
          rintro e w2 ⟨rfl, rfl⟩
          go_wp2_with fail
          exact ⟨rfl, E.out.2 h0 _⟩
        · have hn0' := hn0.out (by omega)
          have hk0 : Hid (0 < k) := by show 0 < k; omega
          clear hn0 hn1 hnv hhi hlo h0
          go_wp2_with fail
          go_quiet (fail)
          go_wp2_with fail
          go_ret
          exact E.out.1 hk0.out _
    · have hk6' : decide ((n : Int) < 100000) = false := decide_eq_false (by
        rcases hlo.out with h | h
        · omega
        · have := pw_low h hk6; omega)
      obtain ⟨f1, f3, f2⟩ := fin (.inl (by omega))
      have E := ends f1 f3 f2
      have hn0' := hn0.out (by omega)
      have hk0 : Hid (0 < k) := by show 0 < k; omega
      clear fin ends f1 f2 f3 hn0 hn1 hnv hhi hlo
      go_wp2_with fail
      go_region
      all_goals
        go_wp2_with fail
        go_ret
        exact E.out.1 hk0.out _
end Go.Proofs.YtfoblbpbhldngaaDoor
