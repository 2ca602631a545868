/-
  The document's number.
-/
import Derived.Test.YtfoblbpbhldngaaDoorOd11
namespace Go.Proofs.YtfoblbpbhldngaaDoor
open Flo Go.RowKit Tr
open Lib (decDigits)
namespace Ps
open Dg (rl dv isD tz)
theorem rl_more : ∀ (l : List UInt8) (k : Nat) (b : UInt8), k ≤ rl l → l[k]? = some b → isD b = true → k + 1 ≤ rl l
  | [], k, b, _, h, _ => by simp at h
  | x :: l, 0, b, _, h, hb => by
    have e : x = b := by simpa using h
    unfold rl
    rw [List.takeWhile_cons, if_pos (by rw [e]; exact hb), List.length_cons]; omega
  | x :: l, k + 1, b, h, h2, hb => by
    unfold rl at h ⊢
    rw [List.takeWhile_cons] at h ⊢
    by_cases hx : isD x = true
    · rw [if_pos hx, List.length_cons] at h ⊢
      have := rl_more l k b (by unfold rl; omega) (by simpa using h2) hb
      unfold rl at this; omega
    · rw [if_neg hx] at h; simp at h
theorem dc_le6 (l : List UInt8) : dc l ≤ 6 := by
  unfold dc
  split <;> omega
theorem dc_rl (l : List UInt8) : dc l ≤ rl l := by
  unfold dc
  split <;> omega
theorem dc_stop {l : List UInt8} {k : Nat} (h : k ≤ dc l) (hs : k = 6 ∨ ∀ b, l[k]? = some b → isD b = false) : dc l = k := by
  rcases hs with rfl | hs
  · have := dc_le6 l; omega
  · by_cases hk : k < dc l
    · exfalso
      have h1 := dc_rl l
      have h2 := Dg.rl_le l
      have h3 : l[k]? = some (l[k]'(by omega)) := List.getElem?_eq_getElem _
      have h4 := Dg.rl_all l (l[k]'(by omega)) (by
        refine List.mem_of_getElem? (i := k) ?_
        rw [List.getElem?_take, if_pos (by omega)]; exact h3)
      rw [hs _ h3] at h4
      exact absurd h4 (by decide)
    · omega
theorem dc_more {l : List UInt8} {k : Nat} {b : UInt8} (h : k ≤ dc l) (hk : k < 6) (hb : l[k]? = some b) (hd : isD b = true) (h0 : k ≠ 0 ∨ b ≠ 48) : k + 1 ≤ dc l := by
  have h1 := rl_more l k b (Nat.le_trans h (dc_rl l)) hb hd
  have hh : l.head? ≠ some 48 := by
    rcases h0 with h0 | h0
    · intro e
      unfold dc at h
      rw [if_pos e] at h; omega
    · by_cases hk0 : k = 0
      · subst hk0
        intro e
        rw [List.head?_eq_getElem?, hb] at e
        exact h0 (Option.some.inj e)
      · intro e
        unfold dc at h
        rw [if_pos e] at h; omega
  unfold dc
  rw [if_neg hh]; omega
theorem dc_nought {l : List UInt8} (h : l[0]? = some 48) : dc l = 0 := by
  unfold dc
  rw [List.head?_eq_getElem?, if_pos h]
end Ps
set_option maxRecDepth 100000 in
set_option maxHeartbeats 1500000 in
theorem rnumber_c (g p : Nat) (l : List UInt8) (sv : Value) (w : World) (hz : Pz w g l p sv) (hl : l.length ≤ 65536) (hp : p ≤ l.length) :
    Calls Tryd.prog 35 #[.pointer (some ⟨g, 0, none⟩)] w fun e w' => e = .returned (.int .i64 (Ps.nv (l.drop p) : Int)) ∧ Pz w' g l (p + Ps.dc (l.drop p)) sv ∧ w.grownBy w' (some g) := by
  obtain ⟨M, hM⟩ : ∃ M : Nat, Hid (Ps.dc (l.drop p) = M) := ⟨_, (rfl : _ = _)⟩
  obtain ⟨V, hV⟩ : ∃ V : Nat, Hid (Ps.nv (l.drop p) = V) := ⟨_, (rfl : _ = _)⟩
  rw [hM.out, hV.out]
  go_enter Tryd.func35, Tryd.ntmps35
  go_wp2_with fail
  go_loopw [3, 4] (fun sn sk wx => ∃ k q n : Nat, k ≤ 6 ∧ n ≤ 999999 ∧ Hid (k ≤ M) ∧ q ≤ l.length ∧ Hid (q = p + k) ∧ Hid (n = Dg.dv ((l.drop p).take k)) ∧ sn = .int .i64 (n : Int) ∧ sk = .int .i64 (k : Int) ∧ Hid (Pz wx g l q sv) ∧ Hid (w.grownBy wx (some g))) (fun _ sk _ => 6 - (intOf sk).toNat)
  case atStart => exact ⟨0, p, 0, Nat.zero_le _, Nat.zero_le _, Nat.zero_le _, hp, (rfl : _ = _), (rfl : _ = _), rfl, rfl, hz, World.grownBy.refl _ _⟩
  case round =>
    obtain ⟨k, q, n, hk, hn, hkM, hql, hq, hnv, rfl, rfl, hz, hg⟩ := hrel
    have eL : Hid ((Bt l).size = l.length) := Bt_size l
    have h64 : (Bt l).size ≤ 65536 := by rw [eL.out]; exact hl
    have d0 : ∀ D, (wr.drewN D).cell? ⟨g, 0, none⟩ = some (.string (Bt l)) := fun D => (hz.out.drew D).c0
    have d1 : ∀ D, (wr.drewN D).cell? ⟨g, 1, none⟩ = some (.int .i64 (q : Int)) := fun D => (hz.out.drew D).c1
    have d2 : ∀ D, (wr.drewN D).frozen? ⟨g, 1, none⟩ = false := fun D => (hz.out.drew D).fz 1
    have c0 := hz.out.c0
    have c1 := hz.out.c1
    have fin : (k = 6 ∨ ∀ b, (l.drop p)[k]? = some b → Dg.isD b = false) → Hid (n = V) ∧ Hid (∀ D, Pz (wr.drewN D) g l (p + M) sv) := fun h => by
      have e1 : M = k := by rw [← hM.out]; exact Ps.dc_stop (by rw [hM.out]; exact hkM.out) h
      refine ⟨?_, fun D => ?_⟩
      · show n = V
        rw [hnv.out, ← hV.out]; unfold Ps.nv; rw [hM.out, e1]
      · rw [e1, ← hq.out]; exact hz.out.drew D
    have hfin2 : Hid (∀ D, w.grownBy (wr.drewN D) (some g)) := fun D => gb_drew hg.out D
    by_cases hk6 : k < 6
    · have hk6' : (k : Int) < 6 := by omega
      by_cases hlq : q < (Bt l).size
      · have hlq' : (q : Int) < ((Bt l).size : Int) := by omega
        have hx := bt_get l q hlq
        have hx2 : Hid ((l.drop p)[k]? = some ((Bt l)[q])) := by show _ = _; rw [List.getElem?_drop, ← hq.out]; exact hx
        clear hx
        by_cases x1 : ((Bt l)[q].toNat : Int) < 48
        · obtain ⟨f1, f2⟩ := fin (.inr fun b h => by rw [hx2.out] at h; cases h; simp [Dg.isD]; omega)
          clear fin
          have x1' : decide (((Bt l)[q].toNat : Int) ≥ 48) = false := decide_eq_false (by omega)
          go_wp2_with fail
          go_region
          all_goals
            go_wp2_with fail
            go_ret
            exact ⟨by rw [f1.out]; rfl, f2.out _, hfin2.out _⟩
        · have y1 : ((Bt l)[q].toNat : Int) ≥ 48 := by omega
          by_cases x2 : (57 : Int) < ((Bt l)[q].toNat : Int)
          · obtain ⟨f1, f2⟩ := fin (.inr fun b h => by rw [hx2.out] at h; cases h; simp [Dg.isD]; omega)
            clear fin
            have x2' : decide (((Bt l)[q].toNat : Int) ≤ 57) = false := decide_eq_false (by omega)
            go_wp2_with fail
            go_quiet (fail)
            go_wp2_with fail
            go_ret
            exact ⟨by rw [f1.out]; rfl, f2.out _, hfin2.out _⟩
          · have y2 : ((Bt l)[q].toNat : Int) ≤ 57 := by omega
            clear fin
            have hdig : Hid (Dg.isD ((Bt l)[q]) = true) := by show _ = _; simp [Dg.isD]; omega
            by_cases hz0 : k = 0 ∧ (Bt l)[q].toNat = 48
            · obtain ⟨rfl, e48⟩ := hz0
              have hx3 : Hid ((l.drop p)[0]? = some 48) := by
                show _ = _
                rw [hx2.out]
                exact congrArg some (UInt8.toNat_inj.1 e48)
              have e1 : Hid (M = 0) := by show _ = _; rw [← hM.out]; exact Ps.dc_nought hx3.out
              have e2 : Hid (V = 0) := by show _ = _; rw [← hV.out]; unfold Ps.nv; rw [hM.out, e1.out]; rfl
              have f2 : Hid (∀ D, Pz (wr.drewN D) g l (p + M) sv) := fun D => by rw [e1.out, ← hq.out]; exact hz.out.drew D
              have e48' : (((Bt l)[q].toNat : Int) == 48) = true := beq_iff_eq.2 (by omega)
              have e48'' : ((Bt l)[q].toNat : Int) = 48 := by omega
              clear hx2 hx3 hdig
              go_wp2_with fail
              go_quiet (fail)
              go_wp2_with fail
              go_quiet (fail)
              go_wp2_with fail
              go_ret
              exact ⟨by rw [e2.out]; rfl, (f2.out _).drew _, gb_drew (hfin2.out _) _⟩
            · have hst : Hid (k + 1 ≤ M) := by
                show _ ≤ _
                rw [← hM.out]
                refine Ps.dc_more (by rw [hM.out]; exact hkM.out) hk6 hx2.out hdig.out ?_
                by_cases h0 : k = 0
                · right
                  intro e
                  exact hz0 ⟨h0, by rw [e]; rfl⟩
                · exact .inl h0
              obtain ⟨X, hX, hX9, hXI⟩ : ∃ X : Nat, Hid (X = (Bt l)[q].toNat - 48) ∧ X ≤ 9 ∧ ((Bt l)[q].toNat : Int) - 48 = (X : Int) := ⟨(Bt l)[q].toNat - 48, (rfl : _ = _), by omega, by omega⟩
              have hnv2 : Hid (10 * n + X = Dg.dv ((l.drop p).take (k + 1))) := by
                show _ = _
                rw [Dg.take_snoc hx2.out, Dg.dv_snoc, ← hnv.out, ← hX.out]; omega
              have hn2 : 10 * n + X ≤ 999999 := by
                rw [hnv2.out]
                have h1 := Dg.dv_lt ((l.drop p).take (k + 1)) (fun b hb => by
                  refine Dg.rl_all (l.drop p) b ?_
                  have h2 : k + 1 ≤ Dg.rl (l.drop p) := Nat.le_trans hst.out (by rw [← hM.out]; exact Ps.dc_rl _)
                  rw [← Nat.min_eq_left h2, ← List.take_take] at hb
                  exact List.mem_of_mem_take hb)
                have h2 : ((l.drop p).take (k + 1)).length ≤ 6 := by simp; omega
                have h3 : 10 ^ ((l.drop p).take (k + 1)).length ≤ 10 ^ 6 := Nat.pow_le_pow_right (by decide) h2
                have h4 : (10 : Nat) ^ 6 = 1000000 := by decide
                omega
              have hq1 : q + 1 ≤ l.length := by rw [← eL.out]; omega
              have hq2 : Hid (q + 1 = p + (k + 1)) := by show _ = _; rw [hq.out]; omega
              have hz1 : Hid (∀ D, Pz ((wr.drewN D).setCell ⟨g, 1, none⟩ (.int .i64 ((q : Int) + 1))) g l (q + 1) sv) := fun D => (hz.out.drew D).set (q + 1)
              have hg1 : Hid (∀ D, w.grownBy ((wr.drewN D).setCell ⟨g, 1, none⟩ (.int .i64 ((q : Int) + 1))) (some g)) := fun D => Lib.Hx.grownBy_set (gb_drew hg.out D) ⟨g, 1, none⟩ rfl _
              have wr1 : IntKind.u8.wrap (X : Int) = (X : Int) := by rw [IntKind.wrap_u8]; omega
              have wr2 : IntKind.i64.wrap (X : Int) = (X : Int) := by rw [IntKind.wrap_i64]; omega
              have wr3 : IntKind.i64.wrap (10 * (n : Int)) = 10 * (n : Int) := by rw [IntKind.wrap_i64]; omega
              have wr4 : IntKind.i64.wrap (10 * (n : Int) + (X : Int)) = ((10 * n + X : Nat) : Int) := by rw [IntKind.wrap_i64]; omega
              have hval : Hid (IntKind.i64.wrap (IntKind.i64.wrap (10 * (n : Int)) + IntKind.i64.wrap (IntKind.u8.wrap (X : Int))) = ((10 * n + X : Nat) : Int)) := by show _ = _; rw [wr1, wr2, wr3, wr4]
              clear wr1 wr2 wr3 wr4
              clear hx2 hX
              by_cases h0 : k = 0
              · subst h0
                have h48 : (((Bt l)[q].toNat : Int) == 48) = false := beq_eq_false_iff_ne.2 (fun e => hz0 ⟨rfl, by omega⟩)
                have h48' : ¬ ((Bt l)[q].toNat : Int) = 48 := fun e => hz0 ⟨rfl, by omega⟩
                go_wp2_with fail
                go_quiet (fail)
                go_wp2_with fail
                go_quiet (fail)
                go_wp2_with fail
                go_quiet (fail)
                go_wp2_with fail
                go_roundw
                case rel => exact ⟨0 + 1, q + 1, 10 * n + X, by omega, hn2, hst, hq1, hq2, hnv2, by rw [hval.out], by go_num, hz1.out _, hg1.out _⟩
                case measure => simp [intOf]
              · have hk0 : ((k : Int) == 0) = false := beq_eq_false_iff_ne.2 (by omega)
                have hk0' : decide ((k : Int) = 0) = false := decide_eq_false (by omega)
                go_wp2_with fail
                go_quiet (fail)
                go_wp2_with fail
                go_region
                all_goals
                  go_wp2_with fail
                  go_quiet (fail)
                  go_wp2_with fail
                  go_roundw
                  case rel => exact ⟨k + 1, q + 1, 10 * n + X, by omega, hn2, hst, hq1, hq2, hnv2, by rw [hval.out], by go_num, hz1.out _, hg1.out _⟩
                  case measure => simp [intOf]; omega
      · have hlq' : decide ((q : Int) < ((Bt l).size : Int)) = false := decide_eq_false (by omega)
        obtain ⟨f1, f2⟩ := fin (.inr fun b h => by rw [List.getElem?_drop, ← hq.out, List.getElem?_eq_none (by rw [← eL.out]; omega)] at h; cases h)
        clear fin
        go_wp2_with fail
        go_region
        all_goals
          go_wp2_with fail
          go_ret
          exact ⟨by rw [f1.out]; rfl, f2.out _, hfin2.out _⟩
    · have hk6' : decide ((k : Int) < 6) = false := decide_eq_false (by omega)
      obtain ⟨f1, f2⟩ := fin (.inl (by omega))
      clear fin
      go_wp2_with fail
      go_region
      all_goals
        go_wp2_with fail
        go_ret
        exact ⟨by rw [f1.out]; rfl, f2.out _, hfin2.out _⟩
end Go.Proofs.YtfoblbpbhldngaaDoor
