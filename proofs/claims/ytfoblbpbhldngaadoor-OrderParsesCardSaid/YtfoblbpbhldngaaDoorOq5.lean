/-
  The program's Parse.
-/
import Derived.Test.YtfoblbpbhldngaaDoorOq4
import Derived.Test.YtfoblbpbhldngaaDoorOe0
namespace Go.Proofs.YtfoblbpbhldngaaDoor
open Flo Go.RowKit Tr
namespace Ps
/-- what Parse tells: the order, the place, the error's number -/
def prs (l : List UInt8) : Option Tr × Nat × Nat :=
  if 65536 < l.length then (none, 0, 3) else
  match rd l with
  | (some t, q) => if q = l.length then (if len t = 0 then (none, 0, 8) else (some t, 0, 0)) else (none, q, 6)
  | (none, q) => (none, q, 6)
theorem prs_long {l : List UInt8} (h : 65536 < l.length) : prs l = (none, 0, 3) := by unfold prs; rw [if_pos h]
theorem prs_text {l : List UInt8} (h : ¬ 65536 < l.length) (hn : ∀ t, rd l ≠ (some t, l.length)) : prs l = (none, (rd l).2, 6) := by
  unfold prs
  rw [if_neg h]
  generalize rd l = R at *
  obtain ⟨o, q⟩ := R
  cases o with
  | none => rfl
  | some t =>
    simp only
    rw [if_neg (fun e => hn t (by rw [e]))]
theorem prs_good {l : List UInt8} (h : ¬ 65536 < l.length) {t : Tr} (hr : rd l = (some t, l.length)) : prs l = if len t = 0 then (none, 0, 8) else (some t, 0, 0) := by
  unfold prs
  rw [if_neg h, hr]
  show (if l.length = l.length then _ else _) = _
  rw [if_pos rfl]
end Ps
/-- what Parse answers -/
def PE (l : List UInt8) (aL aT aO : Addr) (w : World) (e : Ending) (w' : World) : Prop :=
  Below w.heap.size w w' ∧ ∃ v, e = .returned (.tuple #[v, .int .i64 ((Ps.prs l).2.1 : Int), er aL aT aO (Ps.prs l).2.2]) ∧ (∀ t, (Ps.prs l).1 = some t → Os (nw w) w' t v) ∧ ((Ps.prs l).1 = none → v = zor)
theorem nw_mono {w w' : World} (h : w.heap.size ≤ w'.heap.size) : ∀ b, nw w' b → nw w b := fun _ hb => Nat.le_trans h hb
set_option maxRecDepth 100000 in
set_option maxHeartbeats 1000000 in
theorem parse_c (l : List UInt8) (aL aT aO : Addr) (w : World) (hE : Eo w aL aT aO) : Calls Tryd.prog 6 #[.string (Bt l)] w (PE l aL aT aO w) := by
  have hlI : Hid ((Bt l).size = l.length) := Bt_size l
  have hEH : Hid (Eo w aL aT aO) := hE
  obtain ⟨w1, e1⟩ : ∃ w1, Hid (w.alloc (.cells #[.int .i64 0, .int .i64 0, .slice none 0 0] 25) = w1) := ⟨_, (rfl : _ = _)⟩
  have B1 : Hid (Below w.heap.size w w1) := by show Below _ _ _; rw [← e1.out]; exact (Below.refl _ _).alloc (Nat.le_refl _) _
  have X1 : Hid (Bo w1 w.heap.size 0 0 (.slice none 0 0)) := by show Bo _ _ _ _ _; rw [← e1.out]; exact Bo.new _ _ _ _
  have s1 : w1.heap.size = w.heap.size + 1 := by rw [← e1.out]; simp
  obtain ⟨R, hR⟩ : ∃ R, Hid (w.heap.size = R) := ⟨_, (rfl : _ = _)⟩
  clear hE
  have hst : Hid (∀ (W : World) (k n : Int) (s : Value), Below R w W → Below R w (st3 W R k n s)) := fun W k n s h => h.grown (st3_own _ _ _ _ _) (by have := h.size; rw [hR.out] at this; exact this) (fun k hk => by cases hk; exact Nat.le_refl _)
  by_cases h64 : (65536 : Int) < ((Bt l).size : Int)
  · have hp : Hid (Ps.prs l = (none, 0, 3)) := Ps.prs_long (by rw [hlI.out] at h64; omega)
    have h64' : ((Bt l).size : Int) > 65536 := h64
    have c1 : w1.cell? ⟨0, 0, none⟩ = some (ev aL) := (hEH.out.below B1.out).cL
    unfold ev at c1
    have hne : 0 < R := by rw [← hR.out]; exact cell_lt hEH.out.cL
    have hfin : Hid (∀ D, PE l aL aT aO w (.returned (.tuple #[zor, .int .i64 0, ev aL])) (st3 (w1.drewN D) R 0 0 (.slice none 0 0))) := by
      intro D
      refine ⟨by rw [hR.out]; exact hst.out _ _ _ _ (by rw [← hR.out]; exact below_drewN B1.out D), zor, by rw [hp.out]; rfl, (fun t h => by rw [hp.out] at h; cases h), fun _ => rfl⟩
    rw [hR.out] at X1
    have x0 := X1.out.c0
    have x1 := X1.out.c1
    have x2 := X1.out.c2
    have xf := X1.out.fz
    go_enter Tryd.func6, Tryd.ntmps6
    go_upto_region 1 with fail
    rw [e1.out, hR.out]
    go_wp2_with fail
    go_region
    all_goals
      go_wp2_with fail
    all_goals
      refine bodyPost_ret (v := .tuple #[zor, .int .i64 0, ev aL]) (by simp [results, Tryd.results6, go_sem, x0, x1, x2, zor, ev]) rfl ?_
      exact hfin.out 1
  · have h64' : decide (((Bt l).size : Int) > 65536) = false := decide_eq_false h64
    have hll : ¬ 65536 < l.length := by rw [hlI.out] at h64; omega
    have hE1 : Hid (Eo w1 aL aT aO) := hEH.out.below B1.out
    go_enter Tryd.func6, Tryd.ntmps6
    go_upto_region 1 with fail
    rw [e1.out, hR.out]
    go_wp2_with fail
    refine (read_c l aT w1 (by omega) hE1.out.et hE1.out.lt).mono ?_
    rintro e w2 ⟨B2, s2, n2⟩
    have B12 : Hid (Below R w w2) := by show Below _ _ _; rw [← hR.out]; exact btr B1.out B2
    have X2 : Hid (Bo w2 R 0 0 (.slice none 0 0)) := by rw [← hR.out]; exact X1.out.bel B2
    have hs2 : R + 1 ≤ w2.heap.size := by have := B2.size; rw [s1, hR.out] at this; exact this
    have hE2 : Hid (Eo w2 aL aT aO) := hE1.out.below B2
    have b3 : Hid (∀ o, Below w2.heap.size w2 (w2.alloc o)) := fun o => (Below.refl _ _).alloc (Nat.le_refl _) _
    by_cases hg : ∃ t, Ps.rd l = (some t, l.length)
    · obtain ⟨t, hrd⟩ := hg
      have hp := Ps.prs_good hll hrd
      obtain ⟨v, ev', o2⟩ := s2 t hrd
      obtain ⟨va, vc, rfl⟩ := o2.shape
      rw [ev']
      generalize t.ks.length = vl at *
      obtain ⟨tk, htk⟩ : ∃ tk, Hid (t.k = tk) := ⟨_, (rfl : _ = _)⟩
      obtain ⟨tn, htn⟩ : ∃ tn, Hid (t.n = tn) := ⟨_, (rfl : _ = _)⟩
      rw [htk.out, htn.out] at o2 ⊢
      obtain ⟨w3, e3⟩ : ∃ w3, Hid (w2.alloc (.cells #[.int .i64 tk, .int .i64 tn, .slice va vl vc] 25) = w3) := ⟨_, (rfl : _ = _)⟩
      have B3 : Below w2.heap.size w2 w3 := by rw [← e3.out]; exact b3.out _
      have F3 : Hid (Bo w3 w2.heap.size tk tn (.slice va vl vc)) := by show Bo _ _ _ _ _; rw [← e3.out]; exact Bo.new _ _ _ _
      have X3 : Hid (Bo w3 R 0 0 (.slice none 0 0)) := X2.out.bel B3
      have O3 : Hid (Os (nw w1) w3 t (.agg #[.int .i64 tk, .int .i64 tn, .slice va vl vc])) := o2.bel B3
      have hE3 : Hid (Eo w3 aL aT aO) := hE2.out.below B3
      have B13 : Hid (Below R w w3) := B12.out.trans (B3.mono (by omega))
      have hpH : Hid (Ps.prs l = if len t = 0 then (none, 0, 8) else (some t, 0, 0)) := hp
      clear s2 n2 hp o2 ev' B3 hrd
      go_upto_region 4 with fail
      rw [e3.out]
      obtain ⟨gf, hgf⟩ : ∃ gf, Hid (w2.heap.size = gf) := ⟨_, (rfl : _ = _)⟩
      rw [hgf.out] at F3 hs2 ⊢
      have f0 := F3.out.c0
      have f1 := F3.out.c1
      have f2 := F3.out.c2
      go_wp2_with fail
      refine (check_c t _ w3 aO (Os.od _ _ O3.out) hE3.out.cO).mono ?_
      rintro e w4 ⟨rfl, B4⟩
      have X4 : Hid (Bo w4 R 0 0 (.slice none 0 0)) := X3.out.bel B4
      have F4 : Hid (Bo w4 gf tk tn (.slice va vl vc)) := F3.out.bel B4
      have O4 : Hid (Os (nw w1) w4 t (.agg #[.int .i64 tk, .int .i64 tn, .slice va vl vc])) := O3.out.bel B4
      have B14 : Hid (Below R w w4) := B13.out.trans (B4.mono (by have := X3.out.lt; omega))
      clear f0 f1 f2 B4
      have x0 := X4.out.c0
      have x1 := X4.out.c1
      have x2 := X4.out.c2
      have xf := X4.out.fz
      have f0 := F4.out.c0
      have f1 := F4.out.c1
      have f2 := F4.out.c2
      by_cases h0 : len t = 0
      · have hp := hpH.out
        rw [if_pos h0] at hp
        have hfin : Hid (PE l aL aT aO w (.returned (.tuple #[zor, .int .i64 0, ev aO])) (st3 w4 R 0 0 (.slice none 0 0))) :=
          ⟨by rw [hR.out]; exact hst.out _ _ _ _ B14.out, zor, by rw [hp]; rfl, (fun t h => by rw [hp] at h; cases h), fun _ => rfl⟩
        have ec : cke aO t = ev aO := by unfold cke; rw [if_pos h0]
        rw [ec]
        clear hp h0 ec
        unfold ev
        go_wp2_with fail
        refine bodyPost_ret (v := .tuple #[zor, .int .i64 0, ev aO]) (by simp [results, Tryd.results6, go_sem, x0, x1, x2, zor, ev]) rfl ?_
        exact hfin.out
      · have hp := hpH.out
        rw [if_neg h0] at hp
        have hfin : Hid (PE l aL aT aO w (.returned (.tuple #[.agg #[.int .i64 tk, .int .i64 tn, .slice va vl vc], .int .i64 0, .nilIface])) (st3 w4 R tk tn (.slice va vl vc))) := by
          refine ⟨by rw [hR.out]; exact hst.out _ _ _ _ B14.out, _, by rw [hp]; rfl, (fun t' h => ?_), (fun h => by rw [hp] at h; cases h)⟩
          rw [hp] at h
          cases h
          refine Os.keep (fun b hb => ?_) (fun b hb _ => ?_) _ _ O4.out
          · have h1 : w1.heap.size ≤ b := hb
            show w.heap.size ≤ b
            omega
          · have h1 : w1.heap.size ≤ b := hb
            exact st3_blk _ _ _ _ _ (by rw [← hR.out]; omega)
        have ec : cke aO t = .nilIface := by unfold cke; rw [if_neg h0]
        rw [ec]
        clear hp h0 ec
        go_wp2_with fail
        refine bodyPost_ret (v := .tuple #[.agg #[.int .i64 tk, .int .i64 tn, .slice va vl vc], .int .i64 0, .nilIface]) (by simp [results, Tryd.results6, go_sem, x0, x1, x2]) rfl ?_
        exact hfin.out
    · have hp : Hid (Ps.prs l = (none, (Ps.rd l).2, 6)) := Ps.prs_text hll (fun t h => hg ⟨t, h⟩)
      rw [n2 (fun t h => hg ⟨t, h⟩)]
      obtain ⟨q, hq⟩ : ∃ q, Hid ((Ps.rd l).2 = q) := ⟨_, (rfl : _ = _)⟩
      rw [hq.out] at hp
      rw [hq.out]
      clear s2 n2 hg
      obtain ⟨w3, e3⟩ : ∃ w3, Hid (w2.alloc (.cells #[.int .i64 0, .int .i64 0, .slice none 0 0] 25) = w3) := ⟨_, (rfl : _ = _)⟩
      have B3 : Below w2.heap.size w2 w3 := by rw [← e3.out]; exact b3.out _
      have X3 : Hid (Bo w3 R 0 0 (.slice none 0 0)) := X2.out.bel B3
      have B13 : Hid (Below R w w3) := B12.out.trans (B3.mono (by omega))
      have hfin : Hid (PE l aL aT aO w (.returned (.tuple #[zor, .int .i64 (q : Int), ev aT])) (st3 w3 R 0 0 (.slice none 0 0))) :=
        ⟨by rw [hR.out]; exact hst.out _ _ _ _ B13.out, zor, by rw [hp.out]; rfl, (fun t h => by rw [hp.out] at h; cases h), fun _ => rfl⟩
      have x0 := X3.out.c0
      have x1 := X3.out.c1
      have x2 := X3.out.c2
      have xf := X3.out.fz
      clear B3
      unfold zor ev
      go_upto_region 4 with fail
      rw [e3.out]
      go_wp2_with fail
      refine bodyPost_ret (v := .tuple #[zor, .int .i64 (q : Int), ev aT]) (by simp [results, Tryd.results6, go_sem, x0, x1, x2, zor, ev]) rfl ?_
      exact hfin.out
end Go.Proofs.YtfoblbpbhldngaaDoor
