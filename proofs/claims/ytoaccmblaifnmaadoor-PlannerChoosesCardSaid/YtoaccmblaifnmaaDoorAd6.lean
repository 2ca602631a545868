/-
  PlannerCosts: the whole walk.
-/
import Derived.Test.YtoaccmblaifnmaaDoorAc6
import Derived.Test.YtoaccmblaifnmaaDoorAd1
import Derived.Test.YtoaccmblaifnmaaDoorAc8
import Derived.Test.YtoaccmblaifnmaaDoorAd5
import Derived.Test.YtoaccmblaifnmaaDoorDk5
import Derived.Test.YtoaccmblaifnmaaDoorAa7
import Derived.Deep.DeepCutAuto
import Derived.Deep.RegionHeldLaw
import Derived.Deep.RegionHeld3
namespace Go.Proofs.YtoaccmblaifnmaaDoor
open Flo Go.RowKit Tr
theorem e14_of {w : World} {al : List Addr} (h : Errs w al) : E14 w (al.getD 4 ⟨0, 0, none⟩) (al.getD 6 ⟨0, 0, none⟩) (al.getD 2 ⟨0, 0, none⟩) (al.getD 7 ⟨0, 0, none⟩) := by
  obtain ⟨a0, a1, a2, a3, a4, a5, a6, a7, a8, a9, a10, a11, a12, a13, a14, a15, a16, a17, a18, rfl⟩ := h.len
  obtain ⟨_, _, c2, _, c4, _, c6, c7, _⟩ := h.sent
  exact ⟨c4, c6, c2, c7⟩
/-- the number of what Cost refuses -/
def coK (t : Tr) : Nat := if len t = 0 then 8 else if 4611686018427387904 < Pl.tcs t then 3 else 0
theorem coN_k (t : Tr) : coN t = (coK t : Int) := by
  unfold coN coK
  split
  · rfl
  · split <;> rfl
theorem coE_er (aL aT aO : Addr) (t : Tr) : coE aL aO t = er aL aT aO (coK t) := by
  unfold coE coK
  split
  · rfl
  · split <;> rfl
theorem coK_is (t : Tr) : coK t = 0 ∨ coK t = 3 ∨ coK t = 6 ∨ coK t = 8 := by
  unfold coK
  split
  · simp
  · split <;> simp
theorem od_shp {w : World} {t : Tr} {v : Value} (h : Od w t v) : ∃ k n a l c, v = .agg #[.int .i64 k, .int .i64 n, .slice a l c] := by
  obtain ⟨k, n, ks⟩ := t
  obtain ⟨ao, cap, e, _⟩ := h.kds
  exact ⟨_, _, _, _, _, e⟩
end Go.Proofs.YtoaccmblaifnmaaDoor
/-
  The statement PlannerChooses: both Chooses in one form.
-/
namespace Go.Proofs.YtoaccmblaifnmaaDoor
open Flo Go.RowKit Tr
set_option maxRecDepth 100000 in
set_option maxHeartbeats 4000000 in
theorem dusual_c (w : World) : Calls Tryd.prog 28 #[] w fun e w' => ∃ b, e = .returned (.agg #[.int .i64 16, .slice (some ⟨b, 0, none⟩) 4 4, .int .i64 13]) ∧ w.heap.size ≤ b ∧ w'.heap[b]? = some (.cells #[.int .i64 2, .int .i64 3, .int .i64 4, .int .i64 5] 3 (0, 0)) ∧ Below w.heap.size w w' := by
  obtain ⟨wa, ewa⟩ : ∃ wa, Hid (w.alloc (.cells #[.int .i64 0, .slice none 0 0, .int .i64 0] 45) = wa) := ⟨_, (rfl : _ = _)⟩
  obtain ⟨g, hg⟩ : ∃ g, Hid (w.heap.size = g) := ⟨_, (rfl : _ = _)⟩
  have Ba : Hid (Below w.heap.size w wa) := by show Below _ _ _; rw [← ewa.out]; exact (Below.refl _ _).alloc (Nat.le_refl _) _
  have Xa : Hid (Bp wa g 0 (.slice none 0 0) 0) := by show Bp _ _ _ _ _; rw [← ewa.out, ← hg.out]; exact Bp.new _ _ _ _
  go_enter Tryd.func28, Tryd.ntmps28
  go_upto_region 1 with fail
  rw [ewa.out, hg.out]
  have B2 : Hid (Below wa.heap.size wa (wa.alloc (.cells #[.int .i64 2, .int .i64 3, .int .i64 4, .int .i64 5] 3))) := (Below.refl _ _).alloc (Nat.le_refl _) _
  have X2 : Hid (Bp (wa.alloc (.cells #[.int .i64 2, .int .i64 3, .int .i64 4, .int .i64 5] 3)) g 0 (.slice none 0 0) 0) := Xa.out.bel B2.out
  have y0 := X2.out.c0
  have y1 := X2.out.c1
  have y2 := X2.out.c2
  have yf0 := X2.out.fz 0
  have yf1 := X2.out.fz 1
  have yf2 := X2.out.fz 2
  go_wp2_with fail
  obtain ⟨b, hb⟩ : ∃ b, Hid (wa.heap.size = b) := ⟨_, (rfl : _ = _)⟩
  obtain ⟨wc, ewc⟩ : ∃ wc, Hid (wa.alloc (.cells #[.int .i64 2, .int .i64 3, .int .i64 4, .int .i64 5] 3) = wc) := ⟨_, (rfl : _ = _)⟩
  have hbn : Hid (wc.heap[b]? = some (.cells #[.int .i64 2, .int .i64 3, .int .i64 4, .int .i64 5] 3 (0, 0))) := by show _ = _; rw [← ewc.out, ← hb.out]; exact heap_alloc_new _ _
  have hbw : Hid (Below w.heap.size w wc) := by show Below _ _ _; rw [← ewc.out]; exact btr Ba.out B2.out
  have hbg : Hid (g + 1 = b) := by show _ = _; rw [← hb.out, ← ewa.out, ← hg.out]; simp
  rw [hb.out, ewc.out]
  rw [ewc.out] at y0 y1 y2
  obtain ⟨w4, ew4⟩ : ∃ w4, Hid (((wc.setCell ⟨g, 0, none⟩ (.int .i64 16)).setCell ⟨g, 1, none⟩ (.slice (some ⟨b, 0, none⟩) 4 4)).setCell ⟨g, 2, none⟩ (.int .i64 13) = w4) := ⟨_, (rfl : _ = _)⟩
  rw [ew4.out]
  have q0 : w4.cell? ⟨g, 0, none⟩ = some (.int .i64 16) := by
    rw [← ew4.out, World.cell?_setCell_other _ _ _ _ (by simp), World.cell?_setCell_other _ _ _ _ (by simp)]
    exact World.cell?_setCell_same' _ _ _ (by rw [y0]; rfl)
  have q1 : w4.cell? ⟨g, 1, none⟩ = some (.slice (some ⟨b, 0, none⟩) 4 4) := by
    rw [← ew4.out, World.cell?_setCell_other _ _ _ _ (by simp)]
    exact World.cell?_setCell_same' _ _ _ (by rw [World.cell?_setCell_other _ _ _ _ (by simp), y1]; rfl)
  have q2 : w4.cell? ⟨g, 2, none⟩ = some (.int .i64 13) := by
    rw [← ew4.out]
    exact World.cell?_setCell_same' _ _ _ (by rw [World.cell?_setCell_other _ _ _ _ (by simp), World.cell?_setCell_other _ _ _ _ (by simp), y2]; rfl)
  refine bodyPost_ret (v := .agg #[.int .i64 16, .slice (some ⟨b, 0, none⟩) 4 4, .int .i64 13]) (by simp [results, Tryd.results28, go_sem, q0, q1, q2]) rfl ?_
  have hg1 : w.heap.size = g := hg.out
  have hbg1 := hbg.out
  refine ⟨b, rfl, by omega, ?_, ?_⟩
  · rw [← ew4.out, sc_blk _ _ _ (by show b ≠ g; omega), sc_blk _ _ _ (by show b ≠ g; omega), sc_blk _ _ _ (by show b ≠ g; omega)]
    exact hbn.out
  · rw [← ew4.out]
    exact ((hbw.out.setCell (p := ⟨g, 0, none⟩) (by show _ ≤ g; omega) _).setCell (p := ⟨g, 1, none⟩) (by show _ ≤ g; omega) _).setCell (p := ⟨g, 2, none⟩) (by show _ ≤ g; omega) _
/-- the document's answer to what is refused -/
def dcn (D p : Int) (F : List Int) (n : Int) : Int := if n < 1 ∨ 4096 < n then 7 else if gdP D p F = true then 0 else 5
/-- the order that is chosen, or none -/
def cht (D p : Int) (F : List Int) (n : Int) : Tr := if dcn D p F n = 0 then Pl.ch D F p n.toNat else ⟨0, 0, []⟩
def erv (al : List Addr) (r : Int) : Value := if r = 7 then ek al 6 else if r = 0 then .nilIface else ek al 4
theorem dcn_is (D p : Int) (F : List Int) (n : Int) : dcn D p F n = 7 ∨ dcn D p F n = 0 ∨ dcn D p F n = 5 := by
  unfold dcn
  split
  · exact .inl rfl
  · split
    · exact .inr (.inl rfl)
    · exact .inr (.inr rfl)
theorem od_zero (w : World) : Od w ⟨0, 0, []⟩ (.agg #[.int .i64 0, .int .i64 0, .slice none 0 0]) := (Os.leaf (S := fun _ => False) (w := w) (k := 0) (n := 0) (a := none) (c := 0) ⟨by decide, by decide⟩).od
theorem pchoose2_c {D p : Int} {F : List Int} {V : Nat → Prop} (n : Int) (fv : Value) (w : World) (al : List Addr) (hE : Errs w al) (hF : FlR V w fv F) (hln : F.length ≤ 9223372036854775807) (hV : ∀ b, V b → b < w.heap.size → ¬ orow w b) : Calls Tryd.prog 21 #[.int .i64 n, .agg #[.int .i64 D, fv, .int .i64 p]] w fun e w' => ∃ v, e = .returned (.tuple #[v, erv al (dcn D p F n)]) ∧ Od w' (cht D p F n) v ∧ Below w.heap.size w w' := by
  have e14 := e14_of hE
  by_cases h0 : dcn D p F n = 0
  · have hn : ¬ (n < 1 ∨ 4096 < n) := fun h => by
      unfold dcn at h0
      rw [if_pos h] at h0
      exact absurd h0 (by decide)
    have hg : gdP D p F = true := by
      unfold dcn at h0
      rw [if_neg hn] at h0
      cases h : gdP D p F with
      | true => rfl
      | false => rw [h] at h0; exact absurd h0 (by decide)
    obtain ⟨N, rfl⟩ : ∃ N : Nat, n = (N : Int) := ⟨n.toNat, by omega⟩
    refine (choose_c N fv w _ _ hg (by omega) (by omega) hF e14.cN e14.cR hV).mono ?_
    rintro e w' ⟨v, rfl, ho, hb⟩
    refine ⟨v, by rw [h0]; rfl, ?_, hb⟩
    unfold cht
    rw [if_pos h0, Int.toNat_natCast]
    exact ho.od
  · have hrv : ∃ a, rfV D p F (al.getD 6 ⟨0, 0, none⟩) (al.getD 4 ⟨0, 0, none⟩) n = ev a ∧ erv al (dcn D p F n) = ev a := by
      unfold rfV dcn
      by_cases hn : n < 1 ∨ 4096 < n
      · rw [if_pos hn, if_pos hn]
        exact ⟨_, rfl, rfl⟩
      · rw [if_neg hn, if_neg hn]
        cases h : gdP D p F with
        | true =>
          exfalso
          unfold dcn at h0
          rw [if_neg hn, h] at h0
          exact h0 rfl
        | false => exact ⟨_, rfl, rfl⟩
    obtain ⟨a, h1, h2⟩ := hrv
    refine (choose_bad n fv w _ _ a h1 hF e14.cN e14.cR hln).mono ?_
    rintro e w' ⟨rfl, hb⟩
    refine ⟨_, by rw [h2], ?_, hb⟩
    unfold cht
    rw [if_neg h0]
    exact od_zero w'
theorem num_erv (al : List Addr) (r : Int) (hr : r = 7 ∨ r = 0 ∨ r = 5) (w : World) (hE : Errs w al) : Calls Tryd.prog 23 #[erv al r] w fun e w' => e = .returned (.int .i64 r) ∧ Below w.heap.size w w' := by
  rcases hr with rfl | rfl | rfl
  · exact num_err al 6 (by decide) w hE
  · refine (num_nil w).mono ?_
    rintro e w' ⟨rfl, rfl⟩
    exact ⟨rfl, Below.refl _ _⟩
  · exact num_err al 4 (by decide) w hE
end Go.Proofs.YtoaccmblaifnmaaDoor
/-
  The document's planner: Choose.
-/
namespace Go.Proofs.YtoaccmblaifnmaaDoor
open Flo Go.RowKit Tr
theorem dch {D p : Int} {F : List Int} {fv : Value} {B kb : Nat} {V : Nat → Prop} (gpo : Pl.GP D F p) (hF : F.length ≤ 1000) (hV : ∀ b, V b → b < B) : ∀ (k n : Nat), Pl.Dm p n → Pl.mu p n ≤ k → DCH D p F fv B kb V n := by
  intro k
  induction k with
  | zero =>
    intro n hd hk
    have := hd.1
    unfold Pl.mu at hk
    split at hk <;> omega
  | succ k ih => exact fun n hd hk => dch_step gpo hF hV n hd fun m hm hlt => ih m hm (by omega)
/-- nothing is known -/
theorem ks_nil {D p : Int} {F : List Int} (w : World) : KS D p F w.heap.size w.heap.size [] (Tk w.heap.size (.slice none 0 0) (.slice none 0 0) (.slice none 0 0)) (fun _ => False) (w.alloc (.cells #[.slice none 0 0, .slice none 0 0, .slice none 0 0] 79)) :=
  ⟨⟨_, _, _, [], ⟨heap_alloc_new _ _, Nat.le_refl _, World.ownsRow_nil _ _ _ _, World.ownsRow_nil _ _ _ _, World.ownsRow_nil _ _ _ _, rfl, fun s h => (by cases h), fun j t s h1 _ => by simp at h1, fun b h => by simp [Value.ownBlock] at h, fun b h => h.elim⟩, rfl⟩, List.nodup_nil, fun m h => by cases h⟩
set_option maxRecDepth 100000 in
set_option maxHeartbeats 4000000 in
theorem dchoose_c {D p : Int} {F : List Int} {V : Nat → Prop} (n : Int) (fv : Value) (w : World) (hF : FlR V w fv F) (hln : F.length ≤ 9223372036854775807) : Calls Tryd.prog 22 #[.int .i64 n, .agg #[.int .i64 D, fv, .int .i64 p]] w fun e w' => ∃ v, e = .returned (.tuple #[v, .int .i64 (dcn D p F n)]) ∧ (dcn D p F n = 0 → Od w' (Pl.ch D F p n.toNat) v) ∧ (dcn D p F n ≠ 0 → v = .agg #[.int .i64 0, .int .i64 0, .slice none 0 0]) ∧ Below w.heap.size w w' := by
  obtain ⟨wa, ewa⟩ : ∃ wa, Hid (w.alloc (.cells #[.int .i64 D, fv, .int .i64 p] 45) = wa) := ⟨_, (rfl : _ = _)⟩
  obtain ⟨wb, ewb⟩ : ∃ wb, Hid (wa.alloc (.cells #[.int .i64 0, .int .i64 0, .slice none 0 0] 24) = wb) := ⟨_, (rfl : _ = _)⟩
  obtain ⟨g, hg⟩ : ∃ g, Hid (w.heap.size = g) := ⟨_, (rfl : _ = _)⟩
  have Ba : Below w.heap.size w wa := by rw [← ewa.out]; exact (Below.refl _ _).alloc (Nat.le_refl _) _
  have Bab : Below wa.heap.size wa wb := by rw [← ewb.out]; exact (Below.refl _ _).alloc (Nat.le_refl _) _
  have Bb : Hid (Below w.heap.size w wb) := btr Ba Bab
  have sa : wa.heap.size = g + 1 := by rw [← ewa.out, ← hg.out]; simp
  have sbH : Hid (wb.heap.size = g + 2) := by show _ = _; rw [← ewb.out]; simp [sa]
  have Xb : Hid (Bp wb g D fv p) := by
    have h : Bp wa g D fv p := by rw [← ewa.out, ← hg.out]; exact Bp.new _ _ _ _
    exact h.bel Bab
  have Yb : Hid (Bo wb (g + 1) 0 0 (.slice none 0 0)) := by
    have h := Bo.new wa 0 0 (.slice none 0 0)
    rw [ewb.out, sa] at h; exact h
  have hFb : Hid (FlR (fun b => b < g) wb fv F) := by
    have h := hF.kt (T := fun _ => False) (KT.of_below Bb.out) (fun _ (h : False) => h.elim)
    obtain ⟨ao, cap, e, hc⟩ := hF
    obtain ⟨ao2, cap2, e2, hc2⟩ := h
    refine ⟨ao2, cap2, e2, fun i hi => ?_⟩
    obtain ⟨b, off, q1, q2, q3, q4⟩ := hc2 i hi
    obtain ⟨b', off', r1, r2, r3, r4⟩ := hc i hi
    rw [e] at e2
    simp only [Value.slice.injEq] at e2
    rw [r1, q1] at e2
    simp only [Option.some.injEq, Addr.mk.injEq] at e2
    exact ⟨b, off, q1, by rw [← e2.1.1, ← hg.out]; exact r3, q3, q4⟩
  obtain ⟨RN, hRN⟩ : ∃ z, Hid (dcn D p F n = z) := ⟨_, (rfl : _ = _)⟩
  rw [hRN.out]
  have hlnH : Hid (F.length ≤ 9223372036854775807) := hln
  have x0 := Xb.out.c0
  have x1 := Xb.out.c1
  have x2 := Xb.out.c2
  clear hF Ba Bab sa hln
  have fin0 : Hid (∀ w1 : World, Below w.heap.size w w1 → Bo w1 (g + 1) 0 0 (.slice none 0 0) → Below w.heap.size w (st3 w1 (g + 1) 0 0 (.slice none 0 0)) ∧ Bo (st3 w1 (g + 1) 0 0 (.slice none 0 0)) (g + 1) 0 0 (.slice none 0 0)) := fun w1 hb ho => ⟨hb.grown (st3_own _ _ _ _ _) hb.size (fun k hk => by cases hk; rw [hg.out]; omega), st3_bo ho _ _ _⟩
  go_enter Tryd.func22, Tryd.ntmps22
  go_upto_region 1 with fail
  rw [ewa.out, ewb.out, hg.out]
  by_cases hn : n < 1 ∨ 4096 < n
  · have hv : Hid ((7 : Int) = RN) := by show _ = _; rw [← hRN.out]; unfold dcn; rw [if_pos hn]
    have y0 := Yb.out.c0
    have y1 := Yb.out.c1
    have y2 := Yb.out.c2
    have yf0 := Yb.out.fz 0
    have yf1 := Yb.out.fz 1
    have yf2 := Yb.out.fz 2
    have ff := fin0.out wb Bb.out Yb.out
    obtain ⟨w4, ew4⟩ : ∃ w4, Hid (((wb.setCell ⟨g + 1, 0, none⟩ (.int .i64 0)).setCell ⟨g + 1, 1, none⟩ (.int .i64 0)).setCell ⟨g + 1, 2, none⟩ (.slice none 0 0) = w4) := ⟨_, (rfl : _ = _)⟩
    have e4 : st3 wb (g + 1) 0 0 (.slice none 0 0) = w4 := ew4.out
    rw [e4] at ff
    have ffH : Hid (Below w.heap.size w w4 ∧ Bo w4 (g + 1) 0 0 (.slice none 0 0)) := ff
    have q0 := ff.2.c0
    have q1 := ff.2.c1
    have q2 := ff.2.c2
    clear ff e4
    by_cases h1 : n < 1
    · clear hn
      go_wp2_with fail
      rw [ew4.out]
      refine bodyPost_ret (v := .tuple #[.agg #[.int .i64 0, .int .i64 0, .slice none 0 0], .int .i64 7]) (by simp [results, Tryd.results22, go_sem, q0, q1, q2]) rfl ?_
      exact ⟨_, by rw [hv.out], (fun h => by rw [← hv.out] at h; exact absurd h (by decide)), (fun _ => rfl), ffH.out.1⟩
    · have h1' : decide (n < 1) = false := decide_eq_false h1
      have h2 : 4096 < n := by
        rcases hn with h | h
        · exact absurd h h1
        · exact h
      clear hn
      go_wp2_with fail
      rw [ew4.out]
      refine bodyPost_ret (v := .tuple #[.agg #[.int .i64 0, .int .i64 0, .slice none 0 0], .int .i64 7]) (by simp [results, Tryd.results22, go_sem, q0, q1, q2]) rfl ?_
      exact ⟨_, by rw [hv.out], (fun h => by rw [← hv.out] at h; exact absurd h (by decide)), (fun _ => rfl), ffH.out.1⟩
  · have h1 : ¬ n < 1 := fun h => hn (.inl h)
    have h2 : ¬ 4096 < n := fun h => hn (.inr h)
    have h1' : decide (n < 1) = false := decide_eq_false h1
    have h2' : decide (4096 < n) = false := decide_eq_false h2
    have hRN2 : Hid ((if gdP D p F = true then (0 : Int) else 5) = RN) := by
      show _ = _
      rw [← hRN.out]
      unfold dcn
      rw [if_neg hn]
    clear hn hRN
    go_wp2_with fail
    refine (dcheckP_c fv wb hFb.out hlnH.out).mono ?_
    rintro e w1 ⟨rfl, B1⟩
    rw [hRN2.out]
    have B1H : Hid (Below w.heap.size w w1) := btr Bb.out B1
    have X1 : Hid (Bp w1 g D fv p) := Xb.out.bel B1
    have Y1 : Hid (Bo w1 (g + 1) 0 0 (.slice none 0 0)) := Yb.out.bel B1
    have hF1 : Hid (FlR (fun b => b < g) w1 fv F) := hFb.out.kt (T := fun _ => False) (KT.of_below B1) (fun _ (h : False) => h.elim)
    clear B1 x0 x1 x2 Xb Yb hFb
    cases hgd : gdP D p F with
    | false =>
      rw [hgd] at hRN2
      have hv : Hid ((5 : Int) = RN) := hRN2
      have e5 : RN = 5 := hv.out.symm
      clear hRN2 hgd
      rw [e5]
      clear e5
      have y0 := Y1.out.c0
      have y1 := Y1.out.c1
      have y2 := Y1.out.c2
      have yf0 := Y1.out.fz 0
      have yf1 := Y1.out.fz 1
      have yf2 := Y1.out.fz 2
      have ff := fin0.out w1 B1H.out Y1.out
      obtain ⟨w4, ew4⟩ : ∃ w4, Hid (((w1.setCell ⟨g + 1, 0, none⟩ (.int .i64 0)).setCell ⟨g + 1, 1, none⟩ (.int .i64 0)).setCell ⟨g + 1, 2, none⟩ (.slice none 0 0) = w4) := ⟨_, (rfl : _ = _)⟩
      have e4 : st3 w1 (g + 1) 0 0 (.slice none 0 0) = w4 := ew4.out
      rw [e4] at ff
      have ffH : Hid (Below w.heap.size w w4 ∧ Bo w4 (g + 1) 0 0 (.slice none 0 0)) := ff
      have q0 := ff.2.c0
      have q1 := ff.2.c1
      have q2 := ff.2.c2
      clear ff e4
      go_wp2_with fail
      rw [ew4.out]
      refine bodyPost_ret (v := .tuple #[.agg #[.int .i64 0, .int .i64 0, .slice none 0 0], .int .i64 5]) (by simp [results, Tryd.results22, go_sem, q0, q1, q2]) rfl ?_
      exact ⟨_, by rw [hv.out], (fun h => by rw [← hv.out] at h; exact absurd h (by decide)), (fun _ => rfl), ffH.out.1⟩
    | true =>
      rw [hgd] at hRN2
      have hv : Hid ((0 : Int) = RN) := hRN2
      have e5 : RN = 0 := hv.out.symm
      rw [e5]
      clear hRN2 e5
      have gpo := gdP_gp hgd
      have hFl : F.length ≤ 1000 := by
        have h := hgd
        simp only [gdP, Bool.and_eq_true] at h
        have := rsF_len 0 F h.2 (by omega)
        rw [if_pos (by decide)] at this; omega
      obtain ⟨N, rfl⟩ : ∃ N : Nat, n = (N : Int) := ⟨n.toNat, by omega⟩
      have hdm : Pl.Dm p N := ⟨by omega, by omega, fun _ => by omega⟩
      obtain ⟨kb, hkb⟩ : ∃ z, Hid (w1.heap.size = z) := ⟨_, (rfl : _ = _)⟩
      have hgk : Hid (g + 2 ≤ kb) := by show _ ≤ _; have := Y1.out.lt; have := hkb.out; omega
      obtain ⟨wk, ewk⟩ : ∃ z, Hid (w1.alloc (.cells #[.slice none 0 0, .slice none 0 0, .slice none 0 0] 79) = z) := ⟨_, (rfl : _ = _)⟩
      have Bk : Below w1.heap.size w1 wk := by rw [← ewk.out]; exact (Below.refl _ _).alloc (Nat.le_refl _) _
      have hKS := ks_nil (D := D) (p := p) (F := F) w1
      rw [ewk.out, hkb.out] at hKS
      have hcall := dch (D := D) (p := p) (F := F) (fv := fv) (B := kb) (kb := kb) (V := fun b => b < g) gpo hFl (fun b hb => by have := hgk.out; omega) (Pl.mu p N) N hdm (Nat.le_refl _) [] _ _ wk hKS (hF1.out.kt (T := fun _ => False) (KT.of_below Bk) (fun _ (h : False) => h.elim))
      have hcH : Hid (Calls Tryd.prog 48 #[.pointer (some ⟨kb, 0, none⟩), .int .i64 (N : Int), .agg #[.int .i64 D, fv, .int .i64 p]] wk fun e w2 => ∃ v U', e = .returned (.tuple #[v, .int .i64 (tc D F p N : Int)]) ∧ Os U' w2 (Pl.ch D F p N) v ∧ (∀ b, U' b → kb ≤ b) ∧ Below w1.heap.size w1 w2) := by
        refine hcall.mono ?_
        rintro e w2 ⟨v, H', T', U', rfl, k2, o2, m2, _⟩
        refine ⟨v, U', rfl, o2, fun b hb => (k2.ult hb).1, ?_⟩
        have hbk : ∀ b, b < w1.heap.size → w2.heap[b]? = w1.heap[b]? := fun b hb => (m2.kt.block b (Nat.lt_of_lt_of_le hb Bk.size) (fun t => by
          have hb2 : b = kb := by
            rcases t with t | t | t | t
            · exact t
            · cases t
            · cases t
            · cases t
          have := hkb.out
          omega)).trans (Bk.block b hb)
        exact ⟨m2.kt.os.trans Bk.os, m2.kt.tape.trans Bk.tape, m2.kt.output.trans Bk.output, Nat.le_trans Bk.size m2.kt.size, hbk⟩
      obtain ⟨t, ht⟩ : ∃ z, Hid (Pl.ch D F p N = z) := ⟨_, (rfl : _ = _)⟩
      have x0 := (X1.out.bel Bk).c0
      have x1 := (X1.out.bel Bk).c1
      have x2 := (X1.out.bel Bk).c2
      have X2 : Hid (∀ w2, Below w1.heap.size w1 w2 → Bo w2 (g + 1) 0 0 (.slice none 0 0)) := fun w2 hb => Y1.out.bel hb
      clear hcall hKS Bk gpo hFl hdm hgd
      obtain ⟨tk, htk⟩ : ∃ z, Hid (t.k = z) := ⟨_, (rfl : _ = _)⟩
      obtain ⟨tn, htn⟩ : ∃ z, Hid (t.n = z) := ⟨_, (rfl : _ = _)⟩
      obtain ⟨tl, htl⟩ : ∃ z, Hid (t.ks.length = z) := ⟨_, (rfl : _ = _)⟩
      have hcH2 : Hid (Calls Tryd.prog 48 #[.pointer (some ⟨kb, 0, none⟩), .int .i64 (N : Int), .agg #[.int .i64 D, fv, .int .i64 p]] wk fun e w2 => ∃ a c U' y, e = .returned (.tuple #[.agg #[.int .i64 tk, .int .i64 tn, .slice a tl c], .int .i64 (y : Int)]) ∧ Os U' w2 t (.agg #[.int .i64 tk, .int .i64 tn, .slice a tl c]) ∧ (∀ b, U' b → kb ≤ b) ∧ Below w1.heap.size w1 w2) := by
        refine hcH.out.mono ?_
        rintro e w2 ⟨v, U', rfl, o2, hu, hb⟩
        rw [ht.out] at o2
        obtain ⟨a, c, rfl⟩ := o2.shape
        rw [htk.out, htn.out, htl.out] at o2 ⊢
        exact ⟨a, c, U', _, rfl, o2, hu, hb⟩
      clear hcH
      rw [← ewk.out] at x0 x1 x2
      go_upto_region 6 with fail
      go_wp2_with fail
      rw [ewk.out, hkb.out]
      refine hcH2.out.mono ?_
      rintro e w2 ⟨a, c, U', y, rfl, o2, hu, hb2⟩
      have Y2 : Hid (Bo w2 (g + 1) 0 0 (.slice none 0 0)) := X2.out w2 hb2
      have hB2 : Hid (Below w.heap.size w w2) := btr B1H.out hb2
      have oH : Hid (Os U' w2 t (.agg #[.int .i64 tk, .int .i64 tn, .slice a tl c])) := o2
      have huH : Hid (∀ b, U' b → kb ≤ b) := hu
      clear o2 hu hb2 X2 hcH2 x0 x1 x2 Y1 B1H hF1 X1
      obtain ⟨w3, ew3⟩ : ∃ z, Hid (w2.alloc (.cells #[.int .i64 tk, .int .i64 tn, .slice a tl c] 24) = z) := ⟨_, (rfl : _ = _)⟩
      have B23 : Below w2.heap.size w2 w3 := by rw [← ew3.out]; exact (Below.refl _ _).alloc (Nat.le_refl _) _
      have Q3 : Hid (Bo w3 w2.heap.size tk tn (.slice a tl c)) := by show Bo _ _ _ _ _; rw [← ew3.out]; exact Bo.new _ _ _ _
      have Y3 : Hid (Bo w3 (g + 1) 0 0 (.slice none 0 0)) := Y2.out.bel B23
      have hB3 : Hid (Below w.heap.size w w3) := btr hB2.out B23
      have o3 : Hid (Os U' w3 t (.agg #[.int .i64 tk, .int .i64 tn, .slice a tl c])) := oH.out.bel B23
      obtain ⟨gq, hgq⟩ : ∃ z, Hid (w2.heap.size = z) := ⟨_, (rfl : _ = _)⟩
      rw [hgq.out] at Q3
      clear B23 Y2 hB2 oH
      go_upto_region 7 with fail
      rw [ew3.out, hgq.out]
      have q0 := Q3.out.c0
      have q1 := Q3.out.c1
      have q2 := Q3.out.c2
      have y0 := Y3.out.c0
      have y1 := Y3.out.c1
      have y2 := Y3.out.c2
      have yf0 := Y3.out.fz 0
      have yf1 := Y3.out.fz 1
      have yf2 := Y3.out.fz 2
      have hbr9 := st3_bo Y3.out tk tn (.slice a tl c)
      have hkt : Hid (KT (fun x => x = g + 1) w3 (st3 w3 (g + 1) tk tn (.slice a tl c))) := st3_kt _ _ _ _ _
      have hBe : Hid (Below w.heap.size w (st3 w3 (g + 1) tk tn (.slice a tl c))) := hB3.out.grown (st3_own _ _ _ _ _) hB3.out.size (fun k hk => by cases hk; rw [hg.out]; omega)
      obtain ⟨w4, ew4⟩ : ∃ w4, Hid (((w3.setCell ⟨g + 1, 0, none⟩ (.int .i64 tk)).setCell ⟨g + 1, 1, none⟩ (.int .i64 tn)).setCell ⟨g + 1, 2, none⟩ (.slice a tl c) = w4) := ⟨_, (rfl : _ = _)⟩
      have e4 : st3 w3 (g + 1) tk tn (.slice a tl c) = w4 := ew4.out
      rw [e4] at hbr9 hkt hBe
      have r0 := hbr9.c0
      have r1 := hbr9.c1
      have r2 := hbr9.c2
      clear hbr9 e4
      go_wp2_with fail
      rw [ew4.out]
      refine bodyPost_ret (v := .tuple #[.agg #[.int .i64 tk, .int .i64 tn, .slice a tl c], .int .i64 0]) (by simp [results, Tryd.results22, go_sem, r0, r1, r2]) rfl ?_
      refine ⟨_, by rw [hv.out], fun _ => ?_, (fun h => absurd hv.out.symm h), hBe.out⟩
      rw [Int.toNat_natCast, ht.out]
      exact (Os.keep (fun _ hx => hx) (fun x hx hl => hkt.out.block x hl (fun e => by have := huH.out x hx; have := hgk.out; omega)) t _ o3.out).od
theorem dchoose2_c {D p : Int} {F : List Int} {V : Nat → Prop} (n : Int) (fv : Value) (w : World) (hF : FlR V w fv F) (hln : F.length ≤ 9223372036854775807) : Calls Tryd.prog 22 #[.int .i64 n, .agg #[.int .i64 D, fv, .int .i64 p]] w fun e w' => ∃ v, e = .returned (.tuple #[v, .int .i64 (dcn D p F n)]) ∧ Od w' (cht D p F n) v ∧ Below w.heap.size w w' := by
  refine (dchoose_c n fv w hF hln).mono ?_
  rintro e w' ⟨v, rfl, h1, h2, hb⟩
  refine ⟨v, rfl, ?_, hb⟩
  unfold cht
  split
  · rename_i h; exact h1 h
  · rename_i h; rw [h2 h]; exact od_zero w'
end Go.Proofs.YtoaccmblaifnmaaDoor
/-
  The statement PlannerChooses: the walk.
-/
namespace Go.Proofs.YtoaccmblaifnmaaDoor
open Flo Go.RowKit Tr
def sp3 (w : World) (b : Nat) (D : Int) (f : Value) (p : Int) : World := ((w.setCell ⟨b, 0, none⟩ (.int .i64 D)).setCell ⟨b, 1, none⟩ f).setCell ⟨b, 2, none⟩ (.int .i64 p)
theorem sp3_kt (w : World) (b : Nat) (D : Int) (f : Value) (p : Int) : KT (fun x => x = b) w (sp3 w b D f p) := KT.sc (KT.sc (KT.sc (KT.refl (fun x => x = b) w) _ rfl) _ rfl) _ rfl
theorem sp3_bp {w : World} {b : Nat} {D0 p0 : Int} {f0 : Value} (h : Bp w b D0 f0 p0) (D : Int) (f : Value) (p : Int) : Bp (sp3 w b D f p) b D f p := by
  have h3 := hsc (i := 2) (hsc (i := 1) (hsc (i := 0) h.b (.int .i64 D)) f) (.int .i64 p)
  exact ⟨h3⟩
theorem FlR.kt2 {V : Nat → Prop} {W W' : World} {fv : Value} {F : List Int} {T : Nat → Prop} (a : FlR V W fv F) (k : KT T W W') (hT : ∀ b, T b → ¬ V b) : FlR V W' fv F := a.kt k hT
set_option maxHeartbeats 16000000 in
set_option maxRecDepth 100000 in
theorem plannerChooses.walk (n : Int) (D p : Int) (F : List Int) (fv : Value) (V : Nat → Prop) (al : List Addr) (w : World) (hEr : Errs w al) (hF : FlR V w fv F) (hb : F.length * 8 ≤ 140737488355328) :
    Calls Tryd.prog 4 #[.int .i64 n, .agg #[.int .i64 D, fv, .int .i64 p]] w fun e w' => e = .returned (.bool true) ∧ Below w.heap.size w w' := by
  obtain ⟨wa, ewa⟩ : ∃ wa, Hid (w.alloc (.cells #[.int .i64 D, fv, .int .i64 p] 45) = wa) := ⟨_, (rfl : _ = _)⟩
  have Ba : Hid (Below w.heap.size w wa) := by show Below _ _ _; rw [← ewa.out]; exact (Below.refl _ _).alloc (Nat.le_refl _) _
  obtain ⟨g, hg⟩ : ∃ g, Hid (w.heap.size = g) := ⟨_, (rfl : _ = _)⟩
  have Xa : Hid (Bp wa g D fv p) := by show Bp _ _ _ _ _; rw [← ewa.out, ← hg.out]; exact Bp.new _ _ _ _
  have hEa : Hid (Errs wa al) := hEr.below Ba.out
  have hFa : Hid (FlR V wa fv F) := hF.kt (T := fun _ => False) (KT.of_below Ba.out) (fun _ (h : False) => h.elim)
  obtain ⟨fa, fc, efv⟩ : ∃ a c, fv = .slice a F.length c := by obtain ⟨a, c, e, _⟩ := hF; exact ⟨a, c, e⟩
  obtain ⟨L, hL⟩ : ∃ L, Hid (F.length = L) := ⟨_, (rfl : _ = _)⟩
  have hbH : Hid (F.length * 8 ≤ 140737488355328) := hb
  have hlnH : Hid (F.length ≤ 9223372036854775807) := by show _ ≤ _; omega
  rw [hL.out] at efv
  subst efv
  have hfx := fixed14_c wa _ _ _ _ (e14_of hEa.out)
  clear hEr hF hb
  have x0 := Xa.out.c0
  have x1 := Xa.out.c1
  have x2 := Xa.out.c2
  go_enter Tryd.func4, Tryd.ntmps4
  go_upto_region 1 with fail
  rw [ewa.out, hg.out]
  go_wp2_with fail
  refine hfx.mono ?_
  rintro e w1 ⟨rfl, B1⟩
  have hB1 : Hid (Below w.heap.size w w1) := btr Ba.out B1
  have X1 : Hid (Bp w1 g D (.slice fa L fc) p) := Xa.out.bel B1
  have hE1 : Hid (Errs w1 al) := hEa.out.below B1
  have hF1 : Hid (FlR V w1 (.slice fa L fc) F) := hFa.out.kt (T := fun _ => False) (KT.of_below B1) (fun _ (h : False) => h.elim)
  clear B1 hfx x0 x1 x2 Xa hEa hFa Ba
  obtain ⟨R3, hR3⟩ : ∃ R : Value → World → Prop, Hid ((fun s5 wx => ∃ gp r c, s5 = .pointer (some ⟨gp, 0, none⟩) ∧ Hid (Below w1.heap.size w1 wx) ∧ Hid (Bp wx gp D (.slice (some ⟨r, 0, none⟩) L c) p) ∧ Hid (FlR (fun b => b = r) wx (.slice (some ⟨r, 0, none⟩) L c) F) ∧ Hid (∃ cs fr, wx.heap[r]? = some (.cells cs 3 fr))) = R) := ⟨_, (rfl : _ = _)⟩
  have x0 := X1.out.c0
  have x1 := X1.out.c1
  have x2 := X1.out.c2
  go_upto_region 3 with fail
  go_cut [5] (fun s5 wx => R3 s5 wx)
  case first =>
    have hFZ : Hid (∀ Z, Below w1.heap.size w1 Z → FlR V Z (.slice fa L fc) F) := fun Z hZ => hF1.out.kt (T := fun _ => False) (KT.of_below hZ) (fun _ (h : False) => h.elim)
    have hgl := X1.out.lt
    have hbel1 : Hid (Below w1.heap.size w1 (w1.alloc (.cells #[] 3)).drew) := ((Below.refl _ _).alloc (Nat.le_refl _) _).drew
    have hbel2 : Hid (Below w1.heap.size w1 ((w1.alloc (.cells #[] 3)).alloc (.cells #[.int .i64 0, .slice none 0 0, .int .i64 0] 45)).drew) := (((Below.refl _ _).alloc (Nat.le_refl _) _).alloc (by simp <;> omega) _).drew
    have hbel3 : Hid (Below w1.heap.size w1 ((w1.alloc (.cells #[.int .i64 0, .slice none 0 0, .int .i64 0] 45)).alloc (.cells #[] 3)).drew) := (((Below.refl _ _).alloc (Nat.le_refl _) _).alloc (by simp <;> omega) _).drew
    have hXk : Hid (∀ (Z w7 : World) (g0 : Nat), Below w1.heap.size w1 Z → w1.heap.size ≤ g0 → Z.grownBy w7 (some g0) → Bp w7 g D (.slice fa L fc) p ∧ Below w1.heap.size w1 w7) := fun Z w7 g0 hZ h0 hk => by
      have hb := hZ.grown hk hZ.size (fun k e => by cases e; exact h0)
      exact ⟨X1.out.bel hb, hb⟩
    have finA : Hid (∀ (w7 : World) (r c : Nat), Below w1.heap.size w1 w7 → FlR (fun b => b = r) w7 (.slice (some ⟨r, 0, none⟩) L c) F → (∃ cs fr, w7.heap[r]? = some (.cells cs 3 fr)) → R3 (.pointer (some ⟨w7.heap.size, 0, none⟩)) (w7.alloc (.cells #[.int .i64 D, .slice (some ⟨r, 0, none⟩) L c, .int .i64 p] 45))) := fun w7 r c hb hf hr => by
      have B7 : Below w7.heap.size w7 (w7.alloc (.cells #[.int .i64 D, .slice (some ⟨r, 0, none⟩) L c, .int .i64 p] 45)) := (Below.refl _ _).alloc (Nat.le_refl _) _
      rw [← hR3.out]
      refine ⟨_, r, c, rfl, btr hb B7, Bp.new _ _ _ _, hf.kt (T := fun _ => False) (KT.of_below B7) (fun _ (h : False) => h.elim), ?_⟩
      obtain ⟨cs, fr, hr⟩ := hr
      exact ⟨cs, fr, (B7.block r (Array.getElem?_eq_some_iff.1 hr).1).trans hr⟩
    have finB : Hid (∀ (w7 : World) (gp r c : Nat), w1.heap.size ≤ gp → Below w1.heap.size w1 w7 → Bp w7 gp 0 (.slice none 0 0) 0 → r ≠ gp → FlR (fun b => b = r) w7 (.slice (some ⟨r, 0, none⟩) L c) F → (∃ cs fr, w7.heap[r]? = some (.cells cs 3 fr)) → R3 (.pointer (some ⟨gp, 0, none⟩)) (sp3 w7 gp D (.slice (some ⟨r, 0, none⟩) L c) p)) := fun w7 gp r c hgp hb hp hne hf hr => by
      have k := sp3_kt w7 gp D (.slice (some ⟨r, 0, none⟩) L c) p
      rw [← hR3.out]
      refine ⟨gp, r, c, rfl, ?_, sp3_bp hp _ _ _, hf.kt k (fun b e q => by rw [e] at q; exact hne q.symm), ?_⟩
      · exact ⟨k.os.trans hb.os, k.tape.trans hb.tape, k.output.trans hb.output, Nat.le_trans hb.size k.size, fun b hl => (k.block b (Nat.lt_of_lt_of_le hl hb.size) (by omega)).trans (hb.block b hl)⟩
      · obtain ⟨cs, fr, hr⟩ := hr
        exact ⟨cs, fr, (k.block r (Array.getElem?_eq_some_iff.1 hr).1 hne).trans hr⟩
    go_region_held_law (fun Z => Z.cell? ⟨g, 0, none⟩ = some (.int .i64 D) ∧ Z.cell? ⟨g, 1, none⟩ = some (.slice fa L fc) ∧ Z.cell? ⟨g, 2, none⟩ = some (.int .i64 p)) (go_keep) ((first
      | (refine step_fl rfl (.tmp 14) (.tmp 16) rfl w1.heap.size (by simp [Act.eval]) (heap_alloc_new w1 _) (.slice fa L fc) (by simp [Act.eval]) (hFZ.out _ hbel1.out) hbH.out ?_
         intro r c w7 k1 k2 k3 k4
         rw [hL.out] at k1 ⊢
         obtain ⟨hX7, hb7⟩ := hXk.out _ _ _ hbel1.out (Nat.le_refl _) k3
         have hfin := finA.out w7 r c hb7 k1 k2
         have y0 := hX7.c0
         have y1 := hX7.c1
         have y2 := hX7.c2
         have hg7 : ¬ w7.heap.size = g := by have := hX7.lt; omega
         clear hX7 hb7 k1 k2 k3 k4)
      | (refine step_fl rfl (.tmp 14) (.tmp 16) rfl w1.heap.size (by simp [Act.eval]) (two_new w1 _ _).1 (.slice fa L fc) (by simp [Act.eval]) (hFZ.out _ hbel2.out) hbH.out ?_
         intro r c w7 k1 k2 k3 k4
         rw [hL.out] at k1 ⊢
         obtain ⟨hX7, hb7⟩ := hXk.out _ _ _ hbel2.out (Nat.le_refl _) k3
         have hp7 : Bp w7 (w1.heap.size + 1) 0 (.slice none 0 0) 0 := ⟨(k3.block (w1.heap.size + 1) (by simp [World.drew]) (by simp)).trans (two_new w1 _ _).2⟩
         have hne : r ≠ w1.heap.size + 1 := fun e => by
           rcases k4 with q | q
           · omega
           · simp [World.drew] at q; omega
         have hfin := finB.out w7 (w1.heap.size + 1) r c (by omega) hb7 hp7 hne k1 k2
         have y0 := hX7.c0
         have y1 := hX7.c1
         have y2 := hX7.c2
         have p0 := hp7.c0
         have p1 := hp7.c1
         have p2 := hp7.c2
         have pf0 := hp7.fz 0
         have pf1 := hp7.fz 1
         have pf2 := hp7.fz 2
         have hg7 : ¬ w1.heap.size + 1 = g := by omega
         have hg8 : ¬ g = w1.heap.size + 1 := by omega
         clear hX7 hb7 k1 k2 k3 k4 hp7 hne)
      | (refine step_fl rfl (.tmp 14) (.tmp 16) rfl (w1.heap.size + 1) (by simp [Act.eval]) (two_new w1 _ _).2 (.slice fa L fc) (by simp [Act.eval]) (hFZ.out _ hbel3.out) hbH.out ?_
         intro r c w7 k1 k2 k3 k4
         rw [hL.out] at k1 ⊢
         obtain ⟨hX7, hb7⟩ := hXk.out _ _ _ hbel3.out (by omega) k3
         have hp7 : Bp w7 w1.heap.size 0 (.slice none 0 0) 0 := ⟨(k3.block w1.heap.size (by simp [World.drew] <;> omega) (by simp)).trans (two_new w1 _ _).1⟩
         have hne : r ≠ w1.heap.size := fun e => by
           rcases k4 with q | q
           · omega
           · simp [World.drew] at q; omega
         have hfin := finB.out w7 w1.heap.size r c (by omega) hb7 hp7 hne k1 k2
         have y0 := hX7.c0
         have y1 := hX7.c1
         have y2 := hX7.c2
         have p0 := hp7.c0
         have p1 := hp7.c1
         have p2 := hp7.c2
         have pf0 := hp7.fz 0
         have pf1 := hp7.fz 1
         have pf2 := hp7.fz 2
         have hg7 : ¬ w1.heap.size = g := by omega
         have hg8 : ¬ g = w1.heap.size := by omega
         clear hX7 hb7 k1 k2 k3 k4 hp7 hne)
      | fail))
    all_goals (go_wp2_with fail; go_meet; exact hfin)
  case rest =>
  rw [← hR3.out] at hcut
  obtain ⟨gp, r, c, rfl, Bw2, Xi2, Fi2, hr2⟩ := hcut
  rename World => w2
  have Xp2 : Hid (Bp w2 g D (.slice fa L fc) p) := X1.out.bel Bw2.out
  have hE2 : Hid (Errs w2 al) := hE1.out.below Bw2.out
  have hFp2 : Hid (FlR V w2 (.slice fa L fc) F) := hF1.out.kt (T := fun _ => False) (KT.of_below Bw2.out) (fun _ (h : False) => h.elim)
  have hB2 : Hid (Below w.heap.size w w2) := btr hB1.out Bw2.out
  have hVr : Hid (∀ b, b = r → b < w2.heap.size → ¬ orow w2 b) := fun b e _ => by
    subst e
    obtain ⟨cs, fr, h⟩ := hr2.out
    exact int_norow h
  obtain ⟨RN, hRN⟩ : ∃ z, Hid (dcn D p F n = z) := ⟨_, (rfl : _ = _)⟩
  have hRNi : Hid (RN = 7 ∨ RN = 0 ∨ RN = 5) := by show _; rw [← hRN.out]; exact dcn_is D p F n
  obtain ⟨t, ht⟩ : ∃ z, Hid (cht D p F n = z) := ⟨_, (rfl : _ = _)⟩
  have hc1 := pchoose2_c (D := D) (p := p) (F := F) n (.slice (some ⟨r, 0, none⟩) L c) w2 al hE2.out Fi2.out hlnH.out hVr.out
  rw [hRN.out, ht.out] at hc1
  obtain ⟨EV, hEV⟩ : ∃ z, Hid (erv al RN = z) := ⟨_, (rfl : _ = _)⟩
  rw [hEV.out] at hc1
  have hc2 : Hid (∀ W, Below w2.heap.size w2 W → Calls Tryd.prog 22 #[.int .i64 n, .agg #[.int .i64 D, .slice fa L fc, .int .i64 p]] W fun e w' => ∃ v, e = .returned (.tuple #[v, .int .i64 RN]) ∧ Od w' t v ∧ Below W.heap.size W w') := fun W hW => by
    have := dchoose2_c (D := D) (p := p) (F := F) n (.slice fa L fc) W (hFp2.out.kt (T := fun _ => False) (KT.of_below hW) (fun _ (h : False) => h.elim)) hlnH.out
    rw [hRN.out, ht.out] at this
    exact this
  have hc3 : Hid (∀ W, Errs W al → Calls Tryd.prog 23 #[EV] W fun e w' => e = .returned (.int .i64 RN) ∧ Below W.heap.size W w') := fun W hE => by rw [← hEV.out]; exact num_erv al RN hRNi.out W hE
  have hXX : Hid (∀ W, Below w2.heap.size w2 W → Bp W g D (.slice fa L fc) p ∧ Bp W gp D (.slice (some ⟨r, 0, none⟩) L c) p) := fun W hW => ⟨Xp2.out.bel hW, Xi2.out.bel hW⟩
  have hEW : Hid (∀ W, Below w2.heap.size w2 W → Errs W al) := fun W hW => hE2.out.below hW
  have hsp : Hid (∀ W, Below w2.heap.size w2 W → Calls Tryd.prog 24 #[.agg #[.int .i64 D, .slice (some ⟨r, 0, none⟩) L c, .int .i64 p], .agg #[.int .i64 D, .slice fa L fc, .int .i64 p]] W fun e w' => e = .returned (.bool true) ∧ Below W.heap.size W w') := fun W hW => spol_c _ _ W (Fi2.out.kt (T := fun _ => False) (KT.of_below hW) (fun _ (h : False) => h.elim)) (hFp2.out.kt (T := fun _ => False) (KT.of_below hW) (fun _ (h : False) => h.elim)) hlnH.out
  have hc1H : Hid (Calls Tryd.prog 21 #[.int .i64 n, .agg #[.int .i64 D, .slice (some ⟨r, 0, none⟩) L c, .int .i64 p]] w2 fun e w' => ∃ v, e = .returned (.tuple #[v, EV]) ∧ Od w' t v ∧ Below w2.heap.size w2 w') := hc1
  clear hc1 Bw2 hR3 X1 hE1 hF1 hB1
  obtain ⟨⟨x0, x1, x2⟩, y0, y1, y2⟩ : (w2.cell? ⟨g, 0, none⟩ = some (.int .i64 D) ∧ w2.cell? ⟨g, 1, none⟩ = some (.slice fa L fc) ∧ w2.cell? ⟨g, 2, none⟩ = some (.int .i64 p)) ∧ w2.cell? ⟨gp, 0, none⟩ = some (.int .i64 D) ∧ w2.cell? ⟨gp, 1, none⟩ = some (.slice (some ⟨r, 0, none⟩) L c) ∧ w2.cell? ⟨gp, 2, none⟩ = some (.int .i64 p) := ⟨⟨Xp2.out.c0, Xp2.out.c1, Xp2.out.c2⟩, Xi2.out.c0, Xi2.out.c1, Xi2.out.c2⟩
  go_wp2_with fail
  refine hc1H.out.mono ?_
  rintro e w3 ⟨v, rfl, o3', B3'⟩
  obtain ⟨k3, n3, a3, l3, c3, rfl⟩ := od_shp o3'
  obtain ⟨q3, hq3⟩ : ∃ z, Hid (w3.heap.size = z) := ⟨_, (rfl : _ = _)⟩
  obtain ⟨w4, ew4⟩ : ∃ z, Hid (w3.alloc (.cells #[.int .i64 k3, .int .i64 n3, .slice a3 l3 c3] 24) = z) := ⟨_, (rfl : _ = _)⟩
  have B34 : Below w3.heap.size w3 w4 := by rw [← ew4.out]; exact (Below.refl _ _).alloc (Nat.le_refl _) _
  have B4 : Hid (Below w2.heap.size w2 w4) := btr B3' B34
  have Q4 : Hid (Bo w4 q3 k3 n3 (.slice a3 l3 c3)) := by
    have h : Bo w4 w3.heap.size k3 n3 (.slice a3 l3 c3) := by rw [← ew4.out]; exact Bo.new _ _ _ _
    rw [hq3.out] at h; exact h
  have o4 : Hid (Od w4 t (.agg #[.int .i64 k3, .int .i64 n3, .slice a3 l3 c3])) := Od.below B34 _ _ o3'
  clear o3' B3' B34 x0 x1 x2 y0 y1 y2 hc1H
  go_upto_region 5 with fail
  rw [ew4.out, hq3.out]
  have x0 := (hXX.out w4 B4.out).1.c0
  have x1 := (hXX.out w4 B4.out).1.c1
  have x2 := (hXX.out w4 B4.out).1.c2
  go_wp2_with fail
  refine (hc2.out w4 B4.out).mono ?_
  rintro e w5 ⟨v, rfl, o5', B5'⟩
  obtain ⟨k5, n5, a5, l5, c5, rfl⟩ := od_shp o5'
  obtain ⟨q5, hq5⟩ : ∃ z, Hid (w5.heap.size = z) := ⟨_, (rfl : _ = _)⟩
  obtain ⟨w6, ew6⟩ : ∃ z, Hid (w5.alloc (.cells #[.int .i64 k5, .int .i64 n5, .slice a5 l5 c5] 24) = z) := ⟨_, (rfl : _ = _)⟩
  have B56 : Below w5.heap.size w5 w6 := by rw [← ew6.out]; exact (Below.refl _ _).alloc (Nat.le_refl _) _
  have B46 : Below w4.heap.size w4 w6 := btr B5' B56
  have B6 : Hid (Below w2.heap.size w2 w6) := btr B4.out B46
  have Q6 : Hid (Bo w6 q5 k5 n5 (.slice a5 l5 c5)) := by
    have h : Bo w6 w5.heap.size k5 n5 (.slice a5 l5 c5) := by rw [← ew6.out]; exact Bo.new _ _ _ _
    rw [hq5.out] at h; exact h
  have o6 : Hid (Od w6 t (.agg #[.int .i64 k5, .int .i64 n5, .slice a5 l5 c5])) := Od.below B56 _ _ o5'
  have P6 : Hid (Bo w6 q3 k3 n3 (.slice a3 l3 c3)) := Q4.out.bel B46
  have o6b : Hid (Od w6 t (.agg #[.int .i64 k3, .int .i64 n3, .slice a3 l3 c3])) := Od.below B46 _ _ o4.out
  clear o5' B5' B56 B46 x0 x1 x2 Q4 o4 hc2
  go_upto_region 6 with fail
  rw [ew6.out, hq5.out]
  go_wp2_with fail
  refine (hc3.out w6 (hEW.out w6 B6.out)).mono ?_
  rintro e w7 ⟨rfl, B67⟩
  have B7 : Hid (Below w2.heap.size w2 w7) := btr B6.out B67
  have z0 := (P6.out.bel B67).c0
  have z1 := (P6.out.bel B67).c1
  have z2 := (P6.out.bel B67).c2
  have y0 := (Q6.out.bel B67).c0
  have y1 := (Q6.out.bel B67).c1
  have y2 := (Q6.out.bel B67).c2
  have hsm := rSame_c t t _ _ w7 (Od.below B67 _ _ o6b.out) (Od.below B67 _ _ o6.out)
  have hne : (RN != RN) = false := by simp
  clear B67 P6 Q6 o6 o6b
  go_wp2_with fail
  refine hsm.mono ?_
  rintro e w8 ⟨bb, rfl, hbb, B78⟩
  obtain rfl : bb = true := hbb.2 rfl
  have B8 : Hid (Below w2.heap.size w2 w8) := btr B7.out B78
  clear B78 z0 z1 z2 y0 y1 y2 hsm hbb
  have x0 := (hXX.out w8 B8.out).1.c0
  have x1 := (hXX.out w8 B8.out).1.c1
  have x2 := (hXX.out w8 B8.out).1.c2
  have y0 := (hXX.out w8 B8.out).2.c0
  have y1 := (hXX.out w8 B8.out).2.c1
  have y2 := (hXX.out w8 B8.out).2.c2
  go_wp2_with fail
  refine (hsp.out w8 B8.out).mono ?_
  rintro e w9 ⟨rfl, B89⟩
  have B9 : Hid (Below w2.heap.size w2 w9) := btr B8.out B89
  clear B89 x0 x1 x2 y0 y1 y2
  have x0 := (hXX.out w9 B9.out).1.c0
  have x1 := (hXX.out w9 B9.out).1.c1
  have x2 := (hXX.out w9 B9.out).1.c2
  have y0 := (hXX.out w9 B9.out).2.c0
  have y1 := (hXX.out w9 B9.out).2.c1
  have y2 := (hXX.out w9 B9.out).2.c2
  obtain ⟨EV2, hEV2⟩ : ∃ z, Hid ((if gdP D p F = true then Value.nilIface else ek al 4) = z) := ⟨_, (rfl : _ = _)⟩
  obtain ⟨RN2, hRN2⟩ : ∃ z : Int, Hid ((if gdP D p F = true then (0 : Int) else 5) = z) := ⟨_, (rfl : _ = _)⟩
  have tr : ∀ W w', Below w9.heap.size w9 W → Below W.heap.size W w' → Below w9.heap.size w9 w' := fun W w' h k => btr h k
  have kA : Hid (∀ Z, Below w9.heap.size w9 Z → Calls Tryd.prog 25 #[.agg #[.int .i64 D, .slice (some ⟨r, 0, none⟩) L c, .int .i64 p]] Z fun e w' => e = .returned EV2 ∧ Below w9.heap.size w9 w') := fun Z hZ => by
    have hZ2 := btr B9.out hZ
    refine (pcheck_c (D := D) (p := p) _ Z _ (Fi2.out.kt (T := fun _ => False) (KT.of_below hZ2) (fun _ (h : False) => h.elim)) (e14_of (hEW.out Z hZ2)).cR hlnH.out).mono ?_
    rintro e w' ⟨rfl, hb⟩
    exact ⟨by rw [← hEV2.out]; rfl, tr _ _ hZ hb⟩
  have kB : Hid (∀ Z, Below w9.heap.size w9 Z → Calls Tryd.prog 23 #[EV2] Z fun e w' => e = .returned (.int .i64 RN2) ∧ Below w9.heap.size w9 w') := fun Z hZ => by
    have hE := hEW.out Z (btr B9.out hZ)
    have key : Calls Tryd.prog 23 #[if gdP D p F = true then Value.nilIface else ek al 4] Z fun e w' => e = .returned (.int .i64 (if gdP D p F = true then (0 : Int) else 5)) ∧ Below Z.heap.size Z w' := by
      cases gdP D p F with
      | true => exact num_erv al 0 (.inr (.inl rfl)) Z hE
      | false => exact num_erv al 5 (.inr (.inr rfl)) Z hE
    rw [hEV2.out, hRN2.out] at key
    refine key.mono ?_
    rintro e w' ⟨rfl, hb⟩
    exact ⟨rfl, tr _ _ hZ hb⟩
  have kC : Hid (∀ Z, Below w9.heap.size w9 Z → Calls Tryd.prog 26 #[.agg #[.int .i64 D, .slice fa L fc, .int .i64 p]] Z fun e w' => e = .returned (.int .i64 RN2) ∧ Below w9.heap.size w9 w') := fun Z hZ => by
    refine (dcheckP_c (D := D) (p := p) _ Z (hFp2.out.kt (T := fun _ => False) (KT.of_below (btr B9.out hZ)) (fun _ (h : False) => h.elim)) hlnH.out).mono ?_
    rintro e w' ⟨rfl, hb⟩
    exact ⟨by rw [hRN2.out], tr _ _ hZ hb⟩
  have kD : Hid (∀ Z, Below w9.heap.size w9 Z → Calls Tryd.prog 27 #[] Z fun e w' => ∃ b, e = .returned (.agg #[.int .i64 16, .slice (some ⟨b, 0, none⟩) 4 4, .int .i64 13]) ∧ FlR (fun x => x = b) w' (.slice (some ⟨b, 0, none⟩) 4 4) [2, 3, 4, 5] ∧ Below w9.heap.size w9 w') := fun Z hZ => by
    refine (usual_c Z).mono ?_
    rintro e w' ⟨b, rfl, _, h1, hb⟩
    exact ⟨b, rfl, usual_fl h1, tr _ _ hZ hb⟩
  have kE : Hid (∀ Z b1, Below w9.heap.size w9 Z → FlR (fun x => x = b1) Z (.slice (some ⟨b1, 0, none⟩) 4 4) [2, 3, 4, 5] → Calls Tryd.prog 28 #[] Z fun e w' => ∃ b, e = .returned (.agg #[.int .i64 16, .slice (some ⟨b, 0, none⟩) 4 4, .int .i64 13]) ∧ FlR (fun x => x = b) w' (.slice (some ⟨b, 0, none⟩) 4 4) [2, 3, 4, 5] ∧ FlR (fun x => x = b1) w' (.slice (some ⟨b1, 0, none⟩) 4 4) [2, 3, 4, 5] ∧ Below w9.heap.size w9 w') := fun Z b1 hZ hf => by
    refine (dusual_c Z).mono ?_
    rintro e w' ⟨b, rfl, _, h1, hb⟩
    exact ⟨b, rfl, usual_fl h1, hf.kt (T := fun _ => False) (KT.of_below hb) (fun _ (h : False) => h.elim), tr _ _ hZ hb⟩
  have kF : Hid (∀ Z b1 b2, Below w9.heap.size w9 Z → FlR (fun x => x = b1) Z (.slice (some ⟨b1, 0, none⟩) 4 4) [2, 3, 4, 5] → FlR (fun x => x = b2) Z (.slice (some ⟨b2, 0, none⟩) 4 4) [2, 3, 4, 5] → Calls Tryd.prog 24 #[(.agg #[.int .i64 16, .slice (some ⟨b1, 0, none⟩) 4 4, .int .i64 13]), (.agg #[.int .i64 16, .slice (some ⟨b2, 0, none⟩) 4 4, .int .i64 13])] Z fun e w' => e = .returned (.bool true) ∧ Below w9.heap.size w9 w') := fun Z b1 b2 hZ h1 h2 => by
    refine (spol_c (D := 16) (p := 13) (F := [2, 3, 4, 5]) _ _ Z h1 h2 (by decide)).mono ?_
    rintro e w' ⟨rfl, hb⟩
    exact ⟨rfl, tr _ _ hZ hb⟩
  clear tr
  go_upto_region 8 with fail
  go_region_held_law (fun Z => Z.cell? ⟨g, 0, none⟩ = some (.int .i64 D) ∧ Z.cell? ⟨g, 1, none⟩ = some (.slice fa L fc) ∧ Z.cell? ⟨g, 2, none⟩ = some (.int .i64 p) ∧ Z.cell? ⟨gp, 0, none⟩ = some (.int .i64 D) ∧ Z.cell? ⟨gp, 1, none⟩ = some (.slice (some ⟨r, 0, none⟩) L c) ∧ Z.cell? ⟨gp, 2, none⟩ = some (.int .i64 p)) (go_keep) ((first
      | (go_at_call 25; refine (kA.out _ ?_).mono ?_; (first | exact (Below.refl _ _).drew | assumption); rintro e w10 ⟨rfl, B10⟩; obtain ⟨X1', X2'⟩ := hXX.out _ (btr B9.out B10); have x0 := X1'.c0; have x1 := X1'.c1; have x2 := X1'.c2; have y0 := X2'.c0; have y1 := X2'.c1; have y2 := X2'.c2; clear X1' X2')
      | (go_at_call 23; refine (kB.out _ ?_).mono ?_; (first | exact (Below.refl _ _).drew | assumption); rintro e w11 ⟨rfl, B11⟩; obtain ⟨X1', X2'⟩ := hXX.out _ (btr B9.out B11); have x0 := X1'.c0; have x1 := X1'.c1; have x2 := X1'.c2; have y0 := X2'.c0; have y1 := X2'.c1; have y2 := X2'.c2; clear X1' X2')
      | (go_at_call 26; refine (kC.out _ ?_).mono ?_; (first | exact (Below.refl _ _).drew | assumption); rintro e w12 ⟨rfl, B12⟩; obtain ⟨X1', X2'⟩ := hXX.out _ (btr B9.out B12); have x0 := X1'.c0; have x1 := X1'.c1; have x2 := X1'.c2; have y0 := X2'.c0; have y1 := X2'.c1; have y2 := X2'.c2; clear X1' X2')
      | (go_at_call 27; refine (kD.out _ ?_).mono ?_; (first | exact (Below.refl _ _).drew | assumption); rintro e w13 ⟨b1, rfl, u1, B13⟩; obtain ⟨X1', X2'⟩ := hXX.out _ (btr B9.out B13); have x0 := X1'.c0; have x1 := X1'.c1; have x2 := X1'.c2; have y0 := X2'.c0; have y1 := X2'.c1; have y2 := X2'.c2; clear X1' X2')
      | (go_at_call 28; refine (kE.out _ _ ?_ u1).mono ?_; (first | exact (Below.refl _ _).drew | assumption); rintro e w14 ⟨b2, rfl, u2, u3, B14⟩; obtain ⟨X1', X2'⟩ := hXX.out _ (btr B9.out B14); have x0 := X1'.c0; have x1 := X1'.c1; have x2 := X1'.c2; have y0 := X2'.c0; have y1 := X2'.c1; have y2 := X2'.c2; clear X1' X2')
      | (go_at_call 24; refine (kF.out _ _ _ ?_ u3 u2).mono ?_; (first | exact (Below.refl _ _).drew | assumption); rintro e w15 ⟨rfl, B15⟩; obtain ⟨X1', X2'⟩ := hXX.out _ (btr B9.out B15); have x0 := X1'.c0; have x1 := X1'.c1; have x2 := X1'.c2; have y0 := X2'.c0; have y1 := X2'.c1; have y2 := X2'.c2; clear X1' X2')
      | fail))
  all_goals
    have hB : Hid (Below w.heap.size w w15) := btr hB2.out (btr B9.out B15)
    go_wp2_with fail
    go_ret
    exact ⟨by first | rfl | simp, by first | exact hB.out | exact hB.out.drew⟩
end Go.Proofs.YtoaccmblaifnmaaDoor
