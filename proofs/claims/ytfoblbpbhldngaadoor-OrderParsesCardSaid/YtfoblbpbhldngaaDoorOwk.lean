/-
  The statements' lives.
-/
import Derived.Test.YtfoblbpbhldngaaDoorOy4
import Derived.Test.YtfoblbpbhldngaaDoorOx3
import Derived.Test.YtfoblbpbhldngaaDoorOq5
import Derived.Test.YtfoblbpbhldngaaDoorOp7
import Derived.Test.YtfoblbpbhldngaaDoorOze9
import Derived.Test.YtfoblbpbhldngaaDoorOd4
namespace Go.Proofs.YtfoblbpbhldngaaDoor
open Flo Go.RowKit Tr
open Lib (decDigits)
/-- (f4 x d7) -/
def lvA : Tr := ⟨3, 0, [⟨2, 4, []⟩, ⟨1, 7, []⟩]⟩
/-- b11((f4 x (f4 x f2))) -/
def lvB : Tr := ⟨4, 11, [⟨3, 0, [⟨2, 4, []⟩, ⟨3, 0, [⟨2, 4, []⟩, ⟨2, 2, []⟩]⟩]⟩]⟩
def lvT : List UInt8 := [98, 49, 49, 40, 40, 102, 52, 32, 120, 32, 40, 102, 52, 32, 120, 32, 102, 50, 41, 41, 41]
theorem dd4 : decDigits 4 = [52] := by decide +kernel
theorem dd7 : decDigits 7 = [55] := by decide +kernel
theorem dd2 : decDigits 2 = [50] := by decide +kernel
theorem dd11 : decDigits 11 = [49, 49] := by decide +kernel
theorem lnA : len lvA = 28 := by
  simp [len, lvA, pt, dp, ln, lnc, tms]
theorem txA : tx lvA = [40, 102, 52, 32, 120, 32, 100, 55, 41] := by
  simp [lvA, tx, txc, dd4, dd7]
theorem lnB : len lvB = 11 := by
  simp [len, lvB, pt, dp, ln, lnc, tms, blu]
theorem txB : tx lvB = lvT := by
  simp [lvB, tx, txc, dd4, dd2, dd11, lvT]
theorem prsB : Ps.prs lvT = (some lvB, 0, 0) := by
  have h : Ps.rd lvT = (some lvB, lvT.length) := by
    rw [← txB]
    exact Ps.rd_tx (Ps.fm_good _ (by have := lnB; unfold len at this; split at this <;> omega))
  rw [Ps.prs_good (by decide) h, lnB]; rfl
set_option maxHeartbeats 2000000 in
set_option maxRecDepth 100000 in
theorem lives_c (w : World) (aL aT aO : Addr) (hE : Eo w aL aT aO) : Calls Tryd.prog 5 #[] w fun e w' => e = .returned (.bool true) ∧ Below w.heap.size w w' := by
  have hEH : Hid (Eo w aL aT aO) := hE
  clear hE
  go_enter Tryd.func5, Tryd.ntmps5
  go_wp2_with fail
  refine (fly_c 4 w).mono ?_
  rintro e w1 ⟨rfl, B1⟩
  have hB1 : Hid (Below w.heap.size w w1) := B1
  clear B1
  go_wp2_with fail
  refine (direct_c 7 w1).mono ?_
  rintro e w2 ⟨rfl, B2⟩
  have hB2 : Hid (Below w.heap.size w w2) := btr hB1.out B2
  clear B2
  go_wp2_with fail
  refine (times_c ⟨2, 4, []⟩ ⟨1, 7, []⟩ _ _ w2 (Os.od (S := fun _ => True) _ _ (Os.leaf ⟨by decide, by decide⟩)) (Os.od (S := fun _ => True) _ _ (Os.leaf ⟨by decide, by decide⟩)) (by rw [pt_nil]; decide) (by rw [pt_nil]; decide)).mono ?_
  rintro e w3 ⟨u, rfl, ou, B3⟩
  have hB3 : Hid (Below w.heap.size w w3) := btr hB2.out B3
  have ouH : Hid (Od w3 lvA u) := Os.od _ _ ou
  clear B3 ou
  go_wp2_with fail
  refine (text_c lvA u w3 aL aT aO ouH.out (hEH.out.below hB3.out)).mono ?_
  rintro e w4 ⟨rfl, B4⟩
  have hB4 : Hid (Below w.heap.size w w4) := btr hB3.out B4
  have e1 : txr lvA = ⟨#[40, 102, 52, 32, 120, 32, 100, 55, 41]⟩ := by unfold txr; rw [lnA, if_neg (by decide), txA]; rfl
  have e2 : cke aO lvA = .nilIface := by unfold cke; rw [lnA, if_neg (by decide)]
  rw [e1, e2]
  clear B4 e1 e2
  have hc : Hid (Calls Tryd.prog 6 #[.string ⟨#[98, 49, 49, 40, 40, 102, 52, 32, 120, 32, 40, 102, 52, 32, 120, 32, 102, 50, 41, 41, 41]⟩] w4 (PE lvT aL aT aO w4)) := parse_c lvT aL aT aO w4 (hEH.out.below hB4.out)
  go_wp2_with fail
  refine hc.out.mono ?_
  rintro e w5 ⟨B5, v, rfl, o5, _⟩
  rw [prsB] at o5 ⊢
  have o5' := o5 lvB rfl
  obtain ⟨va, vc, rfl⟩ := o5'.shape
  have hB5 : Hid (Below w.heap.size w w5) := btr hB4.out B5
  have e3 : er aL aT aO 0 = .nilIface := rfl
  show _
  rw [e3]
  obtain ⟨w6, e6⟩ : ∃ w6, Hid (w5.alloc (.cells #[.int .i64 lvB.k, .int .i64 lvB.n, .slice va lvB.ks.length vc] 25) = w6) := ⟨_, (rfl : _ = _)⟩
  have B6 : Below w5.heap.size w5 w6 := by rw [← e6.out]; exact (Below.refl _ _).alloc (Nat.le_refl _) _
  have hB6 : Hid (Below w.heap.size w w6) := btr hB5.out B6
  have F6 : Hid (Bo w6 w5.heap.size lvB.k lvB.n (.slice va lvB.ks.length vc)) := by show Bo _ _ _ _ _; rw [← e6.out]; exact Bo.new _ _ _ _
  have O6 : Hid (Od w6 lvB (.agg #[.int .i64 lvB.k, .int .i64 lvB.n, .slice va lvB.ks.length vc])) := Os.od _ _ (o5'.bel B6)
  generalize lvB.ks.length = bl at *
  generalize lvB.k = bk at *
  generalize lvB.n = bn at *
  clear B5 o5 o5' B6 hc e3
  go_upto_region 3 with fail
  rw [e6.out]
  have f0 := F6.out.c0
  have f1 := F6.out.c1
  have f2 := F6.out.c2
  go_wp2_with fail
  refine (length_c lvB _ w6 O6.out).mono ?_
  rintro e w7 ⟨rfl, B7⟩
  have hB7 : Hid (Below w.heap.size w w7) := btr hB6.out B7
  rw [lnB]
  clear f0 f1 f2 B7
  go_wp2_with fail
  go_ret
  exact ⟨rfl, hB7.out⟩
end Go.Proofs.YtfoblbpbhldngaaDoor
/-
  OrderParses: the whole walk.
-/
namespace Go.Proofs.YtfoblbpbhldngaaDoor
open Flo Go.RowKit Tr
/-- the tree that Parse answers; the empty order where there is none -/
def prt (l : List UInt8) : Tr := (Ps.prs l).1.getD ⟨0, 0, []⟩
theorem zor_od (w : World) : Od w ⟨0, 0, []⟩ zor := Os.od _ _ (Os.leaf (S := fun _ => True) (a := none) (c := 0) ⟨by decide, by decide⟩)
theorem pe_tree {l : List UInt8} {w' : World} {v : Value} (h1 : ∀ t, (Ps.prs l).1 = some t → Od w' t v) (h2 : (Ps.prs l).1 = none → v = zor) : Od w' (prt l) v := by
  unfold prt
  cases h : (Ps.prs l).1 with
  | none => rw [h2 h]; exact zor_od w'
  | some t => exact h1 t h
theorem od_shape {w : World} {t : Tr} {v : Value} (h : Od w t v) : ∃ k n a l c, v = .agg #[.int .i64 k, .int .i64 n, .slice a l c] := by
  obtain ⟨k, n, ks⟩ := t
  obtain ⟨ao, cap, e, _⟩ := h.kds
  exact ⟨_, _, _, _, _, e⟩
set_option maxHeartbeats 2000000 in
set_option maxRecDepth 100000 in
theorem orderParses.walk (l : List UInt8) (al : List Addr) (w : World) (hEr : Errs w al) (hE : Eo w (al.getD 2 ⟨0, 0, none⟩) (al.getD 5 ⟨0, 0, none⟩) (al.getD 7 ⟨0, 0, none⟩)) :
    Calls Tryd.prog 3 #[.string (Bt l)] w fun e w' => e = .returned (.bool true) ∧ Below w.heap.size w w' := by
  have h0 : Hid (Errs w al) := hEr
  have hnum : Hid (∀ W, Errs W al → Calls Tryd.prog 9 #[er (al.getD 2 ⟨0, 0, none⟩) (al.getD 5 ⟨0, 0, none⟩) (al.getD 7 ⟨0, 0, none⟩) (Ps.prs l).2.2] W fun e w' => e = .returned (.int .i64 ((Ps.prs l).2.2 : Int)) ∧ Below W.heap.size W w') := fun W hW => numEr_c al _ (Ps.prs_num l) W hW
  have hpar : Hid (∀ W, Eo W (al.getD 2 ⟨0, 0, none⟩) (al.getD 5 ⟨0, 0, none⟩) (al.getD 7 ⟨0, 0, none⟩) → Calls Tryd.prog 6 #[.string (Bt l)] W (PE l (al.getD 2 ⟨0, 0, none⟩) (al.getD 5 ⟨0, 0, none⟩) (al.getD 7 ⟨0, 0, none⟩) W)) := fun W hW => parse_c l _ _ _ W hW
  have hliv : Hid (Calls Tryd.prog 5 #[] w fun e w' => e = .returned (.bool true) ∧ Below w.heap.size w w') := lives_c w _ _ _ hE
  have hEH : Hid (Eo w (al.getD 2 ⟨0, 0, none⟩) (al.getD 5 ⟨0, 0, none⟩) (al.getD 7 ⟨0, 0, none⟩)) := hE
  clear hEr hE
  generalize al.getD 2 ⟨0, 0, none⟩ = aL at *
  generalize al.getD 5 ⟨0, 0, none⟩ = aT at *
  generalize al.getD 7 ⟨0, 0, none⟩ = aO at *
  go_enter Tryd.func3, Tryd.ntmps3
  go_wp2_with fail
  refine hliv.out.mono ?_
  rintro e w1 ⟨rfl, B1⟩
  have hB1 : Hid (Below w.heap.size w w1) := B1
  have hE1 : Hid (Eo w1 aL aT aO) := hEH.out.below B1
  have h1 : Hid (Errs w1 al) := h0.out.below B1
  clear B1 hliv hEH h0
  go_wp2_with fail
  refine (hpar.out w1 hE1.out).mono ?_
  rintro e w2 ⟨B2, v, rfl, s2, n2⟩
  have T2 := pe_tree (fun t h => Os.od _ _ (s2 t h)) n2
  obtain ⟨k2, m2, a2, l2, c2, rfl⟩ := od_shape T2
  have hT2 : Hid (Od w2 (prt l) (.agg #[.int .i64 k2, .int .i64 m2, .slice a2 l2 c2])) := T2
  have hB2 : Hid (Below w.heap.size w w2) := hB1.out.trans (B2.mono hB1.out.size)
  have h2 : Hid (Errs w2 al) := h1.out.below B2
  obtain ⟨E, hE⟩ : ∃ E, Hid (er aL aT aO (Ps.prs l).2.2 = E) := ⟨_, (rfl : _ = _)⟩
  rw [hE.out] at hnum
  rw [hE.out]
  obtain ⟨P, hP⟩ : ∃ P : Nat, Hid ((Ps.prs l).2.1 = P) := ⟨_, (rfl : _ = _)⟩
  obtain ⟨N, hN⟩ : ∃ N : Nat, Hid ((Ps.prs l).2.2 = N) := ⟨_, (rfl : _ = _)⟩
  rw [hP.out]
  rw [hN.out] at hnum
  clear B2 s2 n2 T2 hE1 h1 hB1 hpar
  obtain ⟨w3, e3⟩ : ∃ w3, Hid (w2.alloc (.cells #[.int .i64 k2, .int .i64 m2, .slice a2 l2 c2] 25) = w3) := ⟨_, (rfl : _ = _)⟩
  have B3 : Below w2.heap.size w2 w3 := by rw [← e3.out]; exact (Below.refl _ _).alloc (Nat.le_refl _) _
  have O3 : Hid (Bo w3 w2.heap.size k2 m2 (.slice a2 l2 c2)) := by show Bo _ _ _ _ _; rw [← e3.out]; exact Bo.new _ _ _ _
  have hT3 : Hid (Od w3 (prt l) (.agg #[.int .i64 k2, .int .i64 m2, .slice a2 l2 c2])) := hT2.out.below B3 _ _
  have hB3 : Hid (Below w.heap.size w w3) := hB2.out.trans (B3.mono hB2.out.size)
  have h3 : Hid (Errs w3 al) := h2.out.below B3
  obtain ⟨A, hA⟩ : ∃ A, Hid (w2.heap.size = A) := ⟨_, (rfl : _ = _)⟩
  rw [hA.out] at O3
  clear B3 hT2 hB2 h2
  go_upto_region 5 with fail
  rw [e3.out, hA.out]
  go_wp2_with fail
  refine (rparse_c l w3).mono ?_
  rintro e w4 ⟨B4, v, rfl, s4, n4⟩
  have T4 := pe_tree s4 n4
  obtain ⟨k4, m4, a4, l4, c4, rfl⟩ := od_shape T4
  rw [hP.out, hN.out]
  have O4 : Hid (Bo w4 A k2 m2 (.slice a2 l2 c2)) := O3.out.bel B4
  have hT4 : Hid (Od w4 (prt l) (.agg #[.int .i64 k4, .int .i64 m4, .slice a4 l4 c4])) := T4
  have hT3 : Hid (Od w4 (prt l) (.agg #[.int .i64 k2, .int .i64 m2, .slice a2 l2 c2])) := hT3.out.below B4 _ _
  have hB4 : Hid (Below w.heap.size w w4) := hB3.out.trans (B4.mono hB3.out.size)
  have h4 : Hid (Errs w4 al) := h3.out.below B4
  clear B4 s4 n4 T4 O3 hB3 h3
  obtain ⟨w5, e5⟩ : ∃ w5, Hid (w4.alloc (.cells #[.int .i64 k4, .int .i64 m4, .slice a4 l4 c4] 25) = w5) := ⟨_, (rfl : _ = _)⟩
  have B5 : Below w4.heap.size w4 w5 := by rw [← e5.out]; exact (Below.refl _ _).alloc (Nat.le_refl _) _
  have Q5 : Hid (Bo w5 w4.heap.size k4 m4 (.slice a4 l4 c4)) := by show Bo _ _ _ _ _; rw [← e5.out]; exact Bo.new _ _ _ _
  have O5 : Hid (Bo w5 A k2 m2 (.slice a2 l2 c2)) := O4.out.bel B5
  have hT5 : Hid (Od w5 (prt l) (.agg #[.int .i64 k4, .int .i64 m4, .slice a4 l4 c4])) := hT4.out.below B5 _ _
  have hT6 : Hid (Od w5 (prt l) (.agg #[.int .i64 k2, .int .i64 m2, .slice a2 l2 c2])) := hT3.out.below B5 _ _
  have hB5 : Hid (Below w.heap.size w w5) := hB4.out.trans (B5.mono hB4.out.size)
  have h5 : Hid (Errs w5 al) := h4.out.below B5
  obtain ⟨C, hC⟩ : ∃ C, Hid (w4.heap.size = C) := ⟨_, (rfl : _ = _)⟩
  rw [hC.out] at Q5
  clear B5 hT4 hT3 hB4 h4 O4
  have x0 := O5.out.c0
  have x1 := O5.out.c1
  have x2 := O5.out.c2
  have y0 := Q5.out.c0
  have y1 := Q5.out.c1
  have y2 := Q5.out.c2
  go_upto_region 6 with fail
  rw [e5.out, hC.out]
  go_wp2_with fail
  refine (rSame_c (prt l) (prt l) _ _ w5 hT6.out hT5.out).mono ?_
  rintro e w6 ⟨r, rfl, hr, B6⟩
  obtain rfl : r = true := hr.2 rfl
  have hB6 : Hid (Below w.heap.size w w6) := hB5.out.trans (B6.mono hB5.out.size)
  have h6 : Hid (Errs w6 al) := h5.out.below B6
  clear B6 hr
  go_wp2_with fail
  refine (hnum.out w6 h6.out).mono ?_
  rintro e w7 ⟨rfl, B7⟩
  have hB7 : Hid (Below w.heap.size w w7) := hB6.out.trans (B7.mono hB6.out.size)
  clear B7
  go_wp2_with fail
  go_ret
  exact ⟨rfl, hB7.out⟩
end Go.Proofs.YtfoblbpbhldngaaDoor
namespace Go.Proofs.YtfoblbpbhldngaaDoor
open Flo Go.RowKit Tr
theorem orderParses.walkB (x : ByteArray) (al : List Addr) (w : World) (hEr : Errs w al) (hE : Eo w (al.getD 2 ⟨0, 0, none⟩) (al.getD 5 ⟨0, 0, none⟩) (al.getD 7 ⟨0, 0, none⟩)) :
    Calls Tryd.prog 3 #[.string x] w fun e w' => e = .returned (.bool true) ∧ Below w.heap.size w w' := by
  have := orderParses.walk x.data.toList al w hEr hE
  rw [← Bt_of] at this; exact this
end Go.Proofs.YtfoblbpbhldngaaDoor
