/-
  The statements' lives.
-/
import Derived.Test.YtjmjnljjdjhgpaaDoorOy4
import Derived.Test.YtjmjnljjdjhgpaaDoorOx3
import Derived.Test.YtjmjnljjdjhgpaaDoorOq5
namespace Go.Proofs.YtjmjnljjdjhgpaaDoor
open Flo Go.RowKit Tr
open Lib (decDigits)
/-- (f4 x d7) -/
def lvA : Tr := ⟨3, 0, [⟨2, 4, []⟩, ⟨1, 7, []⟩]⟩
/-- b11((f4 x (f4 x f2))) -/
def lvB : Tr := ⟨4, 11, [⟨3, 0, [⟨2, 4, []⟩, ⟨3, 0, [⟨2, 4, []⟩, ⟨2, 2, []⟩]⟩]⟩]⟩
def lvT : List UInt8 := [98, 49, 49, 40, 40, 102, 52, 32, 120, 32, 40, 102, 52, 32, 120, 32, 102, 50, 41, 41, 41]
theorem dd4 : decDigits 4 = [52] := by decide +kernel
theorem dd7 : decDigits 7 = [55] := by decide +kernel
theorem dd2 : decDigits 2 = [50] := by decide +kernel
theorem dd11 : decDigits 11 = [49, 49] := by decide +kernel
theorem lnA : len lvA = 28 := by
  simp [len, lvA, pt, dp, ln, lnc, tms]
theorem txA : tx lvA = [40, 102, 52, 32, 120, 32, 100, 55, 41] := by
  simp [lvA, tx, txc, dd4, dd7]
theorem lnB : len lvB = 11 := by
  simp [len, lvB, pt, dp, ln, lnc, tms, blu]
theorem txB : tx lvB = lvT := by
  simp [lvB, tx, txc, dd4, dd2, dd11, lvT]
theorem prsB : Ps.prs lvT = (some lvB, 0, 0) := by
  have h : Ps.rd lvT = (some lvB, lvT.length) := by
    rw [← txB]
    exact Ps.rd_tx (Ps.fm_good _ (by have := lnB; unfold len at this; split at this <;> omega))
  rw [Ps.prs_good (by decide) h, lnB]; rfl
set_option maxHeartbeats 2000000 in
set_option maxRecDepth 100000 in
theorem lives_c (w : World) (aL aT aO : Addr) (hE : Eo w aL aT aO) : Calls Tryd.prog 9 #[] w fun e w' => e = .returned (.bool true) ∧ Below w.heap.size w w' := by
  have hEH : Hid (Eo w aL aT aO) := hE
  clear hE
  go_enter Tryd.func9, Tryd.ntmps9
  go_wp2_with fail
  refine (fly_c 4 w).mono ?_
  rintro e w1 ⟨rfl, B1⟩
  have hB1 : Hid (Below w.heap.size w w1) := B1
  clear B1
  go_wp2_with fail
  refine (direct_c 7 w1).mono ?_
  rintro e w2 ⟨rfl, B2⟩
  have hB2 : Hid (Below w.heap.size w w2) := btr hB1.out B2
  clear B2
  go_wp2_with fail
  refine (times_c ⟨2, 4, []⟩ ⟨1, 7, []⟩ _ _ w2 (Os.od (S := fun _ => True) _ _ (Os.leaf ⟨by decide, by decide⟩)) (Os.od (S := fun _ => True) _ _ (Os.leaf ⟨by decide, by decide⟩)) (by rw [pt_nil]; decide) (by rw [pt_nil]; decide)).mono ?_
  rintro e w3 ⟨u, rfl, ou, B3⟩
  have hB3 : Hid (Below w.heap.size w w3) := btr hB2.out B3
  have ouH : Hid (Od w3 lvA u) := Os.od _ _ ou
  clear B3 ou
  go_wp2_with fail
  refine (text_c lvA u w3 aL aT aO ouH.out (hEH.out.below hB3.out)).mono ?_
  rintro e w4 ⟨rfl, B4⟩
  have hB4 : Hid (Below w.heap.size w w4) := btr hB3.out B4
  have e1 : txr lvA = ⟨#[40, 102, 52, 32, 120, 32, 100, 55, 41]⟩ := by unfold txr; rw [lnA, if_neg (by decide), txA]; rfl
  have e2 : cke aO lvA = .nilIface := by unfold cke; rw [lnA, if_neg (by decide)]
  rw [e1, e2]
  clear B4 e1 e2
  have hc : Hid (Calls Tryd.prog 22 #[.string ⟨#[98, 49, 49, 40, 40, 102, 52, 32, 120, 32, 40, 102, 52, 32, 120, 32, 102, 50, 41, 41, 41]⟩] w4 (PE lvT aL aT aO w4)) := parse_c lvT aL aT aO w4 (hEH.out.below hB4.out)
  go_wp2_with fail
  refine hc.out.mono ?_
  rintro e w5 ⟨B5, v, rfl, o5, _⟩
  rw [prsB] at o5 ⊢
  have o5' := o5 lvB rfl
  obtain ⟨va, vc, rfl⟩ := o5'.shape
  have hB5 : Hid (Below w.heap.size w w5) := btr hB4.out B5
  have e3 : er aL aT aO 0 = .nilIface := rfl
  show _
  rw [e3]
  obtain ⟨w6, e6⟩ : ∃ w6, Hid (w5.alloc (.cells #[.int .i64 lvB.k, .int .i64 lvB.n, .slice va lvB.ks.length vc] 24) = w6) := ⟨_, (rfl : _ = _)⟩
  have B6 : Below w5.heap.size w5 w6 := by rw [← e6.out]; exact (Below.refl _ _).alloc (Nat.le_refl _) _
  have hB6 : Hid (Below w.heap.size w w6) := btr hB5.out B6
  have F6 : Hid (Bo w6 w5.heap.size lvB.k lvB.n (.slice va lvB.ks.length vc)) := by show Bo _ _ _ _ _; rw [← e6.out]; exact Bo.new _ _ _ _
  have O6 : Hid (Od w6 lvB (.agg #[.int .i64 lvB.k, .int .i64 lvB.n, .slice va lvB.ks.length vc])) := Os.od _ _ (o5'.bel B6)
  generalize lvB.ks.length = bl at *
  generalize lvB.k = bk at *
  generalize lvB.n = bn at *
  clear B5 o5 o5' B6 hc e3
  go_upto_region 3 with fail
  rw [e6.out]
  have f0 := F6.out.c0
  have f1 := F6.out.c1
  have f2 := F6.out.c2
  go_wp2_with fail
  refine (length_c lvB _ w6 O6.out).mono ?_
  rintro e w7 ⟨rfl, B7⟩
  have hB7 : Hid (Below w.heap.size w w7) := btr hB6.out B7
  rw [lnB]
  clear f0 f1 f2 B7
  go_wp2_with fail
  go_ret
  exact ⟨rfl, hB7.out⟩
end Go.Proofs.YtjmjnljjdjhgpaaDoor
