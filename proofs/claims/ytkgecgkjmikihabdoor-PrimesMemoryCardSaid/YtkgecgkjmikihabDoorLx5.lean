/-
  The statements' own 'fixed' of layer 5 answers true.
-/
import Derived.Test.YtkgecgkjmikihabDoorLw5
namespace Go.Proofs.YtkgecgkjmikihabDoor
open Flo Go.RowKit

/-- a list of ints that was just written out -/
theorem RdI.made (w : World) (zs : List Nat) (cap : Nat) : RdI (w.alloc (.cells (il zs).toArray 3)) (.slice (some ⟨w.heap.size, 0, none⟩) zs.length cap) zs := by
  refine ⟨_, cap, rfl, fun _ => ⟨w.heap.size, 0, rfl, by simp, fun i hi => ?_⟩⟩
  rw [Nat.zero_add, ← il_get zs i hi]
  simp
set_option maxHeartbeats 2000000 in
theorem fixed_c (H : P5) (w : World) :
    Calls Tryd.prog 6 #[] w fun e w' => e = .returned (.bool true) ∧ Below w.heap.size w w' := by
  have hi : Hid P5 := H
  clear H
  go_enter Tryd.func6, Tryd.ntmps6
  go_wp2_with (first
    | (go_at_call 20; refine (hi.out.invOk 3 7 _ (by decide) (by decide) ivOk37).mono ?_; rintro e w1 ⟨rfl, b1⟩; rw [ivf37])
    | (go_at_call 7; refine (hi.out.rootOk 41 _ (by decide) (by decide) prime41).mono ?_; rintro e w2 ⟨g, rfl, hg, b2⟩; have eg := hg.eq rt41; subst eg; clear hg)
    | (go_at_call 12; refine (hi.out.joinOk 2 3 3 5 _ (by decide) (by decide) (by decide) (by decide) (by decide) (by decide) (by decide) (by decide)).mono ?_; rintro e w3 ⟨rfl, b3⟩; rw [jn2335]))
  have B3 : Hid (Below w.heap.size w w3) := (b1.trans (b2.mono b1.size)).trans (b3.mono (Nat.le_trans b1.size b2.size))
  clear b1 b2 b3
  refine (hi.out.factors 360 w3 (by decide) (by decide)).mono ?_
  rintro e w4 ⟨v, zs, rfl, hf, hown, b4⟩
  have ez := hf.eq fac360
  subst ez
  have r1 : Hid (RdI w4 v [2, 2, 2, 3, 3, 5]) := RdI.of_own hown
  have B4 : Hid (Below w.heap.size w w4) := B3.out.trans (b4.mono B3.out.size)
  clear hf hown b4 B3
  go_wp2_with fail
  have b5 : Below w4.heap.size w4 (w4.alloc (.cells (il [2, 2, 2, 3, 3, 5]).toArray 3)) := (Below.refl _ _).alloc (Nat.le_refl _) _
  refine (sameInts_c v _ [2, 2, 2, 3, 3, 5] [2, 2, 2, 3, 3, 5] _ (r1.out.below b5) (RdI.made w4 [2, 2, 2, 3, 3, 5] 6) (by decide)).mono ?_
  rintro e w5 ⟨rfl, q, rfl⟩
  have B5 : Hid (Below w.heap.size w ((w4.alloc (.cells (il [2, 2, 2, 3, 3, 5]).toArray 3)).drewN q)) := below_drewN (B4.out.trans (b5.mono B4.out.size)) q
  generalize (w4.alloc (.cells (il [2, 2, 2, 3, 3, 5]).toArray 3)).drewN q = w5 at B5 ⊢
  clear b5 r1 B4
  rw [show decide ([2, 2, 2, 3, 3, 5] = [2, 2, 2, 3, 3, 5]) = true from by decide]
  go_wp2_with (first
    | (go_at_call 8; refine (hi.out.prime 97 _ ⟨by decide, by decide⟩).mono ?_; rintro e w6 ⟨rfl, b6⟩; rw [prB97])
    | (go_at_call 21; refine (hi.out.gcd (-12) 18 _ ⟨by decide, by decide⟩ ⟨by decide, by decide⟩).mono ?_; rintro e w7 ⟨rfl, b7⟩; rw [gcI12])
    | (go_at_call 11; refine (hi.out.powB 3 200 13 _ (by decide) (by decide) (by decide)).mono ?_; rintro e w8 ⟨rfl, b8⟩; rw [pw3]))
  go_ret
  exact ⟨rfl, ((B5.out.trans (b6.mono B5.out.size)).trans (b7.mono (Nat.le_trans B5.out.size b6.size))).trans (b8.mono (Nat.le_trans B5.out.size (Nat.le_trans b6.size b7.size)))⟩
end Go.Proofs.YtkgecgkjmikihabDoor
