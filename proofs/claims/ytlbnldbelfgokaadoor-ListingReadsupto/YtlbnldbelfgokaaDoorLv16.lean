/-
  The statements of layer 16: lives.
-/
import Derived.Test.YtlbnldbelfgokaaDoorLs4
namespace Go.Proofs.YtlbnldbelfgokaaDoor
open Flo Go.RowKit
def p16 : Sp.Pg := ⟨2, 2, 0, 0, [⟨5, 0, 0, 1, 1, 2, 0⟩]⟩
theorem it0 : Lib.itoa 0 = [48] := by
  show Lib.decDigits 0 = _
  rw [Lib.decDigits_one (by decide)]; rfl
theorem it1 : Lib.itoa 1 = [49] := by
  show Lib.decDigits 1 = _
  rw [Lib.decDigits_one (by decide)]; rfl
theorem it2 : Lib.itoa 2 = [50] := by
  show Lib.decDigits 2 = _
  rw [Lib.decDigits_one (by decide)]; rfl
theorem p16_tx : ltx p16 = [116, 105, 109, 98, 114, 101, 32, 50, 32, 50, 32, 48, 32, 48, 10, 102, 108, 121, 32, 106, 49, 32, 99, 49, 32, 110, 50, 10] := by
  have e : ((5 : Int).toNat) = 5 := rfl
  have e2 : (nmb 5).data.toList = [102, 108, 121] := rfl
  simp [ltx, hdK, lins, lin, p16, Sp.hd, Sp.nl, Li.enh, Li.encf, ltr, it0, it1, it2, e2]
theorem p16_v (al : List Addr) : txv al p16 = .tuple #[.string ⟨#[116, 105, 109, 98, 114, 101, 32, 50, 32, 50, 32, 48, 32, 48, 10, 102, 108, 121, 32, 106, 49, 32, 99, 49, 32, 110, 50, 10]⟩, .nilIface] := by
  unfold txv
  rw [show p16.steps.all Sp.fm = true from rfl, p16_tx]; rfl
theorem nil16 (w : World) : (binOp .eql 27 .nilIface .nilIface).run Tryd.prog w = .ok (.bool true) w := by kernel_rfl
set_option maxHeartbeats 4000000 in
set_option maxRecDepth 100000 in
theorem llives_c (al : List Addr) (w : World) (hL : Le w al) :
    Calls Tryd.prog 4 #[] w fun e w' => e = .returned (.bool true) ∧ Below w.heap.size w w' := by
  obtain ⟨w1, ew1⟩ := hid_ex3 (w.alloc (.cells #[.int .i64 5, .int .i64 0, .int .i64 0, .int .i64 1, .int .i64 1, .int .i64 2, .int .i64 0] 38))
  have B1 : Hid (Below w.heap.size w w1) := by rw [← ew1.out]; exact (Below.refl _ _).alloc (Nat.le_refl _) _
  obtain ⟨b, hb⟩ := hid_ex3 w.heap.size
  have S1 : Ss w1 (some ⟨b, 0, none⟩) p16.steps := fun i s hi => by
    match i, hi with
    | 0, hi =>
      have e : s = ⟨5, 0, 0, 1, 1, 2, 0⟩ := by simpa [p16] using hi.symm
      subst e
      refine ⟨b, 0, rfl, ?_⟩
      rw [← ew1.out, ← hb.out]
      exact ⟨by simp, by simp, by simp, by simp, by simp, by simp, by simp⟩
    | n + 1, hi => simp [p16] at hi
  have hT : Hid (Calls Tryd.prog 9 #[.agg #[.int .i64 2, .int .i64 2, .int .i64 0, .int .i64 0, .slice (some ⟨b, 0, none⟩) 1 1]] w1 fun e w' => e = .returned (.tuple #[.string ⟨#[116, 105, 109, 98, 114, 101, 32, 50, 32, 50, 32, 48, 32, 48, 10, 102, 108, 121, 32, 106, 49, 32, 99, 49, 32, 110, 50, 10]⟩, .nilIface]) ∧ Below w1.heap.size w1 w') := by
    rw [← p16_v al]
    exact ltext_c p16 (some ⟨b, 0, none⟩) 1 w1 al S1 (by decide) (fun x hx => by simp [Sp.hd, p16] at hx; rcases hx with rfl | rfl <;> exact ⟨by decide, by decide⟩) (hL.below B1.out)
  clear S1 hL
  have hnn := nil16
  go_enter Tryd.func4, Tryd.ntmps4
  go_wp2_with fail
  rw [ew1.out, hb.out]
  refine hT.out.mono ?_
  rintro e w2 ⟨rfl, B2⟩
  have Bf : Hid (Below w.heap.size w w2) := B1.out.trans (B2.mono B1.out.size)
  clear B2 hT
  go_wp2
  go_ret
  exact ⟨rfl, Bf.out⟩
end Go.Proofs.YtlbnldbelfgokaaDoor
