/-
  The statements of layer 15: lives.
-/
import Derived.Test.YtmlfichdfeblpaaDoorSr4
import Derived.Test.YtmlfichdfeblpaaDoorQke
namespace Go.Proofs.YtmlfichdfeblpaaDoor
open Flo Go.RowKit
def lvS : Sp.St := ⟨3, 0, 0, 0, 1, 0, 0⟩
def lvP : Sp.Pg := ⟨1, 1, 0, 0, [lvS]⟩
theorem lv_inf : Sp.inf lvP = true := by decide +kernel
theorem lv_enc : Sp.encP lvP = [1, 1, 0, 0, 1, 3, 0, 1] := by decide +kernel
theorem lv_s : mkS (Sp.encP lvP) = ⟨#[1, 1, 0, 0, 1, 3, 0, 1]⟩ := by rw [lv_enc]; rfl
theorem lv_q : (mkS (Sp.encP lvP)).toList = [1, 1, 0, 0, 1, 3, 0, 1] := by rw [lv_s, ByteArray.toList_eq]
set_option maxHeartbeats 8000000 in
set_option maxRecDepth 100000 in
theorem slives_c (al : List Addr) (w : World) (he : E4 w al) (hO : Ops w) :
    Calls Tryd.prog 4 #[] w fun e w' => e = .returned (.bool true) ∧ Below w.heap.size w w' := by
  obtain ⟨g0, hg0⟩ : ∃ b, Hid (w.heap.size = b) := ⟨_, (rfl : _ = _)⟩
  obtain ⟨w1, ew1⟩ : ∃ wa, Hid ((w.alloc (.cells #[.int .i64 3, .int .i64 0, .int .i64 0, .int .i64 0, .int .i64 1, .int .i64 0, .int .i64 0] 36)).alloc (.cells #[.int .i64 1, .int .i64 1, .int .i64 0, .int .i64 0, .slice (some ⟨g0, 0, none⟩) 1 1] 26) = wa) := ⟨_, (rfl : _ = _)⟩
  have B1 : Hid (Below w.heap.size w w1) := by rw [← ew1.out]; exact ((Below.refl _ _).alloc (Nat.le_refl _) _).alloc (by simp) _
  have A1 : Hid (SAt w1 g0 0 lvS) := by
    rw [← ew1.out, ← hg0.out]
    have h := Bst.new w 3 0 0 0 1 0 0
    have h2 := h.below ((Below.refl _ _).alloc (Nat.le_refl _) (.cells #[.int .i64 1, .int .i64 1, .int .i64 0, .int .i64 0, .slice (some ⟨w.heap.size, 0, none⟩) 1 1] 26))
    exact ⟨h2.c0, h2.c1, h2.c2, h2.c3, h2.c4, h2.c5, h2.c6⟩
  have S1 : Hid (Ss w1 (some ⟨g0, 0, none⟩) lvP.steps) := fun i s hi => by
    match i, hi with
    | 0, hi => cases hi; exact ⟨g0, 0, rfl, A1.out⟩
    | n + 1, hi => simp [lvP] at hi
  have X1 : Hid (Bpg w1 (g0 + 1) lvP (.slice (some ⟨g0, 0, none⟩) 1 1)) := by
    have h := Bpg.new (w.alloc (.cells #[.int .i64 3, .int .i64 0, .int .i64 0, .int .i64 0, .int .i64 1, .int .i64 0, .int .i64 0] 36)) lvP (.slice (some ⟨g0, 0, none⟩) 1 1)
    rw [← ew1.out]
    show Bpg _ _ _ _
    have e : (w.alloc (.cells #[.int .i64 3, .int .i64 0, .int .i64 0, .int .i64 0, .int .i64 1, .int .i64 0, .int .i64 0] 36)).heap.size = g0 + 1 := by rw [← hg0.out]; simp
    rw [e] at h
    exact h
  have e1 : Hid (E4 w1 al) := he.below B1.out
  have o1 : Hid (Ops w1) := hO.below B1.out
  have henc : Hid (Calls Tryd.prog 9 #[.agg #[.int .i64 1, .int .i64 1, .int .i64 0, .int .i64 0, .slice (some ⟨g0, 0, none⟩) 1 1]] w1 fun e w' => EncE al lvP w1 e w') := sencode_c lvP _ 1 1 al w1 S1.out rfl o1.out e1.out.prog
  clear he hO
  go_enter Tryd.func4, Tryd.ntmps4
  go_upto_region 2 with fail
  rw [hg0.out, ew1.out]
  have x0 : w1.cell? ⟨g0 + 1, 0, none⟩ = some (.int .i64 1) := X1.out.c0
  have x1 : w1.cell? ⟨g0 + 1, 1, none⟩ = some (.int .i64 1) := X1.out.c1
  have x2 : w1.cell? ⟨g0 + 1, 2, none⟩ = some (.int .i64 0) := X1.out.c2
  have x3 : w1.cell? ⟨g0 + 1, 3, none⟩ = some (.int .i64 0) := X1.out.c3
  have x4 : w1.cell? ⟨g0 + 1, 4, none⟩ = some (.slice (some ⟨g0, 0, none⟩) 1 1) := X1.out.c4
  go_wp2_with fail
  refine henc.out.mono ?_
  intro e w2 hE
  rcases hE with ⟨hf, _⟩ | ⟨_, v, rfl, hN⟩
  · rw [lv_inf] at hf; cases hf
  have NH : Hid (NewB w1 w2 v (Sp.encP lvP)) := hN
  obtain ⟨n, ao, cap, rfl, hn⟩ := hN.own.slice
  have B2 : Hid (Below w1.heap.size w1 w2) := hN.below
  have hdec : Hid (Calls Tryd.prog 5 #[.slice ao n cap] w2 fun e w' => DcE al (Sp.encP lvP) w2 e w') := sdecode_c _ _ al w2 hN.own.src (by rw [lv_enc]; decide) (Sp.encP_byte lvP) (e1.out.below hN.below) (o1.out.below hN.below)
  clear hN henc x0 x1 x2 x3 x4
  go_wp2_with fail
  refine hdec.out.mono ?_
  rintro e w3 ⟨B3', hcs⟩
  have B3 : Hid (Below w1.heap.size w1 w3) := B2.out.trans (B3'.mono B2.out.size)
  have B23 : Hid (Below w2.heap.size w2 w3) := B3'
  rcases hcs with ⟨hf, _⟩ | ⟨p, v, hp, rfl, O3⟩
  · rw [Sp.rw_back lv_inf] at hf; cases hf
  rw [Sp.rw_back lv_inf] at hp
  cases hp
  obtain ⟨ao', cap', rfl, S3⟩ := O3.ss
  have S3H : Hid (Ss w3 ao' lvP.steps) := S3
  obtain ⟨g1, hg1⟩ : ∃ b, Hid (w3.heap.size = b) := ⟨_, (rfl : _ = _)⟩
  obtain ⟨w4, ew4⟩ : ∃ wa, Hid (w3.alloc (.cells #[.int .i64 1, .int .i64 1, .int .i64 0, .int .i64 0, .slice ao' 1 cap'] 26) = wa) := ⟨_, (rfl : _ = _)⟩
  have B34 : Below w3.heap.size w3 w4 := by rw [← ew4.out]; exact (Below.refl _ _).alloc (Nat.le_refl _) _
  have Y4 : Hid (Bpg w4 g1 lvP (.slice ao' 1 cap')) := by rw [← ew4.out, ← hg1.out]; exact Bpg.new w3 lvP _
  have B4 : Hid (Below w1.heap.size w1 w4) := B3.out.trans (B34.mono B3.out.size)
  have B24 : Hid (Below w2.heap.size w2 w4) := B23.out.trans (B34.mono B23.out.size)
  have S4 : Hid (Ss w4 ao' lvP.steps) := S3.below B34
  have hnm : Hid (Calls Tryd.prog 10 #[.int .i64 4] w4 fun e w' => e = .returned (.tuple #[.string ⟨#[116, 119, 105, 115, 116]⟩, .bool true]) ∧ Below w4.heap.size w4 w') := sname_c 4 w4 (o1.out.below B4.out)
  clear S3 O3 B34 B3' hdec
  unfold pv lvP
  simp only
  go_upto_region 4 with fail
  rw [show ([lvS] : List Sp.St).length = 1 from rfl, ew4.out, hg1.out]
  go_wp2_with fail
  refine hnm.out.mono ?_
  rintro e w5 ⟨rfl, B5'⟩
  have B5 : Hid (Below w1.heap.size w1 w5) := B4.out.trans (B5'.mono B4.out.size)
  have hcv : (convert 22 9 (.slice ao n cap)).run Tryd.prog w5 = .ok (.string ⟨#[1, 1, 0, 0, 1, 3, 0, 1]⟩) w5 := by
    rw [← lv_s]
    have h9 : Below w2.heap.size w2 w5 := B24.out.trans (B5'.mono B24.out.size)
    refine conv_src ?_ (Sp.encP_byte lvP)
    rcases NH.out.own.src with ⟨h1, h2⟩ | ⟨ad, c, h1, hc⟩
    · exact .inl ⟨h1, h2⟩
    · exact .inr ⟨ad, c, h1, fun j u hj => (h9.cell (cell_lt (hc j u hj))).trans (hc j u hj)⟩
  have X5 := X1.out.below B5.out
  have Y5 := Y4.out.below B5'
  have x0 : w5.cell? ⟨g0 + 1, 0, none⟩ = some (.int .i64 1) := X5.c0
  have x1 : w5.cell? ⟨g0 + 1, 1, none⟩ = some (.int .i64 1) := X5.c1
  have x2 : w5.cell? ⟨g0 + 1, 2, none⟩ = some (.int .i64 0) := X5.c2
  have x3 : w5.cell? ⟨g0 + 1, 3, none⟩ = some (.int .i64 0) := X5.c3
  have x4 : w5.cell? ⟨g0 + 1, 4, none⟩ = some (.slice (some ⟨g0, 0, none⟩) 1 1) := X5.c4
  have y0 : w5.cell? ⟨g1, 0, none⟩ = some (.int .i64 1) := Y5.c0
  have y1 : w5.cell? ⟨g1, 1, none⟩ = some (.int .i64 1) := Y5.c1
  have y2 : w5.cell? ⟨g1, 2, none⟩ = some (.int .i64 0) := Y5.c2
  have y3 : w5.cell? ⟨g1, 3, none⟩ = some (.int .i64 0) := Y5.c3
  have y4 : w5.cell? ⟨g1, 4, none⟩ = some (.slice ao' 1 cap') := Y5.c4
  have hsm : Hid (Calls Tryd.prog 11 #[.agg #[.int .i64 1, .int .i64 1, .int .i64 0, .int .i64 0, .slice (some ⟨g0, 0, none⟩) 1 1], .agg #[.int .i64 1, .int .i64 1, .int .i64 0, .int .i64 0, .slice ao' 1 cap']] w5 fun e w' => e = .returned (.bool true) ∧ Below w5.heap.size w5 w') := by
    have := ssame_c lvP lvP (some ⟨g0, 0, none⟩) ao' 1 1 1 cap' w5 (S1.out.below B5.out) (S4.out.below B5') rfl rfl (by decide)
    rw [pgeq_iff.2 rfl] at this
    exact this
  have hq1 : ∀ W : World, (binOp .eql 28 .nilIface .nilIface).run Tryd.prog W = .ok (.bool true) W := fun W => by kernel_rfl
  clear B5' X5 Y5 hnm
  go_wp2_with fail
  refine hsm.out.mono ?_
  rintro e w6 ⟨rfl, B6'⟩
  have B6 : Hid (Below w1.heap.size w1 w6) := B5.out.trans (B6'.mono B5.out.size)
  have X6 := X1.out.below B6.out
  obtain ⟨a0, a1, a2, a3, a4, a5, a6⟩ := A1.out.below B6.out
  have hac : Hid (Calls Tryd.prog 12 #[.agg #[.int .i64 3, .int .i64 0, .int .i64 0, .int .i64 0, .int .i64 1, .int .i64 0, .int .i64 0]] w6 fun e w' => e = .returned (.int .i64 1) ∧ Below w6.heap.size w6 w') := by
    have := sacts_c lvS al w6 (o1.out.below B6.out) (e1.out.below B6.out).prog
    have e9 : acv lvS = 1 := by decide +kernel
    rw [e9] at this
    exact this
  clear x0 x1 x2 x3 x4 y0 y1 y2 y3 y4 B6' hsm hcv
  have x4 : w6.cell? ⟨g0 + 1, 4, none⟩ = some (.slice (some ⟨g0, 0, none⟩) 1 1) := X6.c4
  have b0 : w6.cell? ⟨g0, 0, none⟩ = some (.int .i64 3) := a0
  have b1 : w6.cell? ⟨g0, 1, none⟩ = some (.int .i64 0) := a1
  have b2 : w6.cell? ⟨g0, 2, none⟩ = some (.int .i64 0) := a2
  have b3 : w6.cell? ⟨g0, 3, none⟩ = some (.int .i64 0) := a3
  have b4 : w6.cell? ⟨g0, 4, none⟩ = some (.int .i64 1) := a4
  have b5 : w6.cell? ⟨g0, 5, none⟩ = some (.int .i64 0) := a5
  have b6 : w6.cell? ⟨g0, 6, none⟩ = some (.int .i64 0) := a6
  clear a0 a1 a2 a3 a4 a5 a6 X6
  go_wp2_with fail
  refine hac.out.mono ?_
  rintro e w7 ⟨rfl, B7'⟩
  have B7 : Hid (Below w1.heap.size w1 w7) := B6.out.trans (B7'.mono B6.out.size)
  have hfo : Hid (Calls Tryd.prog 13 #[.agg #[.int .i64 0, .int .i64 0, .int .i64 0, .int .i64 0, .int .i64 0, .int .i64 0, .int .i64 0]] w7 fun e w' => e = .returned (ek al 8) ∧ Below w7.heap.size w7 w') := by
    have := sform_c st0 al w7 (o1.out.below B7.out) (e1.out.below B7.out).prog
    have e9 : Sp.fm st0 = false := by decide +kernel
    rw [e9] at this
    exact this
  clear B7' hac b0 b1 b2 b3 b4 b5 b6 x4
  go_wp2_with fail
  refine hfo.out.mono ?_
  rintro e w8 ⟨rfl, B8'⟩
  have B8 : Hid (Below w.heap.size w w8) := (B1.out.trans (B7.out.mono B1.out.size)).trans (B8'.mono (Nat.le_trans B1.out.size B7.out.size))
  have hq := nnil_c al 8
  have hgd := guard_c al 8
  clear B8' hfo
  go_wp2_with fail
  go_ret
  exact ⟨rfl, B8.out⟩
end Go.Proofs.YtmlfichdfeblpaaDoor
