/-
  The program's scaleOf, where both powers are below nought.
-/
import Derived.Test.YtmfnjmgdindlaaaDoorUnt
namespace Go.Proofs.YtmfnjmgdindlaaaDoor
open Flo Go.RowKit
theorem timesTens_z (B n : Nat) (v : Value) (w : World) (hB : B ≤ w.heap.size) (hr : Nl w B v n) (hk : Wd.nw W64 (n * 10 ^ 0) ≤ 1000000) :
    Calls Tryd.prog 37 #[v, .int .i64 0] w fun e w' => ∃ v', e = .returned v' ∧ Nl w' B v' (n * 10 ^ 0) ∧ Below B w w' ∧ Inp w w' v v' := timesTens_c B n 0 v w hB hr (by decide) hk
theorem pow10_nw1 {k K : Nat} (hk : 4 * (k + 1) ≤ 64 * K) : Wd.nw W64 (1 * 10 ^ k) ≤ K := by
  rw [Nat.one_mul]
  apply nw_bit
  have h1 : 10 ^ k < 16 ^ (k + 1) := Nat.lt_of_le_of_lt (Nat.pow_le_pow_left (by decide : 10 ≤ 16) k) (Nat.pow_lt_pow_right (by decide) (by omega))
  have h2 : 16 ^ (k + 1) = 2 ^ (4 * (k + 1)) := by rw [Nat.pow_mul]
  rw [h2] at h1
  exact Nat.lt_of_lt_of_le h1 (Nat.pow_le_pow_right (by decide) hk)
set_option maxRecDepth 100000 in
set_option maxHeartbeats 400000 in
theorem scaleOf_nn (a b : Nat) (w : World) (ha0 : 0 < a) (hb0 : 0 < b) (ha : a ≤ 2000) (hb : b ≤ 2000) :
    Calls Tryd.prog 61 #[.int .i64 (-(a : Int)), .int .i64 (-(b : Int))] w fun e w' => ∃ u d, e = .returned (.agg #[u, d]) ∧ Nl w' w.heap.size u (1 * 10 ^ b * 2 ^ 0) ∧ Nl w' w.heap.size d (1 * 10 ^ 0 * 2 ^ a) ∧ Below w.heap.size w w' := by
  have hk1 : Hid (Wd.nw W64 (1 * 10 ^ b) ≤ 1000) := pow10_nw1 (by omega)
  have hk2 : Hid (Wd.nw W64 (1 * 10 ^ 0) ≤ 1000) := pow10_nw1 (by omega)
  have n1 : ¬ (0 < -(a : Int)) := by omega
  have n2 : ¬ (0 < -(b : Int)) := by omega
  go_enter Tryd.func61, Tryd.ntmps61
  go_wp2_with fail
  generalize hW : w.alloc (.cells #[.slice none 0 0, .slice none 0 0] 89) = W0
  have hbW : Hid (Below w.heap.size w W0) := by rw [← hW]; exact (Below.refl _ _).alloc (Nat.le_refl _) _
  have hWs : Hid (w.heap.size + 1 = W0.heap.size) := by show _ = _; rw [← hW]; simp
  have hc0 : Hid (W0.cell? ⟨w.heap.size, 0, none⟩ = some (.slice none 0 0)) := by show _ = _; rw [← hW]; simp
  have hc1 : Hid (W0.cell? ⟨w.heap.size, 1, none⟩ = some (.slice none 0 0)) := by show _ = _; rw [← hW]; simp
  have hf0 : Hid (∀ i, W0.frozen? ⟨w.heap.size, i, none⟩ = false) := fun i => by rw [← hW]; exact World.frozen?_alloc_new _ _ _ _
  clear hW
  refine (naturalOf_c 1 W0 (by decide)).mono ?_
  rintro e w1 ⟨u1, rfl, hu1, hb1⟩
  have q1 : Hid (Nl w1 W0.heap.size u1 1) := hu1
  have b1 : Hid (Below W0.heap.size W0 w1) := hb1
  clear hu1 hb1
  go_wp2_with fail
  refine (timesTens_c W0.heap.size 1 b u1 w1 b1.out.size q1.out (by omega) (Nat.le_trans hk1.out (by decide))).mono ?_
  rintro e w2 ⟨u2, rfl, hu2, hb2, _⟩
  have q2 : Hid (Nl w2 W0.heap.size u2 (1 * 10 ^ b)) := hu2
  have b2 : Hid (Below W0.heap.size W0 w2) := b1.out.trans hb2
  clear hu2 hb2 q1 b1
  go_wp2_with fail
  refine (doubled_z W0.heap.size (1 * 10 ^ b) u2 w2 q2.out (Nat.le_trans hk1.out (by decide))).mono ?_
  rintro e w3 ⟨u3, rfl, hu3, hb3⟩
  have q3 : Hid (Nl w3 W0.heap.size u3 (1 * 10 ^ b * 2 ^ 0)) := Row.mono hu3 b2.out.size
  have b3 : Hid (Below W0.heap.size W0 w3) := b2.out.trans (hb3.mono b2.out.size)
  clear hu3 hb3 q2 b2
  go_wp2_with fail
  refine (naturalOf_c 1 w3 (by decide)).mono ?_
  rintro e w4 ⟨d4, rfl, hd4, hb4⟩
  have r4 : Hid (Nl w4 w3.heap.size d4 1) := hd4
  have q4 : Hid (Nl w4 W0.heap.size u3 (1 * 10 ^ b * 2 ^ 0)) := Row.under q3.out hb4
  have b4 : Hid (Below w3.heap.size w3 w4) := hb4
  clear hd4 hb4
  go_wp2_with fail
  refine (timesTens_z w3.heap.size 1 d4 w4 b4.out.size r4.out (Nat.le_trans hk2.out (by decide))).mono ?_
  rintro e w5 ⟨d5, rfl, hd5, hb5, _⟩
  have r5 : Hid (Nl w5 w3.heap.size d5 (1 * 10 ^ 0)) := hd5
  have b5 : Hid (Below w3.heap.size w3 w5) := b4.out.trans hb5
  clear hd5 hb5 r4 b4 q4
  go_wp2_with fail
  refine (doubled_c w3.heap.size (1 * 10 ^ 0) a d5 w5 r5.out (Nat.le_trans hk2.out (by decide)) (by omega)).mono ?_
  rintro e w6 ⟨d6, rfl, hd6, hb6⟩
  have b6 : Hid (Below w3.heap.size w3 w6) := b5.out.trans (hb6.mono b5.out.size)
  have q6 : Hid (Nl w6 W0.heap.size u3 (1 * 10 ^ b * 2 ^ 0)) := Row.under q3.out b6.out
  have r6 : Hid (Nl w6 W0.heap.size d6 (1 * 10 ^ 0 * 2 ^ a)) := Row.mono hd6 (Nat.le_trans b3.out.size b5.out.size)
  have b06 : Hid (Below W0.heap.size W0 w6) := b3.out.trans (b6.out.mono b3.out.size)
  have hlt : w.heap.size < W0.heap.size := by have := hWs.out; omega
  have c0 : w6.cell? ⟨w.heap.size, 0, none⟩ = some (.slice none 0 0) := (b06.out.cell (p := ⟨w.heap.size, 0, none⟩) hlt).trans hc0.out
  have c1 : w6.cell? ⟨w.heap.size, 1, none⟩ = some (.slice none 0 0) := (b06.out.cell (p := ⟨w.heap.size, 1, none⟩) hlt).trans hc1.out
  have f0 : w6.frozen? ⟨w.heap.size, 0, none⟩ = false := (b06.out.frozen (p := ⟨w.heap.size, 0, none⟩) hlt).trans (hf0.out 0)
  have f1 : w6.frozen? ⟨w.heap.size, 1, none⟩ = false := (b06.out.frozen (p := ⟨w.heap.size, 1, none⟩) hlt).trans (hf0.out 1)
  clear hd6 hb6 q3 b3 r5 b5 b6 hc0 hc1 hf0
  obtain ⟨ao1, cap1, hs1⟩ := Row.slice q6.out
  obtain ⟨ao2, cap2, hs2⟩ := Row.slice r6.out
  subst hs1
  subst hs2
  generalize hl1 : Wd.nw W64 (1 * 10 ^ b * 2 ^ 0) = l1 at q6 ⊢
  generalize hl2 : Wd.nw W64 (1 * 10 ^ 0 * 2 ^ a) = l2 at r6 ⊢
  clear hl1 hl2
  go_wp2
  have g0 : ((w6.setCell ⟨w.heap.size, 0, none⟩ (.slice ao1 l1 cap1)).setCell ⟨w.heap.size, 1, none⟩ (.slice ao2 l2 cap2)).cell? ⟨w.heap.size, 0, none⟩ = some (.slice ao1 l1 cap1) := by
    rw [World.cell?_setCell_other _ _ _ _ (by simp), World.cell?_setCell_same _ _ _ c0]
  have g1 : ((w6.setCell ⟨w.heap.size, 0, none⟩ (.slice ao1 l1 cap1)).setCell ⟨w.heap.size, 1, none⟩ (.slice ao2 l2 cap2)).cell? ⟨w.heap.size, 1, none⟩ = some (.slice ao2 l2 cap2) :=
    World.cell?_setCell_same _ _ _ (by rw [World.cell?_setCell_other _ _ _ _ (by simp)]; exact c1)
  refine bodyPost_ret (v := .agg #[.slice ao1 l1 cap1, .slice ao2 l2 cap2]) (by simp [results, Tryd.results61, go_sem, g0, g1]) rfl ?_
  refine ⟨_, _, rfl, ?_, ?_, ?_⟩
  · refine Row.mono (Row.block q6.out fun b hb => ?_) (Nat.le_of_lt hlt)
    have := (Row.lt q6.out b hb).1
    rw [Below.heap_setCell _ _ _ _ (by show b ≠ w.heap.size; omega), Below.heap_setCell _ _ _ _ (by show b ≠ w.heap.size; omega)]
  · refine Row.mono (Row.block r6.out fun b hb => ?_) (Nat.le_of_lt hlt)
    have := (Row.lt r6.out b hb).1
    rw [Below.heap_setCell _ _ _ _ (by show b ≠ w.heap.size; omega), Below.heap_setCell _ _ _ _ (by show b ≠ w.heap.size; omega)]
  · exact ((hbW.out.trans (b06.out.mono (Nat.le_of_lt hlt))).setCell (Nat.le_refl _) _).setCell (Nat.le_refl _) _
end Go.Proofs.YtmfnjmgdindlaaaDoor
