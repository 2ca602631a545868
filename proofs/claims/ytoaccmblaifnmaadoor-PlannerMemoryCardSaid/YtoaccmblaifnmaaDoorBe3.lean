/-
  What PlannerLists and its fellows rest on, joined: Od6 Pnm.
-/
import Derived.WalkKit
import Ieee.Arith
import Derived.WalkLawsBesides
import Derived.Test.YtoaccmblaifnmaaDoorProg
import Derived.Deep.DeepCutAuto
import Derived.Deep.QuietTactic
import Derived.Laws.Rows
import Derived.Lib.ItoaNum
import Derived.Laws.IdiomStrings
import Derived.Deep.RegionHeld3
import Derived.Outline
import Derived.BigQuiet
import Derived.WalkSmall
import Derived.RegionTactic
import Derived.Lib.Mul64
import Derived.Laws.Bits64b
import Derived.Deep.CutBlock
import Derived.Maps.AppendAt
import Derived.Deep.RegionWith
import Derived.Laws.OwnMore
import Derived.RangeFuncNested
import Derived.RangeFuncBound
import Derived.RangeFuncCalls
import Derived.RangeFuncLeaves
import Derived.RangeFuncBox
import Derived.Shelf.Abstract
import Derived.Shelf.RegionOpen
import Derived.OwnWalkIn
import Derived.TacticsInMore
import Derived.LoopNIn
import Derived.LoopIn
import Derived.Lib.SmallJoins
import Derived.Lib.HexFns
import Derived.Test.YtoaccmblaifnmaaDoorRows
import Derived.LaidEql
import Derived.LaidLaws
import Derived.LaidHandle
import Derived.Stop.Joined
import Derived.Recover
import Derived.RegionDies
import Derived.Laws.CopyOwn
import Derived.Lib.AppendIntMem
import Derived.Laws.AppendOwn
import Derived.OwnWalk
import Derived.BigCall
import Derived.Deep.RegionHeldLaw
import Derived.Laws.FloatArith
import Derived.Laws.ComplexArith
import Derived.Laws.MakeOwn
import Derived.MapKept
import Derived.Carry
import Derived.Test.YtoaccmblaifnmaaDoorBa6
import Derived.Test.YtoaccmblaifnmaaDoorBe1
namespace Go.Proofs.YtoaccmblaifnmaaDoor
open Flo Go.RowKit Tr
open Lib (decDigits)
set_option maxHeartbeats 4000000 in
theorem rtext_c (t : Tr) : ∀ (v : Value) (w : World), Od w t v → 0 < ln t → pt t ≤ 4500 → Calls Tryd.prog 69 #[v] w fun e w' => e = .returned (.string (Bt (tx t))) ∧ Below w.heap.size w w' := by
  refine Tr.ind (P := fun t => ∀ (v : Value) (w : World), Od w t v → 0 < ln t → pt t ≤ 4500 → Calls Tryd.prog 69 #[v] w fun e w' => e = .returned (.string (Bt (tx t))) ∧ Below w.heap.size w w') (fun k n ks ih0 v w ho hln hpt => ?_) t
  obtain ⟨ao, cap, rfl, hl0, hk0⟩ := ho.kds
  obtain ⟨R, hR⟩ : ∃ R, Hid (Bt (tx ⟨k, n, ks⟩) = R) := ⟨_, (rfl : _ = _)⟩
  have hv0 : tx ⟨k, n, ks⟩ = txc k n (ks.map tx) := tx_eq k n ks
  have hpk : ∀ t ∈ ks, pt t ≤ 4500 := fun t ht => by have := pt_kid (k := k) (n := n) ht; omega
  unfold txc at hv0
  rcases ln_inv hln with ⟨rfl, h2, rfl⟩ | ⟨rfl, h2, rfl⟩ | ⟨rfl, rfl, x, y, rfl, h2, h3, _⟩ | ⟨rfl, h2, x, rfl, h3⟩
  · rw [if_pos rfl] at hv0
    obtain ⟨N, rfl⟩ := Int.eq_ofNat_of_zero_le (show 0 ≤ n by omega)
    rw [Int.toNat_natCast] at hv0
    have hvR : Hid (Bt [100] ++ Bt (decDigits N) = R) := by show _ = _; rw [← hR.out, hv0, Bt_append]; rfl
    have hsz : ¬ 9223372036854775807 < (Bt [100]).size + (Bt (decDigits N)).size := by rw [Bt_size, Bt_size]; have := dd_short (n := N) (by omega) (by omega); simp only [List.length_singleton]; omega
    have hN1 : 0 < N := by omega
    have hN2 : N ≤ 16384 := by omega
    rw [hR.out]
    clear hv0 hk0 hl0 ih0 ho hln hpt hpk h2
    have B0 : Hid (Below w.heap.size w (w.alloc (.cells #[.int .i64 1, .int .i64 (N : Int), .slice ao 0 cap] 24))) := (Below.refl _ _).alloc (Nat.le_refl _) _
    go_enter Tryd.func69, Tryd.ntmps69
    go_wp2_with fail
    refine (rdigits_c N _ hN1 hN2).mono ?_
    rintro e w1 ⟨rfl, W1⟩
    have B1 : Hid (Below w.heap.size w w1) := btr B0.out W1
    clear W1
    generalize Bt (decDigits N) = Y at *
    have hX : Hid (Bt [100] = ⟨#[100]⟩) := rfl
    rw [hX.out] at hvR hsz
    go_wp2_with fail
    go_ret
    exact ⟨by rw [← hvR.out]; rfl, B1.out⟩
  · rw [if_neg (by decide), if_pos rfl] at hv0
    obtain ⟨N, rfl⟩ := Int.eq_ofNat_of_zero_le (show 0 ≤ n by omega)
    rw [Int.toNat_natCast] at hv0
    have hvR : Hid (Bt [102] ++ Bt (decDigits N) = R) := by show _ = _; rw [← hR.out, hv0, Bt_append]; rfl
    have hsz : ¬ 9223372036854775807 < (Bt [102]).size + (Bt (decDigits N)).size := by rw [Bt_size, Bt_size]; have := dd_short (n := N) (by omega) (by omega); simp only [List.length_singleton]; omega
    have hN1 : 0 < N := by omega
    have hN2 : N ≤ 16384 := by omega
    rw [hR.out]
    clear hv0 hk0 hl0 ih0 ho hln hpt hpk h2
    have B0 : Hid (Below w.heap.size w (w.alloc (.cells #[.int .i64 2, .int .i64 (N : Int), .slice ao 0 cap] 24))) := (Below.refl _ _).alloc (Nat.le_refl _) _
    go_enter Tryd.func69, Tryd.ntmps69
    go_wp2_with fail
    refine (rdigits_c N _ hN1 hN2).mono ?_
    rintro e w1 ⟨rfl, W1⟩
    have B1 : Hid (Below w.heap.size w w1) := btr B0.out W1
    clear W1
    generalize Bt (decDigits N) = Y at *
    have hX : Hid (Bt [102] = ⟨#[102]⟩) := rfl
    rw [hX.out] at hvR hsz
    go_wp2_with fail
    go_ret
    exact ⟨by rw [← hvR.out]; rfl, B1.out⟩
  · rw [if_neg (by decide), if_neg (by decide), if_pos rfl] at hv0
    obtain ⟨b0, off0, s0, x', ex, K0⟩ := hk0 0 (by simp)
    obtain ⟨b1, off1, s1, y', ey, K1⟩ := hk0 1 (by simp)
    obtain rfl : x = x' := by simpa using ex
    obtain rfl : y = y' := by simpa using ey
    obtain rfl := K0.at0
    obtain ⟨rfl, rfl⟩ : b0 = b1 ∧ off0 = off1 := by simpa using K1.at0
    have hlx : (tx x).length ≤ 100000 := by have h1 := tx_len x (by omega); have h4 := hpk x (by simp); omega
    have hly : (tx y).length ≤ 100000 := by have h1 := tx_len y (by omega); have h4 := hpk y (by simp); omega
    have hvR : Hid (Bt ([40] ++ tx x ++ [32, 120, 32] ++ tx y ++ [41]) = R) := by show _ = _; rw [← hR.out, hv0]; simp
    obtain ⟨X, hX, hXs⟩ : ∃ X, Hid (Bt (tx x) = X) ∧ X.size ≤ 100000 := ⟨_, (rfl : _ = _), by rw [Bt_size]; exact hlx⟩
    obtain ⟨Y, hY, hYs⟩ : ∃ Y, Hid (Bt (tx y) = Y) ∧ Y.size ≤ 100000 := ⟨_, (rfl : _ = _), by rw [Bt_size]; exact hly⟩
    obtain ⟨X1, hX1, hX1s⟩ : ∃ Z, (⟨#[40]⟩ : ByteArray) ++ X = Z ∧ Hid (Z = Bt ([40] ++ tx x)) := ⟨_, rfl, by show _ = _; rw [← hX.out, ← Bt_append]; rfl⟩
    obtain ⟨X2, hX2, hX2s⟩ : ∃ Z, X1 ++ (⟨#[32, 120, 32]⟩ : ByteArray) = Z ∧ Hid (Z = Bt ([40] ++ tx x ++ [32, 120, 32])) := ⟨_, rfl, by show _ = _; rw [hX1s.out, ← Bt_append]; rfl⟩
    obtain ⟨X3, hX3, hX3s⟩ : ∃ Z, X2 ++ Y = Z ∧ Hid (Z = Bt ([40] ++ tx x ++ [32, 120, 32] ++ tx y)) := ⟨_, rfl, by show _ = _; rw [hX2s.out, ← hY.out, Bt_append]⟩
    have hX4 : Hid (X3 ++ (⟨#[41]⟩ : ByteArray) = R) := by show _ = _; rw [hX3s.out, ← hvR.out, ← Bt_append]; rfl
    have z1 : ¬ 9223372036854775807 < 1 + X.size := by omega
    have z2 : ¬ 9223372036854775807 < X1.size + 3 := by rw [hX1s.out, Bt_size]; simp; omega
    have z3 : ¬ 9223372036854775807 < X2.size + Y.size := by rw [hX2s.out, Bt_size]; simp; omega
    have z4 : ¬ 9223372036854775807 < X3.size + 1 := by rw [hX3s.out, Bt_size]; simp; omega
    have hX4' : X3 ++ (⟨#[41]⟩ : ByteArray) = R := hX4.out
    have ihx : Hid (∀ (v : Value) (w : World), Od w x v → Calls Tryd.prog 69 #[v] w fun e w' => e = .returned (.string X) ∧ Below w.heap.size w w') := fun v w h => by
      have := ih0 x (by simp) v w h (by omega) (hpk x (by simp))
      rw [hX.out] at this; exact this
    have ihy : Hid (∀ (v : Value) (w : World), Od w y v → Calls Tryd.prog 69 #[v] w fun e w' => e = .returned (.string Y) ∧ Below w.heap.size w w') := fun v w h => by
      have := ih0 y (by simp) v w h (by omega) (hpk y (by simp))
      rw [hY.out] at this; exact this
    rw [hR.out]
    clear hv0 hk0 hl0 ih0 ho hln hpt hpk h2 h3 hvR hX hY hX1s hX2s hX3s hlx hly ex ey hXs hYs
    obtain ⟨w0, hw0⟩ : ∃ w0, Hid (w.alloc (.cells #[.int .i64 3, .int .i64 0, .slice (some ⟨b0, off0, none⟩) 2 cap] 24) = w0) := ⟨_, (rfl : _ = _)⟩
    have B0 : Hid (Below w.heap.size w w0) := by show Below _ _ _; rw [← hw0.out]; exact (Below.refl _ _).alloc (Nat.le_refl _) _
    have X0 : Hid (Bx3 w0 w.heap.size 3 0 (.slice (some ⟨b0, off0, none⟩) 2 cap)) := by show Bx3 _ _ _ _ _; rw [← hw0.out]; exact Bx3.new _ _ _ _ _
    obtain ⟨g, hg⟩ : ∃ g, Hid (w.heap.size = g) := ⟨_, (rfl : _ = _)⟩
    have M0 := K0.below B0.out
    have M1 := K1.below B0.out
    obtain ⟨a0, l0, p0, rfl⟩ := M0.slc
    obtain ⟨a1, l1, p1, rfl⟩ := M1.slc
    have M0H : Hid (Kid w0 (some ⟨b0, off0, none⟩) 0 x b0 off0 (.slice a0 l0 p0)) := M0
    have M1H : Hid (Kid w0 (some ⟨b0, off0, none⟩) 1 y b0 off0 (.slice a1 l1 p1)) := M1
    have hcell : Hid (∀ W, Below w0.heap.size w0 W → (W.cell? ⟨b0, off0, none⟩ = some (.int .i64 x.k) ∧ W.cell? ⟨b0, off0 + 1, none⟩ = some (.int .i64 x.n) ∧ W.cell? ⟨b0, off0 + 2, none⟩ = some (.slice a0 l0 p0)) ∧ (W.cell? ⟨b0, off0 + 3, none⟩ = some (.int .i64 y.k) ∧ W.cell? ⟨b0, off0 + 3 + 1, none⟩ = some (.int .i64 y.n) ∧ W.cell? ⟨b0, off0 + 3 + 2, none⟩ = some (.slice a1 l1 p1)) ∧ Od W x (.agg #[.int .i64 x.k, .int .i64 x.n, .slice a0 l0 p0]) ∧ Od W y (.agg #[.int .i64 y.k, .int .i64 y.n, .slice a1 l1 p1])) := fun W hW => by
      have N0 := M0H.out.below hW
      have N1 := M1H.out.below hW
      have e0 := N0.c0
      have e1 := N0.c1
      have e2 := N0.c2
      have f0 := N1.c0
      have f1 := N1.c1
      have f2 := N1.c2
      rw [Nat.zero_mul, Nat.add_zero] at e0 e1 e2
      rw [Nat.one_mul] at f0 f1 f2
      exact ⟨⟨e0, e1, e2⟩, ⟨f0, f1, f2⟩, N0.od, N1.od⟩
    clear M0 M1 K0 K1 M0H M1H
    generalize x.k = xk at *
    generalize x.n = xn at *
    generalize y.k = yk at *
    generalize y.n = yn at *
    go_enter Tryd.func69, Tryd.ntmps69
    go_upto_region 7 with fail
    rw [hw0.out]
    rw [hg.out] at X0 ⊢
    clear hw0
    obtain ⟨⟨d0, d1, d2⟩, ⟨e0, e1, e2⟩, _, _⟩ := hcell.out w0 (Below.refl _ _)
    have c2 := X0.out.c2
    go_region_held3 (fun Z => Z.cell? ⟨g, 2, none⟩ = some (.slice (some ⟨b0, off0, none⟩) 2 cap) ∧ Z.cell? ⟨b0, off0, none⟩ = some (.int .i64 xk) ∧ Z.cell? ⟨b0, off0 + 1, none⟩ = some (.int .i64 xn) ∧ Z.cell? ⟨b0, off0 + 2, none⟩ = some (.slice a0 l0 p0) ∧ Z.cell? ⟨b0, off0 + 3, none⟩ = some (.int .i64 yk) ∧ Z.cell? ⟨b0, off0 + 3 + 1, none⟩ = some (.int .i64 yn) ∧ Z.cell? ⟨b0, off0 + 3 + 2, none⟩ = some (.slice a1 l1 p1)) (go_keep) ((first
      | (go_at_call_of 69 (Value.int IntKind.i64 xk)
         refine (ihx.out _ _ (hcell.out _ (below_drewN (Below.refl _ _) 1)).2.2.1).mono ?_
         rintro _ w1 ⟨rfl, W1⟩
         have hW1 : Hid (Below w0.heap.size w0 w1) := (below_drewN (Below.refl _ _) 1).trans W1
         have j2 := (X0.out.below hW1.out).c2
         obtain ⟨⟨d0', d1', d2'⟩, ⟨e0', e1', e2'⟩, _, _⟩ := hcell.out w1 hW1.out
         clear W1)
      | (go_at_call_of 69 (Value.int IntKind.i64 yk)
         refine (ihy.out _ _ (hcell.out _ hW1.out).2.2.2).mono ?_
         rintro _ w2 ⟨rfl, W2⟩
         have hW2 : Hid (Below w0.heap.size w0 w2) := btr hW1.out W2
         have k2 := (X0.out.below hW2.out).c2
         obtain ⟨⟨d0'', d1'', d2''⟩, ⟨e0'', e1'', e2''⟩, _, _⟩ := hcell.out w2 hW2.out
         clear W2)
      | fail))
    all_goals
      go_wp2_with fail
      go_ret
      exact ⟨rfl, btr B0.out hW2.out⟩
  · rw [if_neg (by decide), if_neg (by decide), if_neg (by decide)] at hv0
    obtain ⟨N, rfl⟩ := Int.eq_ofNat_of_zero_le (show 0 ≤ n by omega)
    rw [Int.toNat_natCast] at hv0
    obtain ⟨b0, off0, s0, x', ex, K0⟩ := hk0 0 (by simp)
    obtain rfl : x = x' := by simpa using ex
    obtain rfl := K0.at0
    have hlx : (tx x).length ≤ 100000 := by have h1 := tx_len x (by omega); have h4 := hpk x (by simp); omega
    have hld : (decDigits N).length ≤ 10 := dd_short (by omega) (by omega)
    have hvR : Hid (Bt ([98] ++ decDigits N ++ [40] ++ tx x ++ [41]) = R) := by show _ = _; rw [← hR.out, hv0]; simp
    obtain ⟨X, hX, hXs⟩ : ∃ X, Hid (Bt (tx x) = X) ∧ X.size ≤ 100000 := ⟨_, (rfl : _ = _), by rw [Bt_size]; exact hlx⟩
    obtain ⟨Y, hY, hYs⟩ : ∃ Y, Hid (Bt (decDigits N) = Y) ∧ Y.size ≤ 10 := ⟨_, (rfl : _ = _), by rw [Bt_size]; exact hld⟩
    obtain ⟨X1, hX1, hX1s⟩ : ∃ Z, (⟨#[98]⟩ : ByteArray) ++ Y = Z ∧ Hid (Z = Bt ([98] ++ decDigits N)) := ⟨_, rfl, by show _ = _; rw [← hY.out, ← Bt_append]; rfl⟩
    obtain ⟨X2, hX2, hX2s⟩ : ∃ Z, X1 ++ (⟨#[40]⟩ : ByteArray) = Z ∧ Hid (Z = Bt ([98] ++ decDigits N ++ [40])) := ⟨_, rfl, by show _ = _; rw [hX1s.out, ← Bt_append]; rfl⟩
    obtain ⟨X3, hX3, hX3s⟩ : ∃ Z, X2 ++ X = Z ∧ Hid (Z = Bt ([98] ++ decDigits N ++ [40] ++ tx x)) := ⟨_, rfl, by show _ = _; rw [hX2s.out, ← hX.out, Bt_append]⟩
    have hX4 : X3 ++ (⟨#[41]⟩ : ByteArray) = R := by rw [hX3s.out, ← hvR.out, ← Bt_append]; rfl
    have z1 : ¬ 9223372036854775807 < 1 + Y.size := by omega
    have z2 : ¬ 9223372036854775807 < X1.size + 1 := by rw [hX1s.out, Bt_size]; simp; omega
    have z3 : ¬ 9223372036854775807 < X2.size + X.size := by rw [hX2s.out, Bt_size]; simp; omega
    have z4 : ¬ 9223372036854775807 < X3.size + 1 := by rw [hX3s.out, Bt_size]; simp; omega
    have ihx : Hid (∀ (v : Value) (w : World), Od w x v → Calls Tryd.prog 69 #[v] w fun e w' => e = .returned (.string X) ∧ Below w.heap.size w w') := fun v w h => by
      have := ih0 x (by simp) v w h (by omega) (hpk x (by simp))
      rw [hX.out] at this; exact this
    have ihd : Hid (∀ (w : World), Calls Tryd.prog 91 #[.int .i64 (N : Int)] w fun e w' => e = .returned (.string Y) ∧ Below w.heap.size w w') := fun w => by
      have := rdigits_c N w (by omega) (by omega)
      rw [hY.out] at this; exact this
    rw [hR.out]
    clear hv0 hk0 hl0 ih0 ho hln hpt hpk h2 h3 hvR hX hY hX1s hX2s hX3s hlx hld ex hXs hYs
    obtain ⟨w0, hw0⟩ : ∃ w0, Hid (w.alloc (.cells #[.int .i64 4, .int .i64 (N : Int), .slice (some ⟨b0, off0, none⟩) 1 cap] 24) = w0) := ⟨_, (rfl : _ = _)⟩
    have B0 : Hid (Below w.heap.size w w0) := by show Below _ _ _; rw [← hw0.out]; exact (Below.refl _ _).alloc (Nat.le_refl _) _
    have X0 : Hid (Bx3 w0 w.heap.size 4 (N : Int) (.slice (some ⟨b0, off0, none⟩) 1 cap)) := by show Bx3 _ _ _ _ _; rw [← hw0.out]; exact Bx3.new _ _ _ _ _
    obtain ⟨g, hg⟩ : ∃ g, Hid (w.heap.size = g) := ⟨_, (rfl : _ = _)⟩
    have M0 := K0.below B0.out
    obtain ⟨a0, l0, p0, rfl⟩ := M0.slc
    have M0H : Hid (Kid w0 (some ⟨b0, off0, none⟩) 0 x b0 off0 (.slice a0 l0 p0)) := M0
    have hcell : Hid (∀ W, Below w0.heap.size w0 W → (W.cell? ⟨b0, off0, none⟩ = some (.int .i64 x.k) ∧ W.cell? ⟨b0, off0 + 1, none⟩ = some (.int .i64 x.n) ∧ W.cell? ⟨b0, off0 + 2, none⟩ = some (.slice a0 l0 p0)) ∧ Od W x (.agg #[.int .i64 x.k, .int .i64 x.n, .slice a0 l0 p0])) := fun W hW => by
      have N0 := M0H.out.below hW
      have e0 := N0.c0
      have e1 := N0.c1
      have e2 := N0.c2
      rw [Nat.zero_mul, Nat.add_zero] at e0 e1 e2
      exact ⟨⟨e0, e1, e2⟩, N0.od⟩
    clear M0 K0 M0H
    generalize x.k = xk at *
    generalize x.n = xn at *
    go_enter Tryd.func69, Tryd.ntmps69
    go_upto_region 8 with fail
    rw [hw0.out]
    rw [hg.out] at X0 ⊢
    clear hw0
    obtain ⟨⟨d0, d1, d2⟩, _⟩ := hcell.out w0 (Below.refl _ _)
    have c1 := X0.out.c1
    have c2 := X0.out.c2
    go_region_held3 (fun Z => Z.cell? ⟨g, 1, none⟩ = some (.int .i64 (N : Int)) ∧ Z.cell? ⟨g, 2, none⟩ = some (.slice (some ⟨b0, off0, none⟩) 1 cap) ∧ Z.cell? ⟨b0, off0, none⟩ = some (.int .i64 xk) ∧ Z.cell? ⟨b0, off0 + 1, none⟩ = some (.int .i64 xn) ∧ Z.cell? ⟨b0, off0 + 2, none⟩ = some (.slice a0 l0 p0)) (go_keep) ((first
      | (go_at_call 91
         refine (ihd.out _).mono ?_
         rintro _ w1 ⟨rfl, W1⟩
         have hW1 : Hid (Below w0.heap.size w0 w1) := (below_drewN (Below.refl _ _) 1).trans W1
         have j1 := (X0.out.below hW1.out).c1
         have j2 := (X0.out.below hW1.out).c2
         obtain ⟨⟨d0', d1', d2'⟩, _⟩ := hcell.out w1 hW1.out
         clear W1)
      | (go_at_call 69
         refine (ihx.out _ _ (hcell.out _ hW1.out).2).mono ?_
         rintro _ w2 ⟨rfl, W2⟩
         have hW2 : Hid (Below w0.heap.size w0 w2) := btr hW1.out W2
         have k1 := (X0.out.below hW2.out).c1
         have k2 := (X0.out.below hW2.out).c2
         obtain ⟨⟨d0'', d1'', d2''⟩, _⟩ := hcell.out w2 hW2.out
         clear W2)
      | fail))
    all_goals
      go_wp2_with fail
      go_ret
      exact ⟨rfl, btr B0.out hW2.out⟩
/-- what Text tells -/
def txr (t : Tr) : ByteArray := if len t = 0 then ⟨#[]⟩ else Bt (tx t)
set_option maxHeartbeats 1000000 in
theorem rText_c (t : Tr) (v : Value) (w : World) (ho : Od w t v) : Calls Tryd.prog 44 #[v] w fun e w' => e = .returned (.tuple #[.string (txr t), .int .i64 (ckn t)]) ∧ Below w.heap.size w w' := by
  obtain ⟨k, n, ks⟩ := t
  obtain ⟨ao, cap, rfl, _, _⟩ := ho.kds
  obtain ⟨t, ht⟩ : ∃ t, Hid (Tr.mk k n ks = t) := ⟨_, (rfl : _ = _)⟩
  obtain ⟨L, hL⟩ : ∃ L, Hid (ks.length = L) := ⟨_, (rfl : _ = _)⟩
  rw [hL.out] at ho ⊢
  rw [ht.out] at ho ⊢
  have hoH : Hid (Od w t (.agg #[.int .i64 k, .int .i64 n, .slice ao L cap])) := ho
  clear ho
  obtain ⟨w0, hw0⟩ : ∃ w0, Hid (w.alloc (.cells #[.int .i64 k, .int .i64 n, .slice ao L cap] 24) = w0) := ⟨_, (rfl : _ = _)⟩
  have B0 : Hid (Below w.heap.size w w0) := by show Below _ _ _; rw [← hw0.out]; exact (Below.refl _ _).alloc (Nat.le_refl _) _
  have X0 : Hid (Bx3 w0 w.heap.size k n (.slice ao L cap)) := by show Bx3 _ _ _ _ _; rw [← hw0.out]; exact Bx3.new _ _ _ _ _
  obtain ⟨g, hg⟩ : ∃ g, Hid (w.heap.size = g) := ⟨_, (rfl : _ = _)⟩
  go_enter Tryd.func44, Tryd.ntmps44
  go_upto_region 1 with fail
  rw [hw0.out]
  rw [hg.out] at X0 ⊢
  clear hw0
  have c0 := X0.out.c0
  have c1 := X0.out.c1
  have c2 := X0.out.c2
  go_wp2_with fail
  refine (rCheck_c t _ w0 (Od.below B0.out _ _ hoH.out)).mono ?_
  rintro e w1 ⟨rfl, W1⟩
  have B1 : Hid (Below w.heap.size w w1) := btr B0.out W1
  have X1 : Hid (Bx3 w1 g k n (.slice ao L cap)) := X0.out.below W1
  clear c0 c1 c2 X0 W1
  have c0 := X1.out.c0
  have c1 := X1.out.c1
  have c2 := X1.out.c2
  by_cases h : len t = 0
  · have e : ckn t = 8 := by unfold ckn; rw [if_pos h]
    have hv : Hid (txr t = ⟨#[]⟩) := if_pos h
    have eH : Hid (ckn t = 8) := e
    rw [e]
    clear e h
    go_wp2_with fail
    go_ret2
    exact ⟨by rw [hv.out, eH.out]; rfl, B1.out⟩
  · have e : ckn t = 0 := by unfold ckn; rw [if_neg h]
    have hv : Hid (txr t = Bt (tx t)) := if_neg h
    have eH : Hid (ckn t = 0) := e
    have hg : pt t ≤ 4096 ∧ dp t ≤ 16 := by
      by_cases hh : pt t ≤ 4096 ∧ dp t ≤ 16
      · exact hh
      · exact absurd (by unfold len; rw [if_neg hh]) h
    have hln : Hid (0 < ln t) := by
      show _ < _
      unfold len at h
      rw [if_pos hg] at h
      omega
    have hpt : Hid (pt t ≤ 4500) := by show _ ≤ _; omega
    rw [e]
    clear e h hg
    go_wp2_with fail
    refine (rtext_c t _ w1 (Od.below B1.out _ _ hoH.out) hln.out hpt.out).mono ?_
    rintro e w2 ⟨rfl, W2⟩
    have B2 : Hid (Below w.heap.size w w2) := btr B1.out W2
    go_wp2_with fail
    go_ret2
    exact ⟨by rw [hv.out, eH.out]; rfl, B2.out⟩
end Go.Proofs.YtoaccmblaifnmaaDoor
namespace Go.Proofs.YtoaccmblaifnmaaDoor
open Flo Go.RowKit Go.Shelf Tr
/-- ErrRange, ErrLength, ErrLimit, ErrOrder of a world -/
structure E14 (w : World) (aR aN aL aO : Addr) : Prop where
  cR : w.cell? ⟨2, 0, none⟩ = some (ev aR)
  cN : w.cell? ⟨4, 0, none⟩ = some (ev aN)
  cL : w.cell? ⟨1, 0, none⟩ = some (ev aL)
  cO : w.cell? ⟨0, 0, none⟩ = some (ev aO)
theorem E14.below {w w' : World} {aR aN aL aO : Addr} (h : E14 w aR aN aL aO) (hb : Below w.heap.size w w') : E14 w' aR aN aL aO :=
  ⟨(hb.cell (p := ⟨2, 0, none⟩) (cell_lt h.cR)).trans h.cR, (hb.cell (p := ⟨4, 0, none⟩) (cell_lt h.cN)).trans h.cN, (hb.cell (p := ⟨1, 0, none⟩) (cell_lt h.cL)).trans h.cL, (hb.cell (p := ⟨0, 0, none⟩) (cell_lt h.cO)).trans h.cO⟩
def mapO {β : Type} (g : Tr → Option β) : List Tr → Option (List β)
  | [] => some []
  | t :: ts => match g t, mapO g ts with
    | some x, some xs => some (x :: xs)
    | _, _ => none
theorem mapO_eq {β : Type} {g : Tr → Option β} {h : Tr → β} : ∀ (l : List Tr) (r : List β), mapO g l = some r → (∀ t x, g t = some x → h t = x) → l.map h = r
  | [], r, e, _ => by cases e; rfl
  | t :: ts, r, e, hg => by
    unfold mapO at e
    split at e
    · rename_i x xs e1 e2
      injection e with e; subst e
      rw [List.map_cons, hg t x e1, mapO_eq ts xs e2 hg]
    · cases e
/-- what is reckoned by an order's parts, as far as n levels reach -/
def evO {β : Type} (f : Int → Int → List β → β) : Nat → Tr → Option β
  | 0, _ => none
  | m + 1, t => match mapO (evO f m) t.ks with
    | some l => some (f t.k t.n l)
    | none => none
theorem evO_eq {β : Type} {f : Int → Int → List β → β} {F : Tr → β} (hF : ∀ k n ks, F ⟨k, n, ks⟩ = f k n (ks.map F)) : ∀ (m : Nat) (t : Tr) (x : β), evO f m t = some x → F t = x
  | 0, _, _, h => by cases h
  | m + 1, ⟨k, n, ks⟩, x, h => by
    unfold evO at h
    split at h
    · rename_i l e
      injection h with h; subst h
      rw [hF, mapO_eq ks l e fun t y hy => evO_eq hF m t y hy]
    · cases h
/-- the first cheapest, as far as it can be reckoned so -/
def pkO (x : Option (Tr × Nat)) (t : Tr) : Option (Tr × Nat) := match x, evO Pl.mc 8 t with
  | some x, some m => some (if Pl.tm m.2.2 < x.2 then (t, Pl.tm m.2.2) else x)
  | _, _ => none
theorem pkO_none : ∀ (l : List Tr), l.foldl pkO none = none
  | [] => rfl
  | t :: l => by rw [List.foldl_cons]; exact pkO_none l
theorem pkO_eq : ∀ (l : List Tr) (x r : Tr × Nat), l.foldl pkO (some x) = some r → l.foldl Pl.pk x = r
  | [], x, r, h => by injection h
  | t :: l, x, r, h => by
    rw [List.foldl_cons] at h ⊢
    cases e : evO Pl.mc 8 t with
    | none =>
      have : pkO (some x) t = none := by unfold pkO; rw [e]
      rw [this, pkO_none] at h; cases h
    | some m =>
      have h1 : pkO (some x) t = some (Pl.pk x t) := by
        have hm := evO_eq Pl.ms_eq 8 t m e
        unfold pkO Pl.pk Pl.tcs Pl.cs
        rw [e, hm]
      rw [h1] at h
      exact pkO_eq l _ r h
theorem pks_of {l : List Tr} {t : Tr} {c : Nat} (h : l.foldl pkO (some (⟨0, 0, []⟩, 9223372036854775807)) = some (t, c)) : (Pl.pks l).1 = t := by
  unfold Pl.pks
  rw [pkO_eq l _ _ h]
/-- (f3 x f4) -/
def o34 : Tr := ⟨3, 0, [⟨2, 3, []⟩, ⟨2, 4, []⟩]⟩
theorem u2 : Pl.ch 16 [2, 3, 4, 5] 13 2 = ⟨2, 2, []⟩ := by
  rw [Pl.ch_eq (by decide) ⟨by decide, by decide, by decide +kernel⟩]
  exact pks_of (c := 4) (by kernel_rfl)
theorem u3 : Pl.ch 16 [2, 3, 4, 5] 13 3 = ⟨2, 3, []⟩ := by
  rw [Pl.ch_eq (by decide) ⟨by decide, by decide, by decide +kernel⟩]
  exact pks_of (c := 16) (by kernel_rfl)
theorem u4 : Pl.ch 16 [2, 3, 4, 5] 13 4 = ⟨2, 4, []⟩ := by
  rw [Pl.ch_eq (by decide) ⟨by decide, by decide, by decide +kernel⟩, show Pl.cnd 16 [2, 3, 4, 5] (fun m => [Pl.ch 16 [2, 3, 4, 5] 13 m]) (Pl.blu 13 (Pl.ch 16 [2, 3, 4, 5] 13) 4) 4 = [⟨1, 4, []⟩, ⟨2, 4, []⟩, ⟨3, 0, [⟨1, 2, []⟩, Pl.ch 16 [2, 3, 4, 5] 13 2]⟩, ⟨3, 0, [⟨2, 2, []⟩, Pl.ch 16 [2, 3, 4, 5] 13 2]⟩] from by kernel_rfl, u2]
  exact pks_of (c := 16) (by kernel_rfl)
theorem u6 : Pl.ch 16 [2, 3, 4, 5] 13 6 = ⟨3, 0, [⟨2, 2, []⟩, ⟨2, 3, []⟩]⟩ := by
  rw [Pl.ch_eq (by decide) ⟨by decide, by decide, by decide +kernel⟩, show Pl.cnd 16 [2, 3, 4, 5] (fun m => [Pl.ch 16 [2, 3, 4, 5] 13 m]) (Pl.blu 13 (Pl.ch 16 [2, 3, 4, 5] 13) 6) 6 = [⟨1, 6, []⟩, ⟨3, 0, [⟨1, 2, []⟩, Pl.ch 16 [2, 3, 4, 5] 13 3]⟩, ⟨3, 0, [⟨2, 2, []⟩, Pl.ch 16 [2, 3, 4, 5] 13 3]⟩, ⟨3, 0, [⟨1, 3, []⟩, Pl.ch 16 [2, 3, 4, 5] 13 2]⟩, ⟨3, 0, [⟨2, 3, []⟩, Pl.ch 16 [2, 3, 4, 5] 13 2]⟩] from by kernel_rfl, u2, u3]
  exact pks_of (c := 56) (by kernel_rfl)
theorem ch12 : Pl.ch 16 [2, 3, 4, 5] 13 12 = o34 := by
  rw [Pl.ch_eq (by decide) ⟨by decide, by decide, by decide +kernel⟩, show Pl.cnd 16 [2, 3, 4, 5] (fun m => [Pl.ch 16 [2, 3, 4, 5] 13 m]) (Pl.blu 13 (Pl.ch 16 [2, 3, 4, 5] 13) 12) 12 = [⟨1, 12, []⟩, ⟨3, 0, [⟨1, 2, []⟩, Pl.ch 16 [2, 3, 4, 5] 13 6]⟩, ⟨3, 0, [⟨2, 2, []⟩, Pl.ch 16 [2, 3, 4, 5] 13 6]⟩, ⟨3, 0, [⟨1, 3, []⟩, Pl.ch 16 [2, 3, 4, 5] 13 4]⟩, ⟨3, 0, [⟨2, 3, []⟩, Pl.ch 16 [2, 3, 4, 5] 13 4]⟩, ⟨3, 0, [⟨1, 4, []⟩, Pl.ch 16 [2, 3, 4, 5] 13 3]⟩, ⟨3, 0, [⟨2, 4, []⟩, Pl.ch 16 [2, 3, 4, 5] 13 3]⟩, ⟨3, 0, [⟨1, 6, []⟩, Pl.ch 16 [2, 3, 4, 5] 13 2]⟩] from by kernel_rfl, u2, u3, u4, u6]
  exact pks_of (c := 148) (by kernel_rfl)
theorem gd_usual : gdP 16 13 [2, 3, 4, 5] = true := by decide +kernel
theorem len34 : len o34 = 12 := by
  unfold len
  rw [evO_eq (F := pt) (f := fun _ _ l => 1 + l.sum) pt_eq 3 o34 3 (by kernel_rfl), evO_eq (F := Tr.dp) (f := fun _ _ l => 1 + l.foldl max 0) dp_eq 3 o34 2 (by kernel_rfl), evO_eq (F := ln) ln_eq 3 o34 12 (by kernel_rfl)]
  rfl
theorem txr34 : txr o34 = ⟨#[40, 102, 51, 32, 120, 32, 102, 52, 41]⟩ := by
  unfold txr
  rw [if_neg (by rw [len34]; decide), evO_eq (F := tx) tx_eq 3 o34 [40, 102, 51, 32, 120, 32, 102, 52, 41] (by kernel_rfl)]
  rfl
theorem ckn34 : ckn o34 = 0 := by unfold ckn; rw [if_neg (by rw [len34]; decide)]
theorem tcs34 : Pl.tcs o34 = 148 := by
  unfold Pl.tcs Pl.cs
  rw [evO_eq (F := Pl.ms) Pl.ms_eq 3 o34 (3, 12, 148) (by kernel_rfl)]
  rfl
theorem coV34 : coV o34 = 148 := by unfold coV; rw [if_neg (by rw [len34]; decide), tcs34, if_neg (by decide)]
theorem coE34 (aL aO : Addr) : coE aL aO o34 = .nilIface := by unfold coE; rw [if_neg (by rw [len34]; decide), tcs34, if_neg (by decide)]
theorem check_usual {w : World} {b : Nat} (h : w.heap[b]? = some (.cells #[.int .i64 2, .int .i64 3, .int .i64 4, .int .i64 5] 3 (0, 0))) (aR : Addr) (hR : w.cell? ⟨2, 0, none⟩ = some (ev aR)) : Calls Tryd.prog 25 #[.agg #[.int .i64 16, .slice (some ⟨b, 0, none⟩) 4 4, .int .i64 13]] w fun e w' => e = .returned .nilIface ∧ Below w.heap.size w w' :=
  (pcheck_c (D := 16) (p := 13) _ w aR (usual_fl h) hR (by decide)).mono fun e w' h => by rw [gd_usual] at h; exact h
theorem check_zero (w : World) (aR : Addr) (hR : w.cell? ⟨2, 0, none⟩ = some (ev aR)) : Calls Tryd.prog 25 #[.agg #[.int .i64 0, .slice none 0 0, .int .i64 0]] w fun e w' => e = .returned (ev aR) ∧ Below w.heap.size w w' :=
  (pcheck_c (D := 0) (p := 0) (F := []) (V := fun _ => False) _ w aR ⟨none, 0, rfl, fun i hi => by cases hi⟩ hR (by decide)).mono fun e w' h => by rw [show gdP 0 0 [] = false from by decide] at h; exact h
end Go.Proofs.YtoaccmblaifnmaaDoor
