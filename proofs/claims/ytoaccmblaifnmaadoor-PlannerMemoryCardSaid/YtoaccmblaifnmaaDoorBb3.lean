/-
  What PlannerLists and its fellows rest on, joined: Pnq Iln Own5 Rg6.
-/
import Derived.WalkKit
import Ieee.Arith
import Derived.WalkLawsBesides
import Derived.Laws.FloatArith
import Derived.Test.YtoaccmblaifnmaaDoorProg
import Derived.RegionTactic
import Derived.Outline
import Derived.Lib.Mul64
import Derived.Laws.Bits64b
import Derived.Deep.QuietTactic
import Derived.BigQuiet
import Derived.WalkSmall
import Derived.Deep.CutBlock
import Derived.Deep.DeepCutAuto
import Derived.Laws.Rows
import Derived.Lib.ItoaNum
import Derived.Laws.IdiomStrings
import Derived.Deep.RegionHeld3
import Derived.Lib.SmallJoins
import Derived.Lib.HexFns
import Derived.Test.YtoaccmblaifnmaaDoorRows
import Derived.LaidEql
import Derived.LaidLaws
import Derived.LaidHandle
import Derived.Stop.Joined
import Derived.Deep.RegionWith
import Derived.Recover
import Derived.RegionDies
import Derived.Laws.CopyOwn
import Derived.Lib.AppendIntMem
import Derived.Deep.RegionHeldLaw
import Derived.Maps.AppendAt
import Derived.Laws.OwnMore
import Derived.RangeFuncNested
import Derived.RangeFuncBound
import Derived.RangeFuncCalls
import Derived.RangeFuncLeaves
import Derived.RangeFuncBox
import Derived.Shelf.Abstract
import Derived.Shelf.RegionOpen
import Derived.OwnWalkIn
import Derived.TacticsInMore
import Derived.LoopNIn
import Derived.LoopIn
import Derived.Test.YtoaccmblaifnmaaDoorBb2
import Derived.Test.YtoaccmblaifnmaaDoorBa5
import Derived.Test.YtoaccmblaifnmaaDoorBa1
import Derived.Test.YtoaccmblaifnmaaDoorBa4
namespace Go.Proofs.YtoaccmblaifnmaaDoor
open Flo Go.RowKit Tr
open Pl (tm)
set_option maxHeartbeats 2000000 in
set_option maxRecDepth 100000 in
theorem dwork_c (n : Nat) (h1 : 2 ≤ n) (h2 : n ≤ 5) (w : World) : Calls Tryd.prog 101 #[.int .i64 (n : Int)] w fun e w' => (∃ x y : Nat, e = .returned (.tuple #[.int .i64 (x : Int), .int .i64 (y : Int)]) ∧ x + y = Pl.wk n ∧ x ≤ 32 ∧ y ≤ 16) ∧ Below w.heap.size w w' := by
  obtain ⟨wa, ewa⟩ : ∃ wa, Hid (w.alloc (.cells #[.int .i64 0, .int .i64 0, .int .i64 4, .int .i64 12, .int .i64 16, .int .i64 32] 3) = wa) := ⟨_, (rfl : _ = _)⟩
  obtain ⟨wb, ewb⟩ : ∃ wb, Hid (wa.alloc (.cells #[.int .i64 0, .int .i64 0, .int .i64 0, .int .i64 4, .int .i64 0, .int .i64 16] 3) = wb) := ⟨_, (rfl : _ = _)⟩
  obtain ⟨g, hg⟩ : ∃ g, Hid (w.heap.size = g) := ⟨_, (rfl : _ = _)⟩
  have sa : wa.heap.size = g + 1 := by rw [← ewa.out, ← hg.out]; simp
  have Ba : Below w.heap.size w wa := by rw [← ewa.out]; exact (Below.refl _ _).alloc (Nat.le_refl _) _
  have Bab : Below wa.heap.size wa wb := by rw [← ewb.out]; exact (Below.refl _ _).alloc (Nat.le_refl _) _
  have BH : Hid (Below w.heap.size w wb) := btr Ba Bab
  have r1 : wa.heap[g]? = some (.cells #[.int .i64 0, .int .i64 0, .int .i64 4, .int .i64 12, .int .i64 16, .int .i64 32] 3 (0, 0)) := by rw [← ewa.out, ← hg.out]; exact heap_alloc_new _ _
  have r1b : wb.heap[g]? = some (.cells #[.int .i64 0, .int .i64 0, .int .i64 4, .int .i64 12, .int .i64 16, .int .i64 32] 3 (0, 0)) := (Bab.block g (blk_lt r1)).trans r1
  have r2b : wb.heap[g + 1]? = some (.cells #[.int .i64 0, .int .i64 0, .int .i64 0, .int .i64 4, .int .i64 0, .int .i64 16] 3 (0, 0)) := by rw [← ewb.out, ← sa]; exact heap_alloc_new _ _
  have hc : n = 2 ∨ n = 3 ∨ n = 4 ∨ n = 5 := by omega
  have q1 : Hid (∀ i, wb.cell? ⟨g, i, none⟩ = #[Value.int .i64 0, .int .i64 0, .int .i64 4, .int .i64 12, .int .i64 16, .int .i64 32][i]?) := Joins.cell_of_block r1b
  have q2 : Hid (∀ i, wb.cell? ⟨g + 1, i, none⟩ = #[Value.int .i64 0, .int .i64 0, .int .i64 0, .int .i64 4, .int .i64 0, .int .i64 16][i]?) := Joins.cell_of_block r2b
  clear Ba Bab r1 r1b r2b sa
  rcases hc with rfl | rfl | rfl | rfl
  · have a1 := q1.out 2
    rw [show ((2 : Nat) : Int) = 2 from rfl]
    have a2 := q2.out 2
    go_enter Tryd.func101, Tryd.ntmps101
    go_upto_region 3 with fail
    rw [ewa.out, ewb.out, hg.out]
    go_wp2_with fail
    go_quiet (fail)
    go_wp2_with fail
    go_ret2
    exact ⟨⟨4, 0, rfl, rfl, by decide, by decide⟩, below_drewN BH.out _⟩
  · have a1 := q1.out 3
    rw [show ((3 : Nat) : Int) = 3 from rfl]
    have a2 := q2.out 3
    go_enter Tryd.func101, Tryd.ntmps101
    go_upto_region 3 with fail
    rw [ewa.out, ewb.out, hg.out]
    go_wp2_with fail
    go_quiet (fail)
    go_wp2_with fail
    go_ret2
    exact ⟨⟨12, 4, rfl, rfl, by decide, by decide⟩, below_drewN BH.out _⟩
  · have a1 := q1.out 4
    rw [show ((4 : Nat) : Int) = 4 from rfl]
    have a2 := q2.out 4
    go_enter Tryd.func101, Tryd.ntmps101
    go_upto_region 3 with fail
    rw [ewa.out, ewb.out, hg.out]
    go_wp2_with fail
    go_quiet (fail)
    go_wp2_with fail
    go_ret2
    exact ⟨⟨16, 0, rfl, rfl, by decide, by decide⟩, below_drewN BH.out _⟩
  · have a1 := q1.out 5
    rw [show ((5 : Nat) : Int) = 5 from rfl]
    have a2 := q2.out 5
    go_enter Tryd.func101, Tryd.ntmps101
    go_upto_region 3 with fail
    rw [ewa.out, ewb.out, hg.out]
    go_wp2_with fail
    go_quiet (fail)
    go_wp2_with fail
    go_ret2
    exact ⟨⟨32, 16, rfl, rfl, by decide, by decide⟩, below_drewN BH.out _⟩
set_option maxHeartbeats 4000000 in
set_option maxRecDepth 100000 in
theorem dcost_c (t : Tr) : ∀ (v : Value) (w : World), Od w t v → 0 < ln t → Calls Tryd.prog 73 #[v] w fun e w' => e = .returned (.tuple #[.int .i64 (Pl.tcs t : Int), .int .i64 (ln t : Int)]) ∧ Below w.heap.size w w' := by
  refine Tr.ind (P := fun t => ∀ (v : Value) (w : World), Od w t v → 0 < ln t → Calls Tryd.prog 73 #[v] w fun e w' => e = .returned (.tuple #[.int .i64 (Pl.tcs t : Int), .int .i64 (ln t : Int)]) ∧ Below w.heap.size w w') (fun k n ks ih0 v w ho hln => ?_) t
  have hll : Hid (ln ⟨k, n, ks⟩ ≤ 16384) := ln_le _
  obtain ⟨ao, cap, rfl, hl0, hk0⟩ := ho.kds
  obtain ⟨L, hL⟩ : ∃ L, Hid (ks.length = L) := ⟨_, (rfl : _ = _)⟩
  have hk : Hid (Kds w ao L ks) := by show Kds _ _ _ _; rw [← hL.out]; exact hk0
  rw [hL.out]
  obtain ⟨wa, ewa⟩ : ∃ wa, Hid (w.alloc (.cells #[.int .i64 k, .int .i64 n, .slice ao L cap] 24) = wa) := ⟨_, (rfl : _ = _)⟩
  have Ba : Below w.heap.size w wa := by rw [← ewa.out]; exact (Below.refl _ _).alloc (Nat.le_refl _) _
  obtain ⟨g, hg⟩ : ∃ g, Hid (w.heap.size = g) := ⟨_, (rfl : _ = _)⟩
  have Xa : Hid (Bo wa g k n (.slice ao L cap)) := by show Bo _ _ _ _ _; rw [← ewa.out, ← hg.out]; exact Bo.new _ _ _ _
  have BaH : Hid (Below w.heap.size w wa) := Ba
  obtain ⟨R, hR⟩ : ∃ R, Hid (ln ⟨k, n, ks⟩ = R) := ⟨_, (rfl : _ = _)⟩
  obtain ⟨Cc, hCc⟩ : ∃ C, Hid (Pl.tcs ⟨k, n, ks⟩ = C) := ⟨_, (rfl : _ = _)⟩
  have hinv := ln_inv hln
  rw [hR.out, hCc.out]
  rw [hR.out] at hinv
  have ih : Hid (∀ t ∈ ks, ∀ (v : Value) (w : World), Od w t v → 0 < ln t → Calls Tryd.prog 73 #[v] w fun e w' => e = .returned (.tuple #[.int .i64 (Pl.tcs t : Int), .int .i64 (ln t : Int)]) ∧ Below w.heap.size w w') := ih0
  clear hk0 hl0 ih0 ho Ba hln
  have x0 := Xa.out.c0
  have x1 := Xa.out.c1
  have x2 := Xa.out.c2
  rcases hinv with ⟨rfl, hn, rfl⟩ | ⟨rfl, hn, rfl⟩ | ⟨rfl, rfl, x, y, rfl, hx2, hy2, hxy⟩ | ⟨rfl, hn, x, rfl, hxl⟩
  · obtain ⟨m, rfl⟩ : ∃ m : Nat, n = (m : Int) := ⟨n.toNat, by omega⟩
    obtain ⟨m8, hm8⟩ : ∃ m8 : Nat, 8 * (m : Int) = (m8 : Int) := ⟨8 * m, by omega⟩
    have eR : R = m := by
      rw [← hR.out, ln_eq]; unfold lnc; rw [if_pos rfl, if_pos ⟨hn.1, hn.2, rfl⟩]; simp
    have eC : (m8 : Int) * (m : Int) = (Cc : Int) := by
      rw [castMul, ← hCc.out]
      unfold Pl.tcs tm
      rw [cs_d, Int.toNat_natCast]
      have e8 : m8 = 8 * m := by omega
      have hb : m8 * m ≤ 512 * 64 := Nat.mul_le_mul (by omega) (by omega)
      rw [← e8]
      omega
    have hC2 : Cc ≤ 100000 := by
      have hb : m8 * m ≤ 512 * 64 := Nat.mul_le_mul (by omega) (by omega)
      rw [castMul] at eC
      omega
    subst eR
    have hm1 : R ≤ 64 := by omega
    have hm2 : m8 ≤ 512 := by omega
    have wq1 : IntKind.i64.wrap (m8 : Int) = (m8 : Int) := by rw [IntKind.wrap_i64]; omega
    have wq2 : IntKind.i64.wrap (Cc : Int) = (Cc : Int) := by rw [IntKind.wrap_i64]; omega
    clear hn hk hL ih hR hCc hll
    go_enter Tryd.func73, Tryd.ntmps73
    go_upto_region 1 with fail
    rw [ewa.out, hg.out]
    go_wp2_with fail
    go_ret2
    exact ⟨rfl, BaH.out⟩
  · obtain ⟨m, rfl⟩ : ∃ m : Nat, n = (m : Int) := ⟨n.toNat, by omega⟩
    have eR : R = m := by
      rw [← hR.out, ln_eq]; unfold lnc; rw [if_neg (by decide), if_pos rfl, if_pos ⟨hn.1, hn.2, rfl⟩]; simp
    have eC : Hid (Cc = Pl.wk m) := by
      show _ = _
      rw [← hCc.out]
      unfold Pl.tcs tm
      rw [cs_f]
      unfold Pl.wk
      repeat' split
      all_goals decide
    subst eR
    have hw := dwork_c R (by omega) (by omega) wa
    have hm1 : R ≤ 5 := by omega
    clear hn hk hL ih hR hCc hll
    go_enter Tryd.func73, Tryd.ntmps73
    go_upto_region 1 with fail
    rw [ewa.out, hg.out]
    go_wp2_with fail
    refine hw.mono ?_
    rintro e w' ⟨⟨a, b, rfl, hab, ha, hb⟩, B⟩
    have hB : Hid (Below w.heap.size w w') := btr BaH.out B
    have e1 : (a : Int) + (b : Int) = (Cc : Int) := by have := eC.out; omega
    clear hw hab B
    go_wp2_with fail
    go_ret2
    exact ⟨rfl, hB.out⟩
  · obtain ⟨A, hA⟩ : ∃ A, Hid (ln x = A) := ⟨_, (rfl : _ = _)⟩
    obtain ⟨B, hB⟩ : ∃ B, Hid (ln y = B) := ⟨_, (rfl : _ = _)⟩
    obtain ⟨cx, hcx⟩ : ∃ c, Hid (Pl.tcs x = c) := ⟨_, (rfl : _ = _)⟩
    obtain ⟨cy, hcy⟩ : ∃ c, Hid (Pl.tcs y = c) := ⟨_, (rfl : _ = _)⟩
    have ihx : Hid (∀ (v : Value) (w : World), Od w x v → Calls Tryd.prog 73 #[v] w fun e w' => e = .returned (.tuple #[.int .i64 (cx : Int), .int .i64 (A : Int)]) ∧ Below w.heap.size w w') := fun v w h => by
      have := ih.out x (by simp) v w h (by omega)
      rw [hA.out, hcx.out] at this; exact this
    have ihy : Hid (∀ (v : Value) (w : World), Od w y v → Calls Tryd.prog 73 #[v] w fun e w' => e = .returned (.tuple #[.int .i64 (cy : Int), .int .i64 (B : Int)]) ∧ Below w.heap.size w w') := fun v w h => by
      have := ih.out y (by simp) v w h (by omega)
      rw [hB.out, hcy.out] at this; exact this
    have hab : A * B ≤ 16384 := by
      have := hll.out
      rw [hR.out, ← hxy, hA.out, hB.out] at this
      exact this
    have eC : Hid (prc A B cx cy (x.k == 2) = Cc) := by
      show _ = _
      rw [← hCc.out, ← hcx.out, ← hcy.out]
      unfold Pl.tcs
      rw [prc_tm A B _ _ _ (by rw [← hA.out]; omega) (by rw [← hB.out]; omega), cs_two, Pl.ms_ln x (by omega), Pl.ms_ln y (by omega), hA.out, hB.out]
      by_cases hxk : x.k = 2
      · rw [if_pos hxk]; simp [hxk]
      · rw [if_neg hxk]; simp [hxk]
    have eR : Hid ((A : Int) * (B : Int) = (R : Int)) := by show _ = _; rw [castMul, ← hxy, hA.out, hB.out]
    have hprH : Hid (∀ w, Calls Tryd.prog 74 #[.int .i64 x.k, .int .i64 (cx : Int), .int .i64 (A : Int), .int .i64 (cy : Int), .int .i64 (B : Int)] w fun e w' => e = .returned (.int .i64 (Cc : Int)) ∧ w' = w) := fun w => by
      have := dtimes_c x.k A B cx cy (by rw [← hA.out]; exact hx2) (by rw [← hB.out]; exact hy2) hab w
      rw [eC.out] at this
      exact this
    obtain rfl : L = 2 := by rw [← hL.out]; rfl
    obtain ⟨b0, off0, s0, x', ex, K0⟩ := hk.out 0 (by decide)
    obtain ⟨b1, off1, s1, y', ey, K1⟩ := hk.out 1 (by decide)
    have e0 := K0.at0
    have e1 := K1.at0
    rw [e0] at e1
    obtain rfl : x = x' := by simpa using ex
    obtain rfl : y = y' := by simpa using ey
    obtain rfl := e0
    obtain ⟨rfl, rfl⟩ : b0 = b1 ∧ off0 = off1 := by simpa using e1
    obtain ⟨a0, l0, p0, rfl⟩ := K0.slc
    obtain ⟨a1, l1, p1, rfl⟩ := K1.slc
    have odx : Hid (Od w x (.agg #[.int .i64 x.k, .int .i64 x.n, .slice a0 l0 p0])) := K0.od
    have ody : Hid (Od w y (.agg #[.int .i64 y.k, .int .i64 y.n, .slice a1 l1 p1])) := K1.od
    have hS : Hid (∀ Z, Below wa.heap.size wa Z → (Z.cell? ⟨g, 2, none⟩ = some (.slice (some ⟨b0, off0, none⟩) 2 cap) ∧ Z.cell? ⟨b0, off0, none⟩ = some (.int .i64 x.k) ∧ Z.cell? ⟨b0, off0 + 1, none⟩ = some (.int .i64 x.n) ∧ Z.cell? ⟨b0, off0 + 2, none⟩ = some (.slice a0 l0 p0) ∧ Z.cell? ⟨b0, off0 + 3, none⟩ = some (.int .i64 y.k) ∧ Z.cell? ⟨b0, off0 + 3 + 1, none⟩ = some (.int .i64 y.n) ∧ Z.cell? ⟨b0, off0 + 3 + 2, none⟩ = some (.slice a1 l1 p1))) := fun Z hZ => by
      have k0 := K0.below (btr BaH.out hZ)
      have k1 := K1.below (btr BaH.out hZ)
      have c0 := k0.c0
      have c1 := k0.c1
      have c2 := k0.c2
      have d0 := k1.c0
      have d1 := k1.c1
      have d2 := k1.c2
      rw [Nat.zero_mul, Nat.add_zero] at c0 c1 c2
      rw [Nat.one_mul] at d0 d1 d2
      exact ⟨(Xa.out.bel hZ).c2, c0, c1, c2, d0, d1, d2⟩
    obtain ⟨xk, hxk⟩ : ∃ xk, Hid (x.k = xk) := ⟨_, (rfl : _ = _)⟩
    obtain ⟨xn, hxn⟩ : ∃ xn, Hid (x.n = xn) := ⟨_, (rfl : _ = _)⟩
    obtain ⟨yk, hyk⟩ : ∃ yk, Hid (y.k = yk) := ⟨_, (rfl : _ = _)⟩
    obtain ⟨yn, hyn⟩ : ∃ yn, Hid (y.n = yn) := ⟨_, (rfl : _ = _)⟩
    rw [hxk.out, hxn.out] at odx hS
    rw [hxk.out] at hprH
    rw [hyk.out, hyn.out] at ody hS
    have hRb : R ≤ 16384 := by have := hll.out; rw [hR.out] at this; exact this
    have wq1 : IntKind.i64.wrap (R : Int) = (R : Int) := by rw [IntKind.wrap_i64]; omega
    clear hk hL ih hR hCc hll hA hB hcx hcy hab eC ex ey e1 K0 K1 hxy hx2 hy2 x2
    obtain ⟨s0, s1, s2, s3, s4, s5, s6⟩ := hS.out wa (Below.refl _ _)
    go_enter Tryd.func73, Tryd.ntmps73
    go_upto_region 1 with fail
    rw [ewa.out, hg.out]
    go_wp2_with fail
    refine (ihx.out _ _ (Od.below BaH.out _ _ odx.out)).mono ?_
    rintro e w1 ⟨rfl, B1⟩
    have hb1 : Hid (Below wa.heap.size wa w1) := B1
    clear B1 s0 s1 s2 s3 s4 s5 s6 x0 x1
    obtain ⟨s0, s1, s2, s3, s4, s5, s6⟩ := hS.out w1 hb1.out
    go_wp2_with fail
    refine (ihy.out _ _ (Od.below (btr BaH.out hb1.out) _ _ ody.out)).mono ?_
    rintro e w2 ⟨rfl, B2⟩
    have hb2 : Hid (Below wa.heap.size wa w2) := btr hb1.out B2
    clear B2 s0 s1 s2 s3 s4 s5 s6
    obtain ⟨s0, s1, s2, s3, s4, s5, s6⟩ := hS.out w2 hb2.out
    go_wp2_with fail
    refine (hprH.out _).mono ?_
    rintro e w3 ⟨rfl, rfl⟩
    have eR1 := eR.out
    go_wp2_with fail
    go_ret2
    exact ⟨rfl, btr BaH.out hb2.out⟩
  · obtain ⟨m, rfl⟩ : ∃ m : Nat, n = (m : Int) := ⟨n.toNat, by omega⟩
    obtain ⟨A, hA⟩ : ∃ A, Hid (ln x = A) := ⟨_, (rfl : _ = _)⟩
    have hA2 : A ≤ 16384 := by rw [← hA.out]; exact ln_le _
    have hA0 : 0 < A := by rw [← hA.out]; omega
    obtain ⟨cx, hcx⟩ : ∃ c, Hid (Pl.tcs x = c) := ⟨_, (rfl : _ = _)⟩
    have ihx : Hid (∀ (v : Value) (w : World), Od w x v → Calls Tryd.prog 73 #[v] w fun e w' => e = .returned (.tuple #[.int .i64 (cx : Int), .int .i64 (A : Int)]) ∧ Below w.heap.size w w') := fun v w h => by
      have := ih.out x (by simp) v w h (by rw [hA.out]; exact hA0)
      rw [hA.out, hcx.out] at this; exact this
    have eR : R = m := by
      rw [← hR.out, ln_eq]; unfold lnc; rw [if_neg (by decide), if_neg (by decide), if_neg (by decide), if_pos rfl, if_pos hn]
      simp only [List.map_cons, List.map_nil]
      unfold Tr.blu
      dsimp only
      rw [if_pos hxl]; simp
    obtain ⟨t3, ht3⟩ : ∃ t3, tm (3 * cx) = t3 := ⟨_, rfl⟩
    obtain ⟨m12, hm12⟩ : ∃ z : Nat, 12 * (R : Int) = (z : Int) := ⟨12 * R, by omega⟩
    obtain ⟨a10, ha10⟩ : ∃ z : Nat, 10 * (A : Int) = (z : Int) := ⟨10 * A, by omega⟩
    obtain ⟨sm, hsm⟩ : ∃ z : Nat, (m12 : Int) + (a10 : Int) = (z : Int) := ⟨m12 + a10, by omega⟩
    have eC : tm (t3 + sm) = Cc := by
      rw [← hCc.out]
      unfold Pl.tcs
      rw [cs_one, Int.toNat_natCast, Pl.ms_ln x (by rw [hA.out]; exact hA0), hA.out, ← ht3, ← hcx.out]
      unfold Pl.tcs
      have e1 : sm = 12 * m + 10 * A := by omega
      rw [e1]
      generalize Pl.cs x = c
      generalize 12 * m + 10 * A = d
      unfold tm
      omega
    subst eR
    have hmb : R ≤ 8192 := by omega
    have k1 : Hid (∀ w, Calls Tryd.prog 103 #[.int .i64 (cx : Int), .int .i64 3] w fun e w' => e = .returned (.int .i64 (t3 : Int)) ∧ w' = w) := fun w => by
      have := dproduct_c 3 cx t3 (by decide) (by decide) ht3.symm w
      rw [show ((3 : Nat) : Int) = 3 from rfl] at this
      exact this
    have k2 : Hid (∀ w, Calls Tryd.prog 102 #[.int .i64 (t3 : Int), .int .i64 (sm : Int)] w fun e w' => e = .returned (.int .i64 (Cc : Int)) ∧ w' = w) := fun w => dsum_c t3 sm Cc (by rw [← ht3]; exact tm_le _) (by omega) eC.symm w
    obtain rfl : L = 1 := by rw [← hL.out]; rfl
    obtain ⟨b0, off0, s0, x', ex, K0⟩ := hk.out 0 (by decide)
    have e0 := K0.at0
    obtain rfl : x = x' := by simpa using ex
    obtain rfl := e0
    obtain ⟨a0, l0, p0, rfl⟩ := K0.slc
    have K0b := K0.below BaH.out
    have odx : Hid (Od wa x (.agg #[.int .i64 x.k, .int .i64 x.n, .slice a0 l0 p0])) := K0b.od
    have c0 := K0b.c0
    have c1 := K0b.c1
    have c2 := K0b.c2
    rw [Nat.zero_mul, Nat.add_zero] at c0 c1 c2
    have hsb : sm ≤ 400000 := by omega
    have hm12b : m12 ≤ 100000 := by omega
    have ha10b : a10 ≤ 200000 := by omega
    have wq1 : IntKind.i64.wrap (m12 : Int) = (m12 : Int) := by rw [IntKind.wrap_i64]; omega
    have wq2 : IntKind.i64.wrap (a10 : Int) = (a10 : Int) := by rw [IntKind.wrap_i64]; omega
    have wq3 : IntKind.i64.wrap (sm : Int) = (sm : Int) := by rw [IntKind.wrap_i64]; omega
    generalize x.k = xk at *
    generalize x.n = xn at *
    clear hk hL ih hR hCc hll hA hcx ex K0 K0b hxl hn ht3 eC hA0
    go_enter Tryd.func73, Tryd.ntmps73
    go_upto_region 1 with fail
    rw [ewa.out, hg.out]
    go_wp2_with fail
    refine (ihx.out _ _ odx.out).mono ?_
    rintro e w1 ⟨rfl, B1⟩
    have Bd : Hid (Below w.heap.size w w1) := btr BaH.out B1
    clear B1 x0 x1 x2 c0 c1 c2 odx ihx BaH Xa
    go_wp2_with fail
    refine (k1.out _).mono ?_
    rintro e w' ⟨rfl, rfl⟩
    go_wp2_with fail
    refine (k2.out _).mono ?_
    rintro e w' ⟨rfl, rfl⟩
    go_wp2_with fail
    go_ret2
    exact ⟨rfl, Bd.out⟩
end Go.Proofs.YtoaccmblaifnmaaDoor
namespace Go.Proofs.YtoaccmblaifnmaaDoor
open Flo Go.RowKit
theorem infoInt : (Tryd.prog.info? 3).map (fun i => (i.zero, i.size, i.bytes)) = some (some (.int .i64 0), 1, 8) := by kernel_rfl
def il (zs : List Nat) : List Value := zs.map fun (z : Nat) => Value.int .i64 (z : Int)
theorem il_snoc (zs : List Nat) (z : Nat) : il (zs ++ [z]) = il zs ++ [.int .i64 (z : Int)] := by simp [il]
theorem il_get (zs : List Nat) (i : Nat) (h : i < zs.length) : (il zs)[i]? = some (.int .i64 ((zs.getD i 0 : Nat) : Int)) := by
  simp [il, List.getD, h]
/-- a list that can be read -/
def RdI (w : World) (v : Value) (zs : List Nat) : Prop :=
  ∃ ao cap, v = .slice ao zs.length cap ∧ (zs ≠ [] → ∃ b off, ao = some ⟨b, off, none⟩ ∧ b < w.heap.size ∧ ∀ i, i < zs.length → w.cell? ⟨b, off + i, none⟩ = some (.int .i64 ((zs.getD i 0 : Nat) : Int)))
theorem RdI.of_own {w : World} {B : Nat} {v : Value} {zs : List Nat} (h : w.ownsRow B 3 1 v zs.length (il zs)) : RdI w v zs := by
  obtain ⟨hl, ho⟩ := h
  rcases ho with ⟨h1, h2⟩ | ⟨g, cap, cur, rfl, h1, h2, h3, h4, h5, h6⟩
  · refine ⟨none, 0, by rw [h1, h2], fun hz => ?_⟩
    exact absurd (List.length_eq_zero_iff.1 h2) hz
  · refine ⟨_, cap, rfl, fun _ => ⟨g, 0, rfl, (Array.getElem?_eq_some_iff.1 h2).1, fun i hi => ?_⟩⟩
    have e1 : w.cell? ⟨g, 0 + i, none⟩ = cur[i]? := by rw [Nat.zero_add]; unfold World.cell?; rw [h2]; rfl
    rw [e1, ← il_get zs i hi, ← h6]
    simp [hi]
theorem RdI.below {w w' : World} {v : Value} {zs : List Nat} (h : RdI w v zs) (hb : Below w.heap.size w w') : RdI w' v zs := by
  obtain ⟨ao, cap, rfl, h2⟩ := h
  refine ⟨ao, cap, rfl, fun hz => ?_⟩
  obtain ⟨b, off, rfl, h3, h4⟩ := h2 hz
  exact ⟨b, off, rfl, Nat.lt_of_lt_of_le h3 hb.size, fun i hi => (hb.cell (p := ⟨b, off + i, none⟩) h3).trans (h4 i hi)⟩
theorem RdI.drewN {w : World} {v : Value} {zs : List Nat} (h : RdI w v zs) (k : Nat) : RdI (w.drewN k) v zs := h
end Go.Proofs.YtoaccmblaifnmaaDoor
namespace Go.Proofs.YtoaccmblaifnmaaDoor
open Flo Go.RowKit

/-- all blocks but those of T lie as they lay -/
structure KT (T : Nat → Prop) (w w' : World) : Prop where
  os : w'.os = w.os
  tape : w'.tape = w.tape
  output : w'.output = w.output
  size : w.heap.size ≤ w'.heap.size
  block : ∀ k, k < w.heap.size → ¬ T k → w'.heap[k]? = w.heap[k]?
theorem KT.refl (T : Nat → Prop) (w : World) : KT T w w := ⟨rfl, rfl, rfl, Nat.le_refl _, fun _ _ _ => rfl⟩
theorem KT.trans {T : Nat → Prop} {a b c : World} (h : KT T a b) (k : KT T b c) : KT T a c :=
  ⟨k.os.trans h.os, k.tape.trans h.tape, k.output.trans h.output, Nat.le_trans h.size k.size, fun x hx hT => (k.block x (Nat.lt_of_lt_of_le hx h.size) hT).trans (h.block x hx hT)⟩
theorem KT.grown {T : Nat → Prop} {w w' : World} {row : Option Nat} (h : w.grownBy w' row) (hr : ∀ b, row = some b → T b) : KT T w w' :=
  ⟨h.os, h.tape, h.output, h.size, fun k hk hT => h.block k hk (fun e => hT (hr k e.symm))⟩
theorem KT.drew {T : Nat → Prop} {a w : World} (h : KT T a w) : KT T a w.drew := ⟨h.os, h.tape, h.output, h.size, h.block⟩
theorem KT.drewN {T : Nat → Prop} {a w : World} (h : KT T a w) (k : Nat) : KT T a (w.drewN k) := ⟨h.os, h.tape, h.output, h.size, h.block⟩
theorem KT.cell {T : Nat → Prop} {w w' : World} (h : KT T w w') {p : Addr} (hp : p.block < w.heap.size) (hT : ¬ T p.block) : w'.cell? p = w.cell? p := World.cell?_of_block (w := w) (h.block p.block hp hT)
end Go.Proofs.YtoaccmblaifnmaaDoor
namespace Go.Proofs.YtoaccmblaifnmaaDoor
open Flo Go.RowKit Go.Shelf

/-- the blocks from B to C lie as they lay -/
def KB (B C : Nat) (W W' : World) : Prop := ∀ b, B ≤ b → b ≤ C → b < W.heap.size → W'.heap[b]? = W.heap[b]?
theorem KT.kb {T : Nat → Prop} {B C : Nat} {W W' : World} (h : KT T W W') (hT : ∀ b, B ≤ b → b ≤ C → ¬ T b) : KB B C W W' := fun b h1 h2 h3 => h.block b h3 (hT b h1 h2)
theorem putObj_size (W : World) (l : Nat) (o : Obj) : (W.putObj l o).heap.size = W.heap.size := by simp [World.putObj]
/-- a block is turned, and turned back behind a round -/
theorem KT.round {T : Nat → Prop} {W1 W3 : World} {l : Nat} {o1 o2 : Obj} (hl : W1.heap[l]? = some o1) (h : KT T (W1.putObj l o2) W3) : KT T W1 (W3.putObj l o1) := by
  have hlt := (Array.getElem?_eq_some_iff.1 hl).1
  have hs := h.size
  rw [putObj_size] at hs
  refine ⟨h.os, h.tape, h.output, by rw [putObj_size]; exact hs, fun k hk hT => ?_⟩
  by_cases e : k = l
  · subst e
    rw [World.putObj_heap_same (by omega), hl]
  · rw [World.putObj_heap_other e, h.block k (by rw [putObj_size]; exact hk) hT, World.putObj_heap_other e]
variable {F : Fence} {n : Nat} {P : Program}
/-- a round is what it is, however deep -/
theorem yield_any (hd : F.depth = none) {m : Nat} (m' : Nat) {l : Nat} {args : Array Value} {W : World} {R : Ending → World → Prop} (h : YieldAt F m P l args W R) : YieldAt F m' P l args W R := by
  obtain ⟨fn, tmps, assign, body, hy, hF, hr⟩ := h
  refine ⟨fn, tmps, assign, body, hy, hF, fun c cs _ => hr c cs ?_⟩
  intro d e
  rw [hd] at e
  cases e
end Go.Proofs.YtoaccmblaifnmaaDoor
