/-
  Package planner's measure: length and cost of a good order.
-/
import Derived.WalkKit
import Ieee.Arith
import Derived.WalkLawsBesides
import Derived.Laws.FloatArith
import Derived.Test.YtoaccmblaifnmaaDoorProg
import Derived.RegionTactic
import Derived.Outline
import Derived.Lib.Mul64
import Derived.Laws.Bits64b
import Derived.Deep.QuietTactic
import Derived.BigQuiet
import Derived.WalkSmall
import Derived.Deep.CutBlock
import Derived.Deep.DeepCutAuto
import Derived.Laws.Rows
import Derived.Lib.ItoaNum
import Derived.Laws.IdiomStrings
import Derived.Deep.RegionHeld3
import Derived.Lib.SmallJoins
import Derived.Lib.HexFns
import Derived.Test.YtoaccmblaifnmaaDoorRows
import Derived.LaidEql
import Derived.LaidLaws
import Derived.LaidHandle
import Derived.Stop.Joined
import Derived.Deep.RegionWith
import Derived.Recover
import Derived.RegionDies
import Derived.Laws.CopyOwn
import Derived.Lib.AppendIntMem
import Derived.Deep.RegionHeldLaw
import Derived.Test.YtoaccmblaifnmaaDoorBa9
namespace Go.Proofs.YtoaccmblaifnmaaDoor
open Flo Go.RowKit Tr
open Pl (tm)
theorem prc_tm (a b x y : Nat) (f : Bool) (ha : 1 ≤ a) (hb : 1 ≤ b) : prc a b (tm x) (tm y) f = tm (a * y + b * x + 6 * (a - 1) * (b - 1) + (if f then 0 else a * b)) := by
  unfold prc
  generalize (if f = true then 0 else a * b) = d
  generalize 6 * (a - 1) * (b - 1) = c
  have k : ∀ n z : Nat, 1 ≤ n → tm (n * tm z) = tm (n * z) := fun n z hn => by
    by_cases h : z ≤ 4611686018427387905
    · rw [show tm z = z by unfold tm; omega]
    · rw [show tm z = 4611686018427387905 by unfold tm; omega]
      unfold tm
      have h1 : 4611686018427387905 ≤ n * 4611686018427387905 := Nat.le_mul_of_pos_left _ hn
      have h2 : n * 4611686018427387905 ≤ n * z := Nat.mul_le_mul_left _ (by omega)
      omega
  rw [k a y ha, k b x hb]
  generalize a * y = p
  generalize b * x = q
  unfold tm
  omega
theorem cs_two (n : Int) (x y : Tr) : Pl.cs ⟨3, n, [x, y]⟩ = (Pl.ms x).2.1 * Pl.cs y + (Pl.ms y).2.1 * Pl.cs x + 6 * ((Pl.ms x).2.1 - 1) * ((Pl.ms y).2.1 - 1) + (if x.k = 2 then 0 else (Pl.ms x).2.1 * (Pl.ms y).2.1) := by
  unfold Pl.cs
  rw [Pl.ms_eq]
  unfold Pl.mc
  rw [if_neg (by decide), if_neg (by decide), if_pos rfl]
  simp only [List.map_cons, List.map_nil]
  rw [Pl.ms_k x]
theorem cs_one (n : Int) (x : Tr) : Pl.cs ⟨4, n, [x]⟩ = 3 * Pl.cs x + (12 * n.toNat + 10 * (Pl.ms x).2.1) := by
  unfold Pl.cs
  rw [Pl.ms_eq]
  unfold Pl.mc
  rw [if_neg (by decide), if_neg (by decide), if_neg (by decide)]
  simp only [List.map_cons, List.map_nil]
theorem cs_d (n : Int) : Pl.cs ⟨1, n, []⟩ = 8 * n.toNat * n.toNat := by
  unfold Pl.cs
  rw [Pl.ms_eq]
  rfl
theorem cs_f (n : Int) : Pl.cs ⟨2, n, []⟩ = Pl.wk n := by
  unfold Pl.cs
  rw [Pl.ms_eq]
  rfl
set_option maxHeartbeats 4000000 in
set_option maxRecDepth 100000 in
theorem measure_c (t : Tr) : ∀ (v : Value) (w : World), Od w t v → 0 < ln t → Calls Tryd.prog 52 #[v] w fun e w' => e = .returned (.agg #[.int .i64 (ln t : Int), .int .i64 (Pl.tcs t : Int)]) ∧ Below w.heap.size w w' := by
  refine Tr.ind (P := fun t => ∀ (v : Value) (w : World), Od w t v → 0 < ln t → Calls Tryd.prog 52 #[v] w fun e w' => e = .returned (.agg #[.int .i64 (ln t : Int), .int .i64 (Pl.tcs t : Int)]) ∧ Below w.heap.size w w') (fun k n ks ih0 v w ho hln => ?_) t
  have hll : Hid (ln ⟨k, n, ks⟩ ≤ 16384) := ln_le _
  obtain ⟨ao, cap, rfl, hl0, hk0⟩ := ho.kds
  obtain ⟨L, hL⟩ : ∃ L, Hid (ks.length = L) := ⟨_, (rfl : _ = _)⟩
  have hk : Hid (Kds w ao L ks) := by show Kds _ _ _ _; rw [← hL.out]; exact hk0
  rw [hL.out]
  obtain ⟨wa, ewa⟩ : ∃ wa, Hid (w.alloc (.cells #[.int .i64 k, .int .i64 n, .slice ao L cap] 24) = wa) := ⟨_, (rfl : _ = _)⟩
  obtain ⟨wb, ewb⟩ : ∃ wb, Hid (wa.alloc (.cells #[.int .i64 0, .int .i64 0] 85) = wb) := ⟨_, (rfl : _ = _)⟩
  have sa : wa.heap.size = w.heap.size + 1 := by rw [← ewa.out]; simp
  have Ba : Below w.heap.size w wa := by rw [← ewa.out]; exact (Below.refl _ _).alloc (Nat.le_refl _) _
  have Bab : Below wa.heap.size wa wb := by rw [← ewb.out]; exact (Below.refl _ _).alloc (Nat.le_refl _) _
  have Bb : Hid (Below w.heap.size w wb) := btr Ba Bab
  have Xb : Hid (Bo wb w.heap.size k n (.slice ao L cap)) := by
    have h : Bo wa w.heap.size k n (.slice ao L cap) := by rw [← ewa.out]; exact Bo.new _ _ _ _
    exact h.bel Bab
  have Yb : Hid (Bm wb (w.heap.size + 1) 0 0) := by
    have h : Bm wb wa.heap.size 0 0 := by rw [← ewb.out]; exact Bm.new _ _ _
    rw [sa] at h; exact h
  obtain ⟨g, hg⟩ : ∃ g, Hid (w.heap.size = g) := ⟨_, (rfl : _ = _)⟩
  rw [hg.out] at Xb Yb
  have fin : Hid (∀ (W : World) (x c : Nat), Below w.heap.size w W → Bm W (g + 1) 0 0 → ((((W.setCell ⟨g + 1, 0, none⟩ (.int .i64 (x : Int))).setCell ⟨g + 1, 1, none⟩ (.int .i64 (c : Int))).cell? ⟨g + 1, 0, none⟩ = some (.int .i64 (x : Int)) ∧ ((W.setCell ⟨g + 1, 0, none⟩ (.int .i64 (x : Int))).setCell ⟨g + 1, 1, none⟩ (.int .i64 (c : Int))).cell? ⟨g + 1, 1, none⟩ = some (.int .i64 (c : Int))) ∧ Below w.heap.size w ((W.setCell ⟨g + 1, 0, none⟩ (.int .i64 (x : Int))).setCell ⟨g + 1, 1, none⟩ (.int .i64 (c : Int))))) := fun W x c hb hz => by
    refine ⟨⟨?_, ?_⟩, ?_⟩
    · rw [World.cell?_setCell_other _ _ _ _ (by simp)]
      exact World.cell?_setCell_same' _ _ _ (by rw [hz.c0]; rfl)
    · exact World.cell?_setCell_same' _ _ _ (by rw [World.cell?_setCell_other _ _ _ _ (by simp), hz.c1]; rfl)
    · exact (hb.setCell (p := ⟨g + 1, 0, none⟩) (by rw [hg.out]; show g ≤ g + 1; omega) _).setCell (p := ⟨g + 1, 1, none⟩) (by rw [hg.out]; show g ≤ g + 1; omega) _
  obtain ⟨R, hR⟩ : ∃ R, Hid (ln ⟨k, n, ks⟩ = R) := ⟨_, (rfl : _ = _)⟩
  obtain ⟨Cc, hCc⟩ : ∃ C, Hid (Pl.tcs ⟨k, n, ks⟩ = C) := ⟨_, (rfl : _ = _)⟩
  have hinv := ln_inv hln
  rw [hR.out, hCc.out]
  rw [hR.out] at hinv
  have ih : Hid (∀ t ∈ ks, ∀ (v : Value) (w : World), Od w t v → 0 < ln t → Calls Tryd.prog 52 #[v] w fun e w' => e = .returned (.agg #[.int .i64 (ln t : Int), .int .i64 (Pl.tcs t : Int)]) ∧ Below w.heap.size w w') := ih0
  clear hk0 hl0 ih0 ho Ba Bab sa hln
  have x0 := Xb.out.c0
  have x1 := Xb.out.c1
  have x2 := Xb.out.c2
  have y0 := Yb.out.c0
  have y1 := Yb.out.c1
  have yf0 := Yb.out.fz 0
  have yf1 := Yb.out.fz 1
  rcases hinv with ⟨rfl, hn, rfl⟩ | ⟨rfl, hn, rfl⟩ | ⟨rfl, rfl, x, y, rfl, hx2, hy2, hxy⟩ | ⟨rfl, hn, x, rfl, hxl⟩
  · obtain ⟨m, rfl⟩ : ∃ m : Nat, n = (m : Int) := ⟨n.toNat, by omega⟩
    obtain ⟨m8, hm8⟩ : ∃ m8 : Nat, 8 * (m : Int) = (m8 : Int) := ⟨8 * m, by omega⟩
    have eR : R = m := by
      rw [← hR.out, ln_eq]; unfold lnc; rw [if_pos rfl, if_pos ⟨hn.1, hn.2, rfl⟩]; simp
    have eC : (m8 : Int) * (m : Int) = (Cc : Int) := by
      rw [castMul, ← hCc.out]
      unfold Pl.tcs tm
      rw [cs_d, Int.toNat_natCast]
      have e8 : m8 = 8 * m := by omega
      have hb : m8 * m ≤ 512 * 64 := Nat.mul_le_mul (by omega) (by omega)
      rw [← e8]
      omega
    have hC2 : Cc ≤ 100000 := by
      have hb : m8 * m ≤ 512 * 64 := Nat.mul_le_mul (by omega) (by omega)
      rw [castMul] at eC
      omega
    subst eR
    have fin0 : Hid _ := fin.out wb R Cc Bb.out Yb.out
    have hm1 : R ≤ 64 := by omega
    have hm2 : m8 ≤ 512 := by omega
    clear hn hk hL ih hR hCc hll fin
    go_enter Tryd.func52, Tryd.ntmps52
    go_upto_region 1 with fail
    rw [ewa.out, ewb.out, hg.out]
    go_wp2_with fail
    have q0 := fin0.out.1.1
    have q1 := fin0.out.1.2
    refine bodyPost_ret (v := .agg #[.int .i64 (R : Int), .int .i64 (Cc : Int)]) (by simp [results, Tryd.results52, go_sem, q0, q1]) rfl ?_
    exact ⟨rfl, fin0.out.2⟩
  · obtain ⟨m, rfl⟩ : ∃ m : Nat, n = (m : Int) := ⟨n.toNat, by omega⟩
    have eR : R = m := by
      rw [← hR.out, ln_eq]; unfold lnc; rw [if_neg (by decide), if_pos rfl, if_pos ⟨hn.1, hn.2, rfl⟩]; simp
    have eC : Hid (Cc = Pl.wk m) := by
      show _ = _
      rw [← hCc.out]
      unfold Pl.tcs tm
      rw [cs_f]
      unfold Pl.wk
      repeat' split
      all_goals decide
    subst eR
    have fin0 : Hid _ := fin.out wb R Cc Bb.out Yb.out
    have hw := work_c R (by omega) (by omega) wb
    have hm1 : R ≤ 5 := by omega
    clear hn hk hL ih hR hCc hll fin
    go_enter Tryd.func52, Tryd.ntmps52
    go_upto_region 1 with fail
    rw [ewa.out, ewb.out, hg.out]
    go_wp2_with fail
    refine hw.mono ?_
    rintro e w' ⟨⟨a, b, rfl, hab, ha, hb⟩, rfl⟩
    have e1 : (a : Int) + (b : Int) = (Cc : Int) := by have := eC.out; omega
    clear hw hab
    go_wp2_with fail
    have q0 := fin0.out.1.1
    have q1 := fin0.out.1.2
    refine bodyPost_ret (v := .agg #[.int .i64 (R : Int), .int .i64 (Cc : Int)]) (by simp [results, Tryd.results52, go_sem, q0, q1]) rfl ?_
    exact ⟨rfl, fin0.out.2⟩
  · obtain ⟨A, hA⟩ : ∃ A, Hid (ln x = A) := ⟨_, (rfl : _ = _)⟩
    obtain ⟨B, hB⟩ : ∃ B, Hid (ln y = B) := ⟨_, (rfl : _ = _)⟩
    obtain ⟨cx, hcx⟩ : ∃ c, Hid (Pl.tcs x = c) := ⟨_, (rfl : _ = _)⟩
    obtain ⟨cy, hcy⟩ : ∃ c, Hid (Pl.tcs y = c) := ⟨_, (rfl : _ = _)⟩
    have ihx : Hid (∀ (v : Value) (w : World), Od w x v → Calls Tryd.prog 52 #[v] w fun e w' => e = .returned (.agg #[.int .i64 (A : Int), .int .i64 (cx : Int)]) ∧ Below w.heap.size w w') := fun v w h => by
      have := ih.out x (by simp) v w h (by omega)
      rw [hA.out, hcx.out] at this; exact this
    have ihy : Hid (∀ (v : Value) (w : World), Od w y v → Calls Tryd.prog 52 #[v] w fun e w' => e = .returned (.agg #[.int .i64 (B : Int), .int .i64 (cy : Int)]) ∧ Below w.heap.size w w') := fun v w h => by
      have := ih.out y (by simp) v w h (by omega)
      rw [hB.out, hcy.out] at this; exact this
    have hab : A * B ≤ 16384 := by
      have := hll.out
      rw [hR.out, ← hxy, hA.out, hB.out] at this
      exact this
    have eC : Hid (prc A B cx cy (x.k == 2) = Cc) := by
      show _ = _
      rw [← hCc.out, ← hcx.out, ← hcy.out]
      unfold Pl.tcs
      rw [prc_tm A B _ _ _ (by rw [← hA.out]; omega) (by rw [← hB.out]; omega), cs_two, Pl.ms_ln x (by omega), Pl.ms_ln y (by omega), hA.out, hB.out]
      by_cases hxk : x.k = 2
      · rw [if_pos hxk]; simp [hxk]
      · rw [if_neg hxk]; simp [hxk]
    have hprH : Hid (∀ w, Calls Tryd.prog 79 #[.agg #[.int .i64 (A : Int), .int .i64 (cx : Int)], .agg #[.int .i64 (B : Int), .int .i64 (cy : Int)], .bool (x.k == 2)] w fun e w' => e = .returned (.agg #[.int .i64 (R : Int), .int .i64 (Cc : Int)]) ∧ Below w.heap.size w w') := fun w => by
      have := pproduct_c A B cx cy (x.k == 2) (by rw [← hA.out]; exact hx2) (by rw [← hB.out]; exact hy2) hab w
      rw [eC.out, show A * B = R by rw [← hA.out, ← hB.out]; exact hxy] at this
      exact this
    obtain rfl : L = 2 := by rw [← hL.out]; rfl
    obtain ⟨b0, off0, s0, x', ex, K0⟩ := hk.out 0 (by decide)
    obtain ⟨b1, off1, s1, y', ey, K1⟩ := hk.out 1 (by decide)
    have e0 := K0.at0
    have e1 := K1.at0
    rw [e0] at e1
    obtain rfl : x = x' := by simpa using ex
    obtain rfl : y = y' := by simpa using ey
    obtain rfl := e0
    obtain ⟨rfl, rfl⟩ : b0 = b1 ∧ off0 = off1 := by simpa using e1
    obtain ⟨a0, l0, p0, rfl⟩ := K0.slc
    obtain ⟨a1, l1, p1, rfl⟩ := K1.slc
    have odx : Hid (Od w x (.agg #[.int .i64 x.k, .int .i64 x.n, .slice a0 l0 p0])) := K0.od
    have ody : Hid (Od w y (.agg #[.int .i64 y.k, .int .i64 y.n, .slice a1 l1 p1])) := K1.od
    have hS : Hid (∀ Z, Below wb.heap.size wb Z → (Z.cell? ⟨g, 2, none⟩ = some (.slice (some ⟨b0, off0, none⟩) 2 cap) ∧ Z.cell? ⟨b0, off0, none⟩ = some (.int .i64 x.k) ∧ Z.cell? ⟨b0, off0 + 1, none⟩ = some (.int .i64 x.n) ∧ Z.cell? ⟨b0, off0 + 2, none⟩ = some (.slice a0 l0 p0) ∧ Z.cell? ⟨b0, off0 + 3, none⟩ = some (.int .i64 y.k) ∧ Z.cell? ⟨b0, off0 + 3 + 1, none⟩ = some (.int .i64 y.n) ∧ Z.cell? ⟨b0, off0 + 3 + 2, none⟩ = some (.slice a1 l1 p1))) := fun Z hZ => by
      have k0 := K0.below (btr Bb.out hZ)
      have k1 := K1.below (btr Bb.out hZ)
      have c0 := k0.c0
      have c1 := k0.c1
      have c2 := k0.c2
      have d0 := k1.c0
      have d1 := k1.c1
      have d2 := k1.c2
      rw [Nat.zero_mul, Nat.add_zero] at c0 c1 c2
      rw [Nat.one_mul] at d0 d1 d2
      exact ⟨(Xb.out.bel hZ).c2, c0, c1, c2, d0, d1, d2⟩
    obtain ⟨xk, hxk⟩ : ∃ xk, Hid (x.k = xk) := ⟨_, (rfl : _ = _)⟩
    obtain ⟨xn, hxn⟩ : ∃ xn, Hid (x.n = xn) := ⟨_, (rfl : _ = _)⟩
    obtain ⟨yk, hyk⟩ : ∃ yk, Hid (y.k = yk) := ⟨_, (rfl : _ = _)⟩
    obtain ⟨yn, hyn⟩ : ∃ yn, Hid (y.n = yn) := ⟨_, (rfl : _ = _)⟩
    rw [hxk.out, hxn.out] at odx hS
    rw [hxk.out] at hprH
    rw [hyk.out, hyn.out] at ody hS
    have bD : Hid (Below wb.heap.size wb wb.drew) := (Below.refl _ _).drew
    have hb0 : b0 ≠ g + 1 := by have := K0.lt; rw [hg.out] at this; omega
    have hSt : Hid (∀ (Z : World) (u u' : Value), (Z.cell? ⟨g, 2, none⟩ = some (.slice (some ⟨b0, off0, none⟩) 2 cap) ∧ Z.cell? ⟨b0, off0, none⟩ = some (.int .i64 xk) ∧ Z.cell? ⟨b0, off0 + 1, none⟩ = some (.int .i64 xn) ∧ Z.cell? ⟨b0, off0 + 2, none⟩ = some (.slice a0 l0 p0) ∧ Z.cell? ⟨b0, off0 + 3, none⟩ = some (.int .i64 yk) ∧ Z.cell? ⟨b0, off0 + 3 + 1, none⟩ = some (.int .i64 yn) ∧ Z.cell? ⟨b0, off0 + 3 + 2, none⟩ = some (.slice a1 l1 p1)) → (((Z.setCell ⟨g + 1, 0, none⟩ u).setCell ⟨g + 1, 1, none⟩ u').cell? ⟨g, 2, none⟩ = some (.slice (some ⟨b0, off0, none⟩) 2 cap) ∧ ((Z.setCell ⟨g + 1, 0, none⟩ u).setCell ⟨g + 1, 1, none⟩ u').cell? ⟨b0, off0, none⟩ = some (.int .i64 xk) ∧ ((Z.setCell ⟨g + 1, 0, none⟩ u).setCell ⟨g + 1, 1, none⟩ u').cell? ⟨b0, off0 + 1, none⟩ = some (.int .i64 xn) ∧ ((Z.setCell ⟨g + 1, 0, none⟩ u).setCell ⟨g + 1, 1, none⟩ u').cell? ⟨b0, off0 + 2, none⟩ = some (.slice a0 l0 p0) ∧ ((Z.setCell ⟨g + 1, 0, none⟩ u).setCell ⟨g + 1, 1, none⟩ u').cell? ⟨b0, off0 + 3, none⟩ = some (.int .i64 yk) ∧ ((Z.setCell ⟨g + 1, 0, none⟩ u).setCell ⟨g + 1, 1, none⟩ u').cell? ⟨b0, off0 + 3 + 1, none⟩ = some (.int .i64 yn) ∧ ((Z.setCell ⟨g + 1, 0, none⟩ u).setCell ⟨g + 1, 1, none⟩ u').cell? ⟨b0, off0 + 3 + 2, none⟩ = some (.slice a1 l1 p1))) := fun Z u u' ⟨q1, q2, q3, q4, q5, q6, q7⟩ => by
      refine ⟨?_, ?_, ?_, ?_, ?_, ?_, ?_⟩
      all_goals rw [World.cell?_setCell_other _ _ _ _ (by intro e; have h9 := congrArg Addr.block e; simp only at h9; omega), World.cell?_setCell_other _ _ _ _ (by intro e; have h9 := congrArg Addr.block e; simp only at h9; omega)]; assumption
    clear hb0 hk hL ih hR hCc hll hA hB hcx hcy hab eC ex ey e1 K0 K1 hxy hx2 hy2 x0 x1 x2 y0 y1 yf0 yf1
    obtain ⟨s0, s1, s2, s3, s4, s5, s6⟩ := hS.out wb (Below.refl _ _)
    have x0 := Xb.out.c0
    go_enter Tryd.func52, Tryd.ntmps52
    go_upto_region 1 with fail
    rw [ewa.out, ewb.out, hg.out]
    go_upto_region 10 with fail
    go_region_held_law (fun Z => Z.cell? ⟨g, 2, none⟩ = some (.slice (some ⟨b0, off0, none⟩) 2 cap) ∧ Z.cell? ⟨b0, off0, none⟩ = some (.int .i64 xk) ∧ Z.cell? ⟨b0, off0 + 1, none⟩ = some (.int .i64 xn) ∧ Z.cell? ⟨b0, off0 + 2, none⟩ = some (.slice a0 l0 p0) ∧ Z.cell? ⟨b0, off0 + 3, none⟩ = some (.int .i64 yk) ∧ Z.cell? ⟨b0, off0 + 3 + 1, none⟩ = some (.int .i64 yn) ∧ Z.cell? ⟨b0, off0 + 3 + 2, none⟩ = some (.slice a1 l1 p1)) (first | exact hSt.out _ _ _ (hS.out _ hb3.out) | exact hS.out _ hb3.out | exact hS.out _ hb2.out | exact hS.out _ hb1.out | exact hS.out _ bD.out | trivial) ((first
      | (go_at_call_of 52 (Value.slice a0 l0 p0)
         refine (ihx.out _ _ (Od.below (btr Bb.out bD.out) _ _ odx.out)).mono ?_
         rintro e w1 ⟨rfl, B1⟩
         have hb1 : Hid (Below wb.heap.size wb w1) := bD.out.trans B1
         clear B1)
      | (go_at_call_of 52 (Value.slice a1 l1 p1)
         refine (ihy.out _ _ (Od.below (btr Bb.out hb1.out) _ _ ody.out)).mono ?_
         rintro e w2 ⟨rfl, B2⟩
         have hb2 : Hid (Below wb.heap.size wb w2) := btr hb1.out B2
         clear B2)
      | (go_at_call 79
         refine (hprH.out _).mono ?_
         rintro e w3 ⟨rfl, B3⟩
         have hb3 : Hid (Below wb.heap.size wb w3) := btr hb2.out B3
         have y0 := (Yb.out.bel hb3.out).c0
         have y1 := (Yb.out.bel hb3.out).c1
         have yf0 := (Yb.out.bel hb3.out).fz 0
         have yf1 := (Yb.out.bel hb3.out).fz 1
         clear B3)
      | fail))
    have fin0 : Hid _ := fin.out w3 R Cc (btr Bb.out hb3.out) (Yb.out.bel hb3.out)
    go_wp2_with fail
    have q0 := fin0.out.1.1
    have q1 := fin0.out.1.2
    refine bodyPost_ret (v := .agg #[.int .i64 (R : Int), .int .i64 (Cc : Int)]) (by simp [results, Tryd.results52, go_sem, q0, q1]) rfl ?_
    exact ⟨rfl, fin0.out.2⟩
  · obtain ⟨m, rfl⟩ : ∃ m : Nat, n = (m : Int) := ⟨n.toNat, by omega⟩
    obtain ⟨A, hA⟩ : ∃ A, Hid (ln x = A) := ⟨_, (rfl : _ = _)⟩
    have hA2 : A ≤ 16384 := by rw [← hA.out]; exact ln_le _
    have hA0 : 0 < A := by rw [← hA.out]; omega
    obtain ⟨cx, hcx⟩ : ∃ c, Hid (Pl.tcs x = c) := ⟨_, (rfl : _ = _)⟩
    have ihx : Hid (∀ (v : Value) (w : World), Od w x v → Calls Tryd.prog 52 #[v] w fun e w' => e = .returned (.agg #[.int .i64 (A : Int), .int .i64 (cx : Int)]) ∧ Below w.heap.size w w') := fun v w h => by
      have := ih.out x (by simp) v w h (by rw [hA.out]; exact hA0)
      rw [hA.out, hcx.out] at this; exact this
    have eR : R = m := by
      rw [← hR.out, ln_eq]; unfold lnc; rw [if_neg (by decide), if_neg (by decide), if_neg (by decide), if_pos rfl, if_pos hn]
      simp only [List.map_cons, List.map_nil]
      unfold Tr.blu
      dsimp only
      rw [if_pos hxl]; simp
    obtain ⟨t3, ht3⟩ : ∃ t3, tm (3 * cx) = t3 := ⟨_, rfl⟩
    obtain ⟨m12, hm12⟩ : ∃ z : Nat, 12 * (R : Int) = (z : Int) := ⟨12 * R, by omega⟩
    obtain ⟨a10, ha10⟩ : ∃ z : Nat, 10 * (A : Int) = (z : Int) := ⟨10 * A, by omega⟩
    obtain ⟨sm, hsm⟩ : ∃ z : Nat, (m12 : Int) + (a10 : Int) = (z : Int) := ⟨m12 + a10, by omega⟩
    have eC : tm (t3 + sm) = Cc := by
      rw [← hCc.out]
      unfold Pl.tcs
      rw [cs_one, Int.toNat_natCast, Pl.ms_ln x (by rw [hA.out]; exact hA0), hA.out, ← ht3, ← hcx.out]
      unfold Pl.tcs
      have e1 : sm = 12 * m + 10 * A := by omega
      rw [e1]
      generalize Pl.cs x = c
      generalize 12 * m + 10 * A = d
      unfold tm
      omega
    subst eR
    have hmb : R ≤ 8192 := by omega
    have k1 : Hid (∀ w, Calls Tryd.prog 81 #[.int .i64 3, .int .i64 (cx : Int)] w fun e w' => e = .returned (.int .i64 (t3 : Int)) ∧ w' = w) := fun w => by
      have := ptimes_c 3 cx t3 (by decide) (by decide) ht3.symm w
      rw [show ((3 : Nat) : Int) = 3 from rfl] at this
      exact this
    have k2 : Hid (∀ w, Calls Tryd.prog 80 #[.int .i64 (t3 : Int), .int .i64 (sm : Int)] w fun e w' => e = .returned (.int .i64 (Cc : Int)) ∧ w' = w) := fun w => psum_c t3 sm Cc (by rw [← ht3]; exact tm_le _) (by omega) eC.symm w
    obtain rfl : L = 1 := by rw [← hL.out]; rfl
    obtain ⟨b0, off0, s0, x', ex, K0⟩ := hk.out 0 (by decide)
    have e0 := K0.at0
    obtain rfl : x = x' := by simpa using ex
    obtain rfl := e0
    obtain ⟨a0, l0, p0, rfl⟩ := K0.slc
    have K0b := K0.below Bb.out
    have odx : Hid (Od wb x (.agg #[.int .i64 x.k, .int .i64 x.n, .slice a0 l0 p0])) := K0b.od
    have c0 := K0b.c0
    have c1 := K0b.c1
    have c2 := K0b.c2
    rw [Nat.zero_mul, Nat.add_zero] at c0 c1 c2
    have hsb : sm ≤ 400000 := by omega
    have hm12b : m12 ≤ 100000 := by omega
    have ha10b : a10 ≤ 200000 := by omega
    have wq1 : IntKind.i64.wrap (m12 : Int) = (m12 : Int) := by rw [IntKind.wrap_i64]; omega
    have wq2 : IntKind.i64.wrap (a10 : Int) = (a10 : Int) := by rw [IntKind.wrap_i64]; omega
    have wq3 : IntKind.i64.wrap (sm : Int) = (sm : Int) := by rw [IntKind.wrap_i64]; omega
    generalize x.k = xk at *
    generalize x.n = xn at *
    clear hk hL ih hR hCc hll hA hcx ex K0 K0b hxl hn ht3 eC hA0
    go_enter Tryd.func52, Tryd.ntmps52
    go_upto_region 1 with fail
    rw [ewa.out, ewb.out, hg.out]
    go_wp2_with fail
    refine (ihx.out _ _ odx.out).mono ?_
    rintro e w1 ⟨rfl, B1⟩
    obtain ⟨wd, ewd⟩ : ∃ wd, Hid (w1.alloc (.cells #[.int .i64 (A : Int), .int .i64 (cx : Int)] 85) = wd) := ⟨_, (rfl : _ = _)⟩
    have B1d : Below w1.heap.size w1 wd := by rw [← ewd.out]; exact (Below.refl _ _).alloc (Nat.le_refl _) _
    have Bd : Hid (Below w.heap.size w wd) := btr (btr Bb.out B1) B1d
    have Xd : Hid (Bo wd g 4 R (.slice (some ⟨b0, off0, none⟩) 1 cap)) := (Xb.out.bel B1).bel B1d
    have Yd : Hid (Bm wd (g + 1) 0 0) := (Yb.out.bel B1).bel B1d
    have Zd : Hid (Bm wd w1.heap.size A cx) := by show Bm _ _ _ _; rw [← ewd.out]; exact Bm.new _ _ _
    have hlt1 : Hid (g + 1 < w1.heap.size) := blk_lt (Yb.out.bel B1).b
    clear B1 B1d x0 x1 x2 y0 y1 yf0 yf1 c0 c1 c2 odx ihx Bb Xb Yb
    go_upto_region 3 with fail
    rw [ewd.out]
    obtain ⟨z, hz⟩ : ∃ z, Hid (w1.heap.size = z) := ⟨_, (rfl : _ = _)⟩
    rw [hz.out] at Zd ⊢
    have x1 := Xd.out.c1
    have z0 := Zd.out.c0
    have z1 := Zd.out.c1
    have y0 := Yd.out.c0
    have y1 := Yd.out.c1
    have yf0 := Yd.out.fz 0
    have yf1 := Yd.out.fz 1
    have z0' : wd.drew.cell? ⟨g + 1, 0, none⟩ = some (.int .i64 0) := y0
    have z1' : wd.drew.cell? ⟨g + 1, 1, none⟩ = some (.int .i64 0) := y1
    have zf0' : wd.drew.frozen? ⟨g + 1, 0, none⟩ = false := yf0
    have zf1' : wd.drew.frozen? ⟨g + 1, 1, none⟩ = false := yf1
    have hzg : g + 1 < z := by rw [← hz.out]; exact hlt1.out
    have hSt : Hid (∀ (Z : World) (u u' : Value), (Z.cell? ⟨g, 1, none⟩ = some (.int .i64 (R : Int)) ∧ Z.cell? ⟨z, 0, none⟩ = some (.int .i64 (A : Int)) ∧ Z.cell? ⟨z, 1, none⟩ = some (.int .i64 (cx : Int))) → (((Z.setCell ⟨g + 1, 0, none⟩ u).setCell ⟨g + 1, 1, none⟩ u').cell? ⟨g, 1, none⟩ = some (.int .i64 (R : Int)) ∧ ((Z.setCell ⟨g + 1, 0, none⟩ u).setCell ⟨g + 1, 1, none⟩ u').cell? ⟨z, 0, none⟩ = some (.int .i64 (A : Int)) ∧ ((Z.setCell ⟨g + 1, 0, none⟩ u).setCell ⟨g + 1, 1, none⟩ u').cell? ⟨z, 1, none⟩ = some (.int .i64 (cx : Int)))) := fun Z u u' ⟨q1, q2, q3⟩ => by
      refine ⟨?_, ?_, ?_⟩
      all_goals rw [World.cell?_setCell_other _ _ _ _ (by intro e; have h9 := congrArg Addr.block e; simp only at h9; omega), World.cell?_setCell_other _ _ _ _ (by intro e; have h9 := congrArg Addr.block e; simp only at h9; omega)]; assumption
    have hS : Hid ((fun Z : World => Z.cell? ⟨g, 1, none⟩ = some (.int .i64 (R : Int)) ∧ Z.cell? ⟨z, 0, none⟩ = some (.int .i64 (A : Int)) ∧ Z.cell? ⟨z, 1, none⟩ = some (.int .i64 (cx : Int))) wd.drew) := ⟨x1, z0, z1⟩
    clear hzg
    go_region_held_law (fun Z => Z.cell? ⟨g, 1, none⟩ = some (.int .i64 (R : Int)) ∧ Z.cell? ⟨z, 0, none⟩ = some (.int .i64 (A : Int)) ∧ Z.cell? ⟨z, 1, none⟩ = some (.int .i64 (cx : Int))) (first | exact hSt.out _ _ _ hS.out | exact hS.out) ((first
      | (go_at_call 81; refine (k1.out _).mono ?_; rintro e w' ⟨rfl, rfl⟩)
      | (go_at_call 80; refine (k2.out _).mono ?_; rintro e w' ⟨rfl, rfl⟩)
      | fail))
    have fin0 : Hid _ := fin.out wd R Cc Bd.out Yd.out
    go_wp2_with fail
    have q0 : (((wd.setCell ⟨g + 1, 0, none⟩ (.int .i64 (R : Int))).setCell ⟨g + 1, 1, none⟩ (.int .i64 (Cc : Int))).drew).cell? ⟨g + 1, 0, none⟩ = some (.int .i64 (R : Int)) := fin0.out.1.1
    have q1 : (((wd.setCell ⟨g + 1, 0, none⟩ (.int .i64 (R : Int))).setCell ⟨g + 1, 1, none⟩ (.int .i64 (Cc : Int))).drew).cell? ⟨g + 1, 1, none⟩ = some (.int .i64 (Cc : Int)) := fin0.out.1.2
    refine bodyPost_ret (v := .agg #[.int .i64 (R : Int), .int .i64 (Cc : Int)]) (by simp [results, Tryd.results52, go_sem, q0, q1]) rfl ?_
    exact ⟨rfl, fin0.out.2.drew⟩
end Go.Proofs.YtoaccmblaifnmaaDoor
