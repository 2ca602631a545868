/-
  PlannerCosts: the whole walk.
-/
import Derived.Test.YtibkdbapbbdkfaaDoorAc6
import Derived.Test.YtibkdbapbbdkfaaDoorPnq
import Derived.Test.YtibkdbapbbdkfaaDoorAc8
namespace Go.Proofs.YtibkdbapbbdkfaaDoor
open Flo Go.RowKit Tr
theorem e14_of {w : World} {al : List Addr} (h : Errs w al) : E14 w (al.getD 4 ⟨0, 0, none⟩) (al.getD 6 ⟨0, 0, none⟩) (al.getD 2 ⟨0, 0, none⟩) (al.getD 7 ⟨0, 0, none⟩) := by
  obtain ⟨a0, a1, a2, a3, a4, a5, a6, a7, a8, a9, a10, a11, a12, a13, a14, a15, a16, a17, a18, rfl⟩ := h.len
  obtain ⟨_, _, c2, _, c4, _, c6, c7, _⟩ := h.sent
  exact ⟨c4, c6, c2, c7⟩
/-- the number of what Cost refuses -/
def coK (t : Tr) : Nat := if len t = 0 then 8 else if 4611686018427387904 < Pl.tcs t then 3 else 0
theorem coN_k (t : Tr) : coN t = (coK t : Int) := by
  unfold coN coK
  split
  · rfl
  · split <;> rfl
theorem coE_er (aL aT aO : Addr) (t : Tr) : coE aL aO t = er aL aT aO (coK t) := by
  unfold coE coK
  split
  · rfl
  · split <;> rfl
theorem coK_is (t : Tr) : coK t = 0 ∨ coK t = 3 ∨ coK t = 6 ∨ coK t = 8 := by
  unfold coK
  split
  · simp
  · split <;> simp
theorem od_shp {w : World} {t : Tr} {v : Value} (h : Od w t v) : ∃ k n a l c, v = .agg #[.int .i64 k, .int .i64 n, .slice a l c] := by
  obtain ⟨k, n, ks⟩ := t
  obtain ⟨ao, cap, e, _⟩ := h.kds
  exact ⟨_, _, _, _, _, e⟩
set_option maxHeartbeats 2000000 in
set_option maxRecDepth 100000 in
theorem plannerCosts.walk (t : Tr) (v : Value) (al : List Addr) (w : World) (hEr : Errs w al) (ho : Od w t v) :
    Calls Tryd.prog 5 #[v] w fun e w' => e = .returned (.bool true) ∧ Below w.heap.size w w' := by
  obtain ⟨k, n, ao, L, cap, rfl⟩ := od_shp ho
  obtain ⟨wa, ewa⟩ : ∃ wa, Hid (w.alloc (.cells #[.int .i64 k, .int .i64 n, .slice ao L cap] 24) = wa) := ⟨_, (rfl : _ = _)⟩
  have Ba : Below w.heap.size w wa := by rw [← ewa.out]; exact (Below.refl _ _).alloc (Nat.le_refl _) _
  obtain ⟨g, hg⟩ : ∃ g, Hid (w.heap.size = g) := ⟨_, (rfl : _ = _)⟩
  have Xa : Hid (Bo wa g k n (.slice ao L cap)) := by show Bo _ _ _ _ _; rw [← ewa.out, ← hg.out]; exact Bo.new _ _ _ _
  have hoa : Hid (Od wa t (.agg #[.int .i64 k, .int .i64 n, .slice ao L cap])) := Od.below Ba _ _ ho
  have hEa : Hid (Errs wa al) := hEr.below Ba
  have BaH : Hid (Below w.heap.size w wa) := Ba
  have hfx := fixed14_c wa _ _ _ _ (e14_of hEa.out)
  obtain ⟨K, hK⟩ : ∃ K, Hid (coK t = K) := ⟨_, (rfl : _ = _)⟩
  obtain ⟨C, hC⟩ : ∃ C, Hid (coV t = C) := ⟨_, (rfl : _ = _)⟩
  have hc1 : Hid (∀ W, Errs W al → Od W t (.agg #[.int .i64 k, .int .i64 n, .slice ao L cap]) → Calls Tryd.prog 30 #[.agg #[.int .i64 k, .int .i64 n, .slice ao L cap]] W fun e w' => e = .returned (.tuple #[.int .i64 (C : Int), er (al.getD 2 ⟨0, 0, none⟩) (al.getD 5 ⟨0, 0, none⟩) (al.getD 7 ⟨0, 0, none⟩) K]) ∧ Below W.heap.size W w') := fun W hE h => by
    have e14 := e14_of hE
    have := pcost_c t _ W _ _ h e14.cL e14.cO
    rw [coE_er _ (al.getD 5 ⟨0, 0, none⟩), hK.out, hC.out] at this
    exact this
  have hc2 : Hid (∀ W, Od W t (.agg #[.int .i64 k, .int .i64 n, .slice ao L cap]) → Calls Tryd.prog 31 #[.agg #[.int .i64 k, .int .i64 n, .slice ao L cap]] W fun e w' => e = .returned (.tuple #[.int .i64 (C : Int), .int .i64 (K : Int)]) ∧ Below W.heap.size W w') := fun W h => by
    have := dCost_c t _ W h
    rw [coN_k, hK.out, show coW t = coV t from rfl, hC.out] at this
    exact this
  have hc3 : Hid (∀ W, Errs W al → Calls Tryd.prog 24 #[er (al.getD 2 ⟨0, 0, none⟩) (al.getD 5 ⟨0, 0, none⟩) (al.getD 7 ⟨0, 0, none⟩) K] W fun e w' => e = .returned (.int .i64 (K : Int)) ∧ Below W.heap.size W w') := fun W hE => numEr_c al K (by rw [← hK.out]; exact coK_is t) W hE
  clear ho hEr Ba hK hC
  generalize er (al.getD 2 ⟨0, 0, none⟩) (al.getD 5 ⟨0, 0, none⟩) (al.getD 7 ⟨0, 0, none⟩) K = EV at *
  have x0 := Xa.out.c0
  have x1 := Xa.out.c1
  have x2 := Xa.out.c2
  go_enter Tryd.func5, Tryd.ntmps5
  go_upto_region 1 with fail
  rw [ewa.out, hg.out]
  go_wp2_with fail
  refine hfx.mono ?_
  rintro e w1 ⟨rfl, B1⟩
  have hB1 : Hid (Below w.heap.size w w1) := btr BaH.out B1
  have X1 : Hid (Bo w1 g k n (.slice ao L cap)) := Xa.out.bel B1
  have ho1 : Hid (Od w1 t (.agg #[.int .i64 k, .int .i64 n, .slice ao L cap])) := Od.below B1 _ _ hoa.out
  have hE1 : Hid (Errs w1 al) := hEa.out.below B1
  clear B1 hfx x0 x1 x2 Xa hoa hEa BaH
  have x0 := X1.out.c0
  have x1 := X1.out.c1
  have x2 := X1.out.c2
  go_wp2_with fail
  refine (hc1.out w1 hE1.out ho1.out).mono ?_
  rintro e w2 ⟨rfl, B2⟩
  have hB2 : Hid (Below w.heap.size w w2) := btr hB1.out B2
  have X2 : Hid (Bo w2 g k n (.slice ao L cap)) := X1.out.bel B2
  have ho2 : Hid (Od w2 t (.agg #[.int .i64 k, .int .i64 n, .slice ao L cap])) := Od.below B2 _ _ ho1.out
  have hE2 : Hid (Errs w2 al) := hE1.out.below B2
  clear B2 x0 x1 x2 X1 ho1 hE1 hB1
  have x0 := X2.out.c0
  have x1 := X2.out.c1
  have x2 := X2.out.c2
  go_wp2_with fail
  refine (hc2.out w2 ho2.out).mono ?_
  rintro e w3 ⟨rfl, B3⟩
  have hB3 : Hid (Below w.heap.size w w3) := btr hB2.out B3
  have hE3 : Hid (Errs w3 al) := hE2.out.below B3
  clear B3 x0 x1 x2 X2 ho2 hE2 hB2
  go_wp2_with fail
  refine (hc3.out w3 hE3.out).mono ?_
  rintro e w4 ⟨rfl, B4⟩
  have hB4 : Hid (Below w.heap.size w w4) := btr hB3.out B4
  clear B4
  go_wp2_with fail
  go_ret
  exact ⟨rfl, hB4.out⟩
end Go.Proofs.YtibkdbapbbdkfaaDoor
