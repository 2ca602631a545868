/-
  The statement PlannerMemory: the walk.
-/
import Derived.Test.YtoaccmblaifnmaaDoorProg
import Derived.WalkKit
import Ieee.Arith
import Derived.WalkLawsBesides
import Derived.Outline
import Derived.Deep.QuietTactic
import Derived.BigQuiet
import Derived.WalkSmall
import Derived.RegionTactic
import Derived.Lib.Mul64
import Derived.Laws.Bits64b
import Derived.Deep.CutBlock
import Derived.Deep.DeepCutAuto
import Derived.Maps.AppendAt
import Derived.Deep.RegionHeld3
import Derived.Deep.RegionWith
import Derived.Laws.OwnMore
import Derived.RangeFuncNested
import Derived.RangeFuncBound
import Derived.RangeFuncCalls
import Derived.RangeFuncLeaves
import Derived.RangeFuncBox
import Derived.Shelf.Abstract
import Derived.Shelf.RegionOpen
import Derived.OwnWalkIn
import Derived.TacticsInMore
import Derived.LoopNIn
import Derived.LoopIn
import Derived.Laws.Rows
import Derived.Lib.ItoaNum
import Derived.Laws.IdiomStrings
import Derived.Lib.SmallJoins
import Derived.Lib.HexFns
import Derived.Test.YtoaccmblaifnmaaDoorRows
import Derived.LaidEql
import Derived.LaidLaws
import Derived.LaidHandle
import Derived.Stop.Joined
import Derived.Recover
import Derived.RegionDies
import Derived.Laws.CopyOwn
import Derived.Lib.AppendIntMem
import Derived.Laws.AppendOwn
import Derived.OwnWalk
import Derived.BigCall
import Derived.Deep.RegionHeldLaw
import Derived.Laws.FloatArith
import Derived.Laws.ComplexArith
import Derived.Laws.MakeOwn
import Derived.MapKept
import Derived.Carry
import Derived.Test.YtoaccmblaifnmaaDoorCards
import Derived.ProofKit
import Derived.LaidMore
import Derived.OpenShut
import Derived.SizedLaws
import Derived.Deep.Slices
import Derived.ChangeAlike
import Derived.Deep.RegionLaw
import Derived.Defers
import Derived.Deep.AppendSrc
import Derived.Lib.LaidTab
import Derived.LaidSub
import Derived.Laws.AppendOwnNone
import Derived.Test.YtoaccmblaifnmaaDoorBa1
import Derived.Test.YtoaccmblaifnmaaDoorBa2
import Derived.Test.YtoaccmblaifnmaaDoorBa3
import Derived.Test.YtoaccmblaifnmaaDoorBa4
import Derived.Test.YtoaccmblaifnmaaDoorBa5
import Derived.Test.YtoaccmblaifnmaaDoorBa6
import Derived.Test.YtoaccmblaifnmaaDoorBa7
import Derived.Test.YtoaccmblaifnmaaDoorBa8
import Derived.Test.YtoaccmblaifnmaaDoorBa9
import Derived.Test.YtoaccmblaifnmaaDoorBb1
import Derived.Test.YtoaccmblaifnmaaDoorBb2
import Derived.Test.YtoaccmblaifnmaaDoorBb3
import Derived.Test.YtoaccmblaifnmaaDoorBb4
import Derived.Test.YtoaccmblaifnmaaDoorBb5
import Derived.Test.YtoaccmblaifnmaaDoorBb6
import Derived.Test.YtoaccmblaifnmaaDoorBb7
import Derived.Test.YtoaccmblaifnmaaDoorBb8
import Derived.Test.YtoaccmblaifnmaaDoorBb9
import Derived.Test.YtoaccmblaifnmaaDoorBc1
import Derived.Test.YtoaccmblaifnmaaDoorBc2
import Derived.Test.YtoaccmblaifnmaaDoorBc3
import Derived.Test.YtoaccmblaifnmaaDoorBc4
import Derived.Test.YtoaccmblaifnmaaDoorBc5
import Derived.Test.YtoaccmblaifnmaaDoorBc6
import Derived.Test.YtoaccmblaifnmaaDoorBc7
import Derived.Test.YtoaccmblaifnmaaDoorBc8
import Derived.Test.YtoaccmblaifnmaaDoorBc9
import Derived.Test.YtoaccmblaifnmaaDoorBd1
import Derived.Test.YtoaccmblaifnmaaDoorBd2
import Derived.Test.YtoaccmblaifnmaaDoorBd3
import Derived.Test.YtoaccmblaifnmaaDoorBd4
import Derived.Test.YtoaccmblaifnmaaDoorBd5
import Derived.Test.YtoaccmblaifnmaaDoorBd6
import Derived.Test.YtoaccmblaifnmaaDoorBd7
import Derived.Test.YtoaccmblaifnmaaDoorBd8
import Derived.Test.YtoaccmblaifnmaaDoorBd9
import Derived.Test.YtoaccmblaifnmaaDoorBe1
import Derived.Test.YtoaccmblaifnmaaDoorBe2
import Derived.Test.YtoaccmblaifnmaaDoorBe3
import Derived.Test.YtoaccmblaifnmaaDoorBe4
import Derived.Test.YtoaccmblaifnmaaDoorBe5
import Derived.Test.YtoaccmblaifnmaaDoorBe6
import Derived.Test.YtoaccmblaifnmaaDoorBe7
import Derived.Test.YtoaccmblaifnmaaDoorBe8
import Derived.Test.YtoaccmblaifnmaaDoorBe9
import Derived.Test.YtoaccmblaifnmaaDoorBf1
import Derived.Test.YtoaccmblaifnmaaDoorBf2
import Derived.Test.YtoaccmblaifnmaaDoorBf5
import Derived.Test.YtoaccmblaifnmaaDoorEa2
import Derived.Test.YtoaccmblaifnmaaDoorEa1
namespace Go.Proofs.YtoaccmblaifnmaaDoor
open Flo Go.RowKit Tr
/-- a list lies where there is memory -/
theorem FlR.lt {V : Nat → Prop} {W : World} {fv : Value} {F : List Int} (h : FlR V W fv F) : FlR (fun b => b < W.heap.size) W fv F := by
  obtain ⟨ao, cap, e, hc⟩ := h
  refine ⟨ao, cap, e, fun i hi => ?_⟩
  obtain ⟨b, off, q1, q2, q3, q4⟩ := hc i hi
  exact ⟨b, off, q1, q3, q3, q4⟩
theorem FlR.wd {V V' : Nat → Prop} {W : World} {fv : Value} {F : List Int} (h : FlR V W fv F) (hV : ∀ b, V b → V' b) : FlR V' W fv F := by
  obtain ⟨ao, cap, e, hc⟩ := h
  refine ⟨ao, cap, e, fun i hi => ?_⟩
  obtain ⟨b, off, q1, q2, q3, q4⟩ := hc i hi
  exact ⟨b, off, q1, hV b q2, q3, q4⟩
/-- the list without its last one -/
theorem fl_pre {V : Nat → Prop} {W : World} {r c : Nat} {F : List Int} {z : Int} (h : FlR V W (.slice (some ⟨r, 0, none⟩) (F ++ [z]).length c) (F ++ [z])) : FlR V W (.slice (some ⟨r, 0, none⟩) F.length c) F ∧ W.cell? ⟨r, F.length, none⟩ = some (.int .i64 z) := by
  obtain ⟨ao, cap, e, hc⟩ := h
  simp only [Value.slice.injEq, true_and] at e
  obtain ⟨rfl, rfl⟩ := e
  constructor
  · refine ⟨_, _, rfl, fun i hi => ?_⟩
    obtain ⟨b, off, q1, q2, q3, q4⟩ := hc i (by simp; omega)
    refine ⟨b, off, q1, q2, q3, ?_⟩
    rw [q4, List.getD_eq_getElem?_getD, List.getElem?_append_left hi, ← List.getD_eq_getElem?_getD]
  · obtain ⟨b, off, q1, q2, q3, q4⟩ := hc F.length (by simp)
    cases q1
    rw [Nat.zero_add] at q4
    rw [q4, List.getD_eq_getElem?_getD]
    simp
/-- what the room is -/
structure Rm (W0 W : World) (r L c : Nat) (F : List Int) : Prop where
  bel : Below W0.heap.size W0 W
  own : W.ownsRow W0.heap.size 3 1 (.slice (some ⟨r, 0, none⟩) (L + 1) c) (L + 1) (fli (F ++ [77]))
/-- how a body ends that doesn't panic -/
def qM (R : Exit → Act → World → Prop) : Exit → Act → World → Prop
  | .normal, a, w => R .normal a w
  | .ret, a, w => R .ret a w
  | _, _, _ => False
theorem qM_up (R : Exit → Act → World → Prop) : ∀ e a w, qM R e a w → R e a w := fun e a w h => by cases e <;> first | exact h | exact h.elim
set_option maxHeartbeats 16000000 in
set_option maxRecDepth 100000 in
theorem plannerMemory.walk (n : Int) (D p : Int) (F : List Int) (fv : Value) (V : Nat → Prop) (al : List Addr) (w : World) (hEr : Errs w al) (hF : FlR V w fv F) (hb : F.length * 8 ≤ 140737488351232) :
    Calls Tryd.prog 7 #[.int .i64 n, .agg #[.int .i64 D, fv, .int .i64 p]] w fun e w' => e = .returned (.bool true) ∧ Below w.heap.size w w' := by
  obtain ⟨wa, ewa⟩ : ∃ wa, Hid ((w.alloc (.cells #[.int .i64 D, fv, .int .i64 p] 45)).alloc (.cells #[.bool false] 4) = wa) := ⟨_, (rfl : _ = _)⟩
  have Ba : Hid (Below w.heap.size w wa) := by show Below _ _ _; rw [← ewa.out]; exact ((Below.refl _ _).alloc (Nat.le_refl _) _).alloc (by simp) _
  obtain ⟨g, hg⟩ : ∃ g, Hid (w.heap.size = g) := ⟨_, (rfl : _ = _)⟩
  have Xa : Hid (Bp wa g D fv p) := by
    have h := Bp.new w D p fv
    rw [hg.out] at h
    show Bp wa g D fv p
    rw [← ewa.out]
    exact h.bel ((Below.refl _ _).alloc (Nat.le_refl _) _)
  have hT4 : Hid (wa.heap[g + 1]? = some (.cells #[.bool false] 4 (0, 0))) := by
    have h2 := heap_alloc_new (w.alloc (.cells #[.int .i64 D, fv, .int .i64 p] 45)) (.cells #[.bool false] 4)
    simp only [World.size_alloc, hg.out] at h2
    show _ = _; rw [← ewa.out]; exact h2
  have hEa : Hid (Errs wa al) := hEr.below Ba.out
  have hFa : Hid (FlR (fun b => b < g) wa fv F) := by
    have h := hF.lt.kt (T := fun _ => False) (KT.of_below Ba.out) (fun _ (h : False) => h.elim)
    rw [hg.out] at h; exact h
  obtain ⟨fa, fc, efv⟩ : ∃ a c, fv = .slice a F.length c := by obtain ⟨a, c, e, _⟩ := hF; exact ⟨a, c, e⟩
  obtain ⟨L, hL⟩ : ∃ L, Hid (F.length = L) := ⟨_, (rfl : _ = _)⟩
  have hbH : Hid (F.length * 8 ≤ 140737488351232) := hb
  have hLH : Hid (L * 8 ≤ 140737488351232) := by show _ ≤ _; rw [← hL.out]; exact hb
  have hlnH : Hid (F.length ≤ 9223372036854775807) := by show _ ≤ _; omega
  rw [hL.out] at efv
  subst efv
  have hfx := fixed14_c wa _ _ _ _ (e14_of hEa.out)
  clear hEr hF hb
  have x0 := Xa.out.c0
  have x1 := Xa.out.c1
  have x2 := Xa.out.c2
  refine callsIn_wide.1 (?_ : CallsIn Fence.wide 9 Tryd.prog _ _ _ _)
  refine callsIn_of_wp_marks Tryd.func7 rfl trivial ?_ rfl
  simp only [Tryd.ntmps7, List.size_toArray, List.length_cons, List.length_nil, Nat.reduceAdd, Nat.reduceSub, Array.replicate_succ, Array.replicate_zero, List.push_toArray, List.append_toArray, List.nil_append, List.cons_append]
  obtain ⟨QR, hQR⟩ : ∃ z, Hid (bodyPostM Fence.wide 9 Tryd.prog Tryd.f7 (fun e w' => e = .returned (.bool true) ∧ Below w.heap.size w w') = z) := ⟨_, (rfl : _ = _)⟩
  rw [hQR.out]
  refine wpIn_mono (Q := qM QR) ?_ (qM_up QR)
  refine wpIn_wide.2 ?_
  rw [← ewa.out] at x0 x1 x2
  go_upto_region 1 with fail
  rw [ewa.out] at x0 x1 x2
  rw [ewa.out, hg.out]
  go_wp2_with fail
  refine hfx.mono ?_
  rintro e w1 ⟨rfl, B1⟩
  have hB1 : Hid (Below w.heap.size w w1) := btr Ba.out B1
  have hga : Hid (g < w1.heap.size) := by show _ < _; have := Xa.out.lt; have := B1.size; omega
  have X1 : Hid (Bp w1 g D (.slice fa L fc) p) := Xa.out.bel B1
  have hT1 : Hid (w1.heap[g + 1]? = some (.cells #[.bool false] 4 (0, 0))) := (B1.block _ (blk_lt hT4.out)).trans hT4.out
  have hE1 : Hid (Errs w1 al) := hEa.out.below B1
  have hF1 : Hid (FlR (fun b => b < g) w1 (.slice fa L fc) F) := hFa.out.kt (T := fun _ => False) (KT.of_below B1) (fun _ (h : False) => h.elim)
  clear B1 hfx x0 x1 x2 Xa hEa hFa Ba hT4
  obtain ⟨R3, hR3⟩ : ∃ R : Value → World → Prop, Hid ((fun s5 wx => ∃ r c, s5 = .slice (some ⟨r, 0, none⟩) (L + 1) c ∧ Hid (Rm w1 wx r L c F)) = R) := ⟨_, (rfl : _ = _)⟩
  have x0 := X1.out.c0
  have x1 := X1.out.c1
  have x2 := X1.out.c2
  go_upto_region 3 with fail
  go_cut [5] from 21 to 163 (fun s5 wx => R3 s5 wx)
  case first =>
    have hFZ : Hid (∀ Z, Below w1.heap.size w1 Z → FlR (fun b => b < g) Z (.slice fa L fc) F) := fun Z hZ => hF1.out.kt (T := fun _ => False) (KT.of_below hZ) (fun _ (h : False) => h.elim)
    obtain ⟨MK, hMK⟩ : ∃ z, Hid (madeCells (Value.cells (.int .i64 0)) ((L + 1) * 1) = z) := ⟨_, (rfl : _ = _)⟩
    have hmk := fun W => make_fl W L hLH.out
    rw [hMK.out] at hmk
    have hbelA : Hid (Below w1.heap.size w1 (w1.alloc (.cells MK 3)).drew) := ((Below.refl _ _).alloc (Nat.le_refl _) _).drew
    have hbelB : Hid (Below w1.heap.size w1 ((w1.alloc (.cells MK 3)).alloc (.cells #[.int .i64 77] 3)).drew) := (((Below.refl _ _).alloc (Nat.le_refl _) _).alloc (by simp <;> omega) _).drew
    have hbelC : Hid (Below w1.heap.size w1 ((w1.alloc (.cells #[.int .i64 77] 3)).alloc (.cells MK 3)).drew) := (((Below.refl _ _).alloc (Nat.le_refl _) _).alloc (by simp <;> omega) _).drew
    have hown : Hid (∀ (W' : World) (g0 : Nat), w1.heap.size ≤ g0 → W'.heap[g0]? = some (.cells MK 3 (0, 0)) → W'.ownsRow w1.heap.size 3 1 (.slice (some ⟨g0, 0, none⟩) 0 (L + 1)) 0 []) := fun W' g0 h0 hh => made_own W' g0 L w1.heap.size hLH.out h0 (by rw [hMK.out]; exact hh)
    have hXk : Hid (∀ (Z w7 : World) (g0 : Nat), Below w1.heap.size w1 Z → w1.heap.size ≤ g0 → Z.grownBy w7 (some g0) → Bp w7 g D (.slice fa L fc) p ∧ Below w1.heap.size w1 w7) := fun Z w7 g0 hZ h0 hk => by
      have hb := hZ.grown hk hZ.size (fun k e => by cases e; exact h0)
      exact ⟨X1.out.bel hb, hb⟩
    have fin : Hid (∀ (w8 : World) (r c : Nat), Below w1.heap.size w1 w8 → w8.ownsRow w1.heap.size 3 1 (.slice (some ⟨r, 0, none⟩) (L + 1) c) (L + 1) (fli (F ++ [77])) → R3 (.slice (some ⟨r, 0, none⟩) (L + 1) c) w8) := fun w8 r c hb ho => by
      rw [← hR3.out]
      exact ⟨r, c, rfl, hb, ho⟩
    have gl := hga.out
    have gL : L ≤ 17592186043904 := by have := hLH.out; omega
    have hwr : IntKind.i64.wrap ((L : Int) + 1) = (L : Int) + 1 := by rw [IntKind.wrap_i64]; omega
    go_region_held_law (fun Z => Z.cell? ⟨g, 1, none⟩ = some (.slice fa L fc)) (go_keep) ((first
      | (refine step_fl2 rfl (.tmp 27) (.tmp 29) rfl w1.heap.size w1.heap.size (L + 1) (by simp [Act.eval]) (hown.out _ _ (Nat.le_refl _) (heap_alloc_new w1 _)) (.slice fa L fc) (by simp [Act.eval]) (hFZ.out _ hbelA.out) hbH.out hbelA.out.size ?_
         intro r c w7 k1 k2 k3
         rw [hL.out] at k1 ⊢
         obtain ⟨hX7, hb7⟩ := hXk.out _ _ _ hbelA.out (Nat.le_refl _) k2
         have y1 := hX7.c1
         have hr7 : w1.heap.size ≤ r := by
           rcases k3 with q | q
           · omega
           · exact Nat.le_trans hbelA.out.size q
         clear hX7 k2 k3)
      | (refine step_fl2 rfl (.tmp 27) (.tmp 29) rfl w1.heap.size w1.heap.size (L + 1) (by simp [Act.eval]) (hown.out _ _ (Nat.le_refl _) (two_new w1 _ _).1) (.slice fa L fc) (by simp [Act.eval]) (hFZ.out _ hbelB.out) hbH.out hbelB.out.size ?_
         intro r c w7 k1 k2 k3
         rw [hL.out] at k1 ⊢
         obtain ⟨hX7, hb7⟩ := hXk.out _ _ _ hbelB.out (Nat.le_refl _) k2
         have y1 := hX7.c1
         have hr7 : w1.heap.size ≤ r := by
           rcases k3 with q | q
           · omega
           · exact Nat.le_trans hbelB.out.size q
         have hl7 : w7.heap[w1.heap.size + 1]? = some (.cells #[.int .i64 77] 3 (0, 0)) := (k2.block (w1.heap.size + 1) (by simp [World.drew]) (by simp)).trans (two_new w1 _ _).2
         clear hX7 k2 k3)
      | (refine step_fl2 rfl (.tmp 27) (.tmp 29) rfl w1.heap.size (w1.heap.size + 1) (L + 1) (by simp [Act.eval]) (hown.out _ _ (by omega) (two_new w1 _ _).2) (.slice fa L fc) (by simp [Act.eval]) (hFZ.out _ hbelC.out) hbH.out hbelC.out.size ?_
         intro r c w7 k1 k2 k3
         rw [hL.out] at k1 ⊢
         obtain ⟨hX7, hb7⟩ := hXk.out _ _ _ hbelC.out (by omega) k2
         have y1 := hX7.c1
         have hr7 : w1.heap.size ≤ r := by
           rcases k3 with q | q
           · omega
           · exact Nat.le_trans hbelC.out.size q
         have hl7 : w7.heap[w1.heap.size]? = some (.cells #[.int .i64 77] 3 (0, 0)) := (k2.block w1.heap.size (by simp [World.drew] <;> omega) (by simp)).trans (two_new w1 _ _).1
         clear hX7 k2 k3)
      | (refine step_i1 rfl (.tmp 30) (.tmp 31) rfl w1.heap.size r c L (by simp [Act.eval]) (k1.alloc _) _ 1 77 (by first | (simp [Act.eval]; done) | (simp [Act.eval]; rfl)) (heap_alloc_new w7 _) hLH.out (Nat.le_trans hb7.size (by simp)) ?_
         intro r' c' w8 k4 k5 k6
         have hb8 : Below w1.heap.size w1 w8 := (hb7.alloc hb7.size _).grown k5 (Nat.le_trans hb7.size (by simp)) (fun k e => by cases e; exact hr7)
         have y1 := (X1.out.bel hb8).c1
         have hfin := fin.out w8 r' c' hb8 k4
         clear hb8 k4 k5 k6
         simp only [List.getElem_toArray, List.getElem_cons_succ, List.getElem_cons_zero, Act.put, List.setIfInBounds_toArray, List.set_cons_zero, List.set_cons_succ])
      | (refine step_i1 rfl (.tmp 30) (.tmp 31) rfl w1.heap.size r c L (by simp [Act.eval, Act.put]) k1 _ 1 77 (by simp [Act.eval, Act.put]) hl7 hLH.out hb7.size ?_
         intro r' c' w8 k4 k5 k6
         have hb8 : Below w1.heap.size w1 w8 := hb7.grown k5 hb7.size (fun k e => by cases e; exact hr7)
         have y1 := (X1.out.bel hb8).c1
         have hfin := fin.out w8 r' c' hb8 k4
         clear hb8 k4 k5 k6
         simp only [List.getElem_toArray, List.getElem_cons_succ, List.getElem_cons_zero, Act.put, List.setIfInBounds_toArray, List.set_cons_zero, List.set_cons_succ])
      | fail))
    all_goals (go_wp2_with fail; go_meet; exact hfin)
  case rest =>
  rw [← hR3.out] at hcut
  obtain ⟨r, c, rfl, hRm⟩ := hcut
  rename World => w2
  have hB2 : Hid (Below w.heap.size w w2) := btr hB1.out hRm.out.bel
  have X2 : Hid (Bp w2 g D (.slice fa L fc) p) := X1.out.bel hRm.out.bel
  have hT2 : Hid (w2.heap[g + 1]? = some (.cells #[.bool false] 4 (0, 0))) := (hRm.out.bel.block _ (blk_lt hT1.out)).trans hT1.out
  have hE2 : Hid (Errs w2 al) := hE1.out.below hRm.out.bel
  have hF2 : Hid (FlR (fun b => b < g) w2 (.slice fa L fc) F) := hF1.out.kt (T := fun _ => False) (KT.of_below hRm.out.bel) (fun _ (h : False) => h.elim)
  have hrm : Hid ((FlR (fun b => b = r) w2 (.slice (some ⟨r, 0, none⟩) L c) F ∧ w2.cell? ⟨r, L, none⟩ = some (.int .i64 77)) ∧ L + 1 ≤ c ∧ g + 2 ≤ r ∧ ∃ cs, w2.heap[r]? = some (.cells cs 3 (0, 0)) ∧ L + 1 ≤ cs.size) := by
    show _ ∧ _
    obtain ⟨h1, h2, h3, h4, cs, h5⟩ := fl_own hRm.out.own
    obtain ⟨h6, h7⟩ := fl_pre h1
    rw [hL.out] at h6 h7
    refine ⟨⟨h6, h7⟩, h3, by have := blk_lt hT1.out; omega, cs, h5, ?_⟩
    rw [Joins.cell_of_block h5] at h7
    exact Nat.succ_le_of_lt (Array.getElem?_eq_some_iff.1 h7).1
  clear hRm hR3 X1 hT1 hE1 hF1 hga x0 x1 x2
  have x0 := X2.out.c0
  have x1 := X2.out.c1
  have x2 := X2.out.c2
  have hc0 := hrm.out.2.1
  have hc1 : L ≤ c := by omega
  have gL : L ≤ 17592186043904 := by have := hLH.out; omega
  obtain ⟨R4, hR4⟩ : ∃ R : Value → World → Prop, Hid ((fun s6 wx => ∃ gp, s6 = .pointer (some ⟨gp, 0, none⟩) ∧ w2.heap.size ≤ gp ∧ Hid (Below w2.heap.size w2 wx) ∧ Hid (Bp wx gp D (.slice (some ⟨r, 0, none⟩) L c) p)) = R) := ⟨_, (rfl : _ = _)⟩
  have finA : Hid (R4 (.pointer (some ⟨w2.heap.size, 0, none⟩)) (w2.alloc (.cells #[.int .i64 D, .slice (some ⟨r, 0, none⟩) L c, .int .i64 p] 45)).drew) := by
    show R4 _ _
    rw [← hR4.out]
    exact ⟨_, rfl, Nat.le_refl _, ((Below.refl _ _).alloc (Nat.le_refl _) _).drew, ⟨(Bp.new w2 D p (.slice (some ⟨r, 0, none⟩) L c)).b⟩⟩
  go_upto_region 4 with fail
  go_cut [6] from 21 to 163 (fun s6 wx => R4 s6 wx)
  case first =>
    go_region_held_law (fun Z => Z.cell? ⟨g, 0, none⟩ = some (.int .i64 D) ∧ Z.cell? ⟨g, 1, none⟩ = some (.slice fa L fc) ∧ Z.cell? ⟨g, 2, none⟩ = some (.int .i64 p)) (go_keep) (fail)
    all_goals (go_wp2_with fail; go_meet; exact finA.out)
  case rest =>
  rw [← hR4.out] at hcut
  obtain ⟨gp, rfl, hgp, Bw3, Xi3⟩ := hcut
  rename World => w3
  have hgpH : Hid (g + 2 ≤ gp) := by show _ ≤ _; have := blk_lt hT2.out; omega
  have hB3 : Hid (Below w.heap.size w w3) := btr hB2.out Bw3.out
  have hK3 : Hid (∀ W, Below w3.heap.size w3 W → (Bp W g D (.slice fa L fc) p ∧ Bp W gp D (.slice (some ⟨r, 0, none⟩) L c) p) ∧ Errs W al ∧ FlR (fun b => b < g) W (.slice fa L fc) F ∧ FlR (fun b => b = r) W (.slice (some ⟨r, 0, none⟩) L c) F ∧ W.cell? ⟨r, L, none⟩ = some (.int .i64 77) ∧ W.heap[g + 1]? = some (.cells #[.bool false] 4 (0, 0)) ∧ ∃ cs, W.heap[r]? = some (.cells cs 3 (0, 0)) ∧ L + 1 ≤ cs.size) := fun W hW => by
    have hb := btr Bw3.out hW
    obtain ⟨⟨h6, h7⟩, -, -, cs, h8, h9⟩ := hrm.out
    exact ⟨⟨X2.out.bel hb, Xi3.out.bel hW⟩, hE2.out.below hb, hF2.out.kt (T := fun _ => False) (KT.of_below hb) (fun _ (h : False) => h.elim), h6.kt (T := fun _ => False) (KT.of_below hb) (fun _ (h : False) => h.elim), (hb.cell (p := ⟨r, L, none⟩) (cell_lt h7)).trans h7, (hb.block _ (blk_lt hT2.out)).trans hT2.out, cs, (hb.block _ (blk_lt h8)).trans h8, h9⟩
  have hg3 : Hid (g + 2 ≤ r ∧ r < w3.heap.size ∧ w.heap.size ≤ w3.heap.size) := by
    show _ ∧ _
    obtain ⟨-, -, h4, cs, h8, h9⟩ := hrm.out
    have := blk_lt h8; have := Bw3.out.size; have := hB3.out.size
    exact ⟨h4, by omega, by omega⟩
  have hVr : Hid (∀ W, Below w3.heap.size w3 W → ∀ b, b = r → b < W.heap.size → ¬ orow W b) := fun W hW b e _ => by
    subst e
    obtain ⟨-, -, -, -, -, -, cs, h, -⟩ := hK3.out W hW
    exact int_norow h
  clear hR4 finA X2 hT2 hE2 hF2 hB1 hrm Bw3 Xi3 x0 x1 x2 hgp hc0 hc1
  obtain ⟨RN, hRN⟩ : ∃ z, Hid (dcn D p F n = z) := ⟨_, (rfl : _ = _)⟩
  have hRNi : Hid (RN = 7 ∨ RN = 0 ∨ RN = 5) := by show _; rw [← hRN.out]; exact dcn_is D p F n
  obtain ⟨t, ht⟩ : ∃ z, Hid (cht D p F n = z) := ⟨_, (rfl : _ = _)⟩
  obtain ⟨EV, hEV⟩ : ∃ z, Hid (erv al RN = z) := ⟨_, (rfl : _ = _)⟩
  have hc1 : Hid (∀ W, Below w3.heap.size w3 W → Calls Tryd.prog 21 #[.int .i64 n, .agg #[.int .i64 D, .slice (some ⟨r, 0, none⟩) L c, .int .i64 p]] W fun e w' => ∃ v, e = .returned (.tuple #[v, EV]) ∧ Os (fun b => W.heap.size ≤ b) w' t v ∧ Below W.heap.size W w') := fun W hW => by
    obtain ⟨-, h2, -, h4, -⟩ := hK3.out W hW
    have := pchoose4_c (D := D) (p := p) (F := F) n (.slice (some ⟨r, 0, none⟩) L c) W al h2 h4 hlnH.out (hVr.out W hW)
    rw [hRN.out, ht.out, hEV.out] at this
    exact this
  have hc2 : Hid (∀ W, Below w3.heap.size w3 W → Calls Tryd.prog 22 #[.int .i64 n, .agg #[.int .i64 D, .slice fa L fc, .int .i64 p]] W fun e w' => ∃ v, e = .returned (.tuple #[v, .int .i64 RN]) ∧ Os (fun b => W.heap.size ≤ b) w' t v ∧ Below W.heap.size W w') := fun W hW => by
    obtain ⟨-, h2, h3, -⟩ := hK3.out W hW
    have := dchoose4_c (D := D) (p := p) (F := F) n (.slice fa L fc) W h3 hlnH.out
    rw [hRN.out, ht.out] at this
    exact this
  have hc3 : Hid (∀ W, Below w3.heap.size w3 W → Calls Tryd.prog 23 #[EV] W fun e w' => e = .returned (.int .i64 RN) ∧ Below W.heap.size W w') := fun W hW => by rw [← hEV.out]; exact num_erv al RN hRNi.out W (hK3.out W hW).2.1
  have hc4 : Hid (∀ W, Below w3.heap.size w3 W → Calls Tryd.prog 36 #[.int .i64 n, .agg #[.int .i64 D, .slice (some ⟨r, 0, none⟩) L c, .int .i64 p]] W fun e w' => ∃ B1 B2 B3 fv', e = .returned (.func (.func 60) #[] (aL B1 B2 B3)) ∧ Fx (aC B1 B2 B3 (rfb D p F n) D fv' p n) w' ∧ (W.heap.size ≤ B1 ∧ W.heap.size ≤ B2 ∧ W.heap.size ≤ B3) ∧ (rfb D p F n = false → FlR (fun b => W.heap.size ≤ b) w' fv' F) ∧ Below W.heap.size W w') := fun W hW => by
    obtain ⟨-, h2, -, h4, -⟩ := hK3.out W hW
    exact pall_c n _ W _ _ h4 (e14_of h2).cN (e14_of h2).cR (by have := hbH.out; omega)
  have hsp : Hid (∀ W, Below w3.heap.size w3 W → Calls Tryd.prog 24 #[.agg #[.int .i64 D, .slice (some ⟨r, 0, none⟩) L c, .int .i64 p], .agg #[.int .i64 D, .slice fa L fc, .int .i64 p]] W fun e w' => e = .returned (.bool true) ∧ Below W.heap.size W w') := fun W hW => by
    obtain ⟨-, h2, h3, h4, -⟩ := hK3.out W hW
    exact spol_c _ _ W h4 h3 hlnH.out
  clear hVr hEV hRN hRNi
  have B0 : Below w3.heap.size w3 w3 := Below.refl _ _
  obtain ⟨⟨⟨x0, x1, x2⟩, y0, y1, y2⟩, hcall⟩ : ((w3.cell? ⟨g, 0, none⟩ = some (.int .i64 D) ∧ w3.cell? ⟨g, 1, none⟩ = some (.slice fa L fc) ∧ w3.cell? ⟨g, 2, none⟩ = some (.int .i64 p)) ∧ w3.cell? ⟨gp, 0, none⟩ = some (.int .i64 D) ∧ w3.cell? ⟨gp, 1, none⟩ = some (.slice (some ⟨r, 0, none⟩) L c) ∧ w3.cell? ⟨gp, 2, none⟩ = some (.int .i64 p)) ∧ True := by
    obtain ⟨h, h'⟩ := (hK3.out w3 B0).1
    exact ⟨⟨⟨h.c0, h.c1, h.c2⟩, h'.c0, h'.c1, h'.c2⟩, trivial⟩
  have hcall1 := hc1.out w3 B0
  clear B0
  go_wp2_with fail
  refine hcall1.mono ?_
  rintro e w4 ⟨v, rfl, o4', B34'⟩
  obtain ⟨k4, n4, a4, l4, c4, rfl⟩ := od_shp (Os.od _ _ o4')
  obtain ⟨q4, hq4⟩ : ∃ z, Hid (w4.heap.size = z) := ⟨_, (rfl : _ = _)⟩
  obtain ⟨w5, ew5⟩ : ∃ z, Hid (w4.alloc (.cells #[.int .i64 k4, .int .i64 n4, .slice a4 l4 c4] 24) = z) := ⟨_, (rfl : _ = _)⟩
  have B45 : Below w4.heap.size w4 w5 := by rw [← ew5.out]; exact (Below.refl _ _).alloc (Nat.le_refl _) _
  have B5 : Hid (Below w3.heap.size w3 w5) := btr B34' B45
  have Q5 : Hid (Bo w5 q4 k4 n4 (.slice a4 l4 c4)) := by
    have h : Bo w5 w4.heap.size k4 n4 (.slice a4 l4 c4) := by rw [← ew5.out]; exact Bo.new _ _ _ _
    rw [hq4.out] at h; exact h
  have o5 : Hid (Os (fun b => w3.heap.size ≤ b ∧ b < q4) w5 t (.agg #[.int .i64 k4, .int .i64 n4, .slice a4 l4 c4])) := by
    have h := Os.keep2 (S' := fun b => w3.heap.size ≤ b ∧ b < q4) (w' := w5) (fun b h1 h2 => ⟨h1, by rw [← hq4.out]; exact h2⟩) (fun b _ hl => B45.block b hl) _ _ o4'
    exact h
  have hs5 : Hid (w5.heap.size = q4 + 1 ∧ w3.heap.size ≤ q4) := by show _ ∧ _; rw [← ew5.out, ← hq4.out]; exact ⟨by simp, B34'.size⟩
  clear o4' B34' B45 x0 x1 x2 y0 y1 y2 hcall hcall1
  go_upto_region 6 with fail
  rw [ew5.out, hq4.out]
  obtain ⟨y0, y1, y2⟩ : w5.cell? ⟨gp, 0, none⟩ = some (.int .i64 D) ∧ w5.cell? ⟨gp, 1, none⟩ = some (.slice (some ⟨r, 0, none⟩) L c) ∧ w5.cell? ⟨gp, 2, none⟩ = some (.int .i64 p) := by
    obtain ⟨h, h'⟩ := (hK3.out w5 B5.out).1
    exact ⟨h'.c0, h'.c1, h'.c2⟩
  have hcall1 := hc1.out w5 B5.out
  go_wp2_with fail
  refine hcall1.mono ?_
  rintro e w6 ⟨v, rfl, o6', B56'⟩
  obtain ⟨k6, n6, a6, l6, c6, rfl⟩ := od_shp (Os.od _ _ o6')
  obtain ⟨q6, hq6⟩ : ∃ z, Hid (w6.heap.size = z) := ⟨_, (rfl : _ = _)⟩
  obtain ⟨w7, ew7⟩ : ∃ z, Hid (w6.alloc (.cells #[.int .i64 k6, .int .i64 n6, .slice a6 l6 c6] 24) = z) := ⟨_, (rfl : _ = _)⟩
  have B67 : Below w6.heap.size w6 w7 := by rw [← ew7.out]; exact (Below.refl _ _).alloc (Nat.le_refl _) _
  have B57 : Below w5.heap.size w5 w7 := btr B56' B67
  have B7 : Hid (Below w3.heap.size w3 w7) := btr B5.out B57
  have Q7 : Hid (Bo w7 q6 k6 n6 (.slice a6 l6 c6)) := by
    have h : Bo w7 w6.heap.size k6 n6 (.slice a6 l6 c6) := by rw [← ew7.out]; exact Bo.new _ _ _ _
    rw [hq6.out] at h; exact h
  have o7 : Hid (Os (fun b => q4 < b ∧ b < q6) w7 t (.agg #[.int .i64 k6, .int .i64 n6, .slice a6 l6 c6])) := by
    have h := Os.keep2 (S' := fun b => q4 < b ∧ b < q6) (w' := w7) (fun b (h1 : _ ≤ b) h2 => ⟨by have := hs5.out.1; omega, by rw [← hq6.out]; exact h2⟩) (fun b _ hl => B67.block b hl) _ _ o6'
    exact h
  have P7 : Hid (Bo w7 q4 k4 n4 (.slice a4 l4 c4)) := Q5.out.bel B57
  have o7b : Hid (Os (fun b => w3.heap.size ≤ b ∧ b < q4) w7 t (.agg #[.int .i64 k4, .int .i64 n4, .slice a4 l4 c4])) := Os.bel (S := fun b => w3.heap.size ≤ b ∧ b < q4) o5.out B57
  have hs7 : Hid (w7.heap.size = q6 + 1 ∧ w3.heap.size ≤ q4 ∧ q4 < q6) := by show _ ∧ _; rw [← ew7.out, ← hq6.out]; exact ⟨by simp, hs5.out.2, by have := hs5.out.1; have := B56'.size; omega⟩
  clear o6' B56' B67 B57 Q5 o5 hs5 y0 y1 y2 hcall1 hc1 B5
  go_upto_region 7 with fail
  rw [ew7.out, hq6.out]
  obtain ⟨x0, x1, x2⟩ : w7.cell? ⟨g, 0, none⟩ = some (.int .i64 D) ∧ w7.cell? ⟨g, 1, none⟩ = some (.slice fa L fc) ∧ w7.cell? ⟨g, 2, none⟩ = some (.int .i64 p) := by
    obtain ⟨h, h'⟩ := (hK3.out w7 B7.out).1
    exact ⟨h.c0, h.c1, h.c2⟩
  have hcall1 := hc2.out w7 B7.out
  go_wp2_with fail
  refine hcall1.mono ?_
  rintro e w8 ⟨v, rfl, o8', B78'⟩
  obtain ⟨k8, n8, a8, l8, c8, rfl⟩ := od_shp (Os.od _ _ o8')
  obtain ⟨q8, hq8⟩ : ∃ z, Hid (w8.heap.size = z) := ⟨_, (rfl : _ = _)⟩
  obtain ⟨w9, ew9⟩ : ∃ z, Hid (w8.alloc (.cells #[.int .i64 k8, .int .i64 n8, .slice a8 l8 c8] 24) = z) := ⟨_, (rfl : _ = _)⟩
  have B89 : Below w8.heap.size w8 w9 := by rw [← ew9.out]; exact (Below.refl _ _).alloc (Nat.le_refl _) _
  have B79 : Below w7.heap.size w7 w9 := btr B78' B89
  have B9 : Hid (Below w3.heap.size w3 w9) := btr B7.out B79
  have Q9 : Hid (Bo w9 q8 k8 n8 (.slice a8 l8 c8)) := by
    have h : Bo w9 w8.heap.size k8 n8 (.slice a8 l8 c8) := by rw [← ew9.out]; exact Bo.new _ _ _ _
    rw [hq8.out] at h; exact h
  have o9 : Hid (Os (fun b => q6 < b ∧ b < q8) w9 t (.agg #[.int .i64 k8, .int .i64 n8, .slice a8 l8 c8])) := by
    have h := Os.keep2 (S' := fun b => q6 < b ∧ b < q8) (w' := w9) (fun b (h1 : _ ≤ b) h2 => ⟨by have := hs7.out.1; omega, by rw [← hq8.out]; exact h2⟩) (fun b _ hl => B89.block b hl) _ _ o8'
    exact h
  have P9 : Hid (Bo w9 q4 k4 n4 (.slice a4 l4 c4)) := P7.out.bel B79
  have o9b : Hid (Os (fun b => w3.heap.size ≤ b ∧ b < q4) w9 t (.agg #[.int .i64 k4, .int .i64 n4, .slice a4 l4 c4])) := Os.bel (S := fun b => w3.heap.size ≤ b ∧ b < q4) o7b.out B79
  have R9 : Hid (Bo w9 q6 k6 n6 (.slice a6 l6 c6)) := Q7.out.bel B79
  have o9c : Hid (Os (fun b => q4 < b ∧ b < q6) w9 t (.agg #[.int .i64 k6, .int .i64 n6, .slice a6 l6 c6])) := Os.bel (S := fun b => q4 < b ∧ b < q6) o7.out B79
  have hs9 : Hid (w9.heap.size = q8 + 1 ∧ w3.heap.size ≤ q4 ∧ q4 < q6 ∧ q6 < q8) := by show _ ∧ _; rw [← ew9.out, ← hq8.out]; exact ⟨by simp, hs7.out.2.1, hs7.out.2.2, by have := hs7.out.1; have := B78'.size; omega⟩
  clear o8' B78' B89 B79 Q7 o7 P7 o7b hs7 x0 x1 x2 hcall1 hc2 B7
  go_upto_region 8 with fail
  rw [ew9.out, hq8.out]
  obtain ⟨y0, y1, y2⟩ : w9.cell? ⟨gp, 0, none⟩ = some (.int .i64 D) ∧ w9.cell? ⟨gp, 1, none⟩ = some (.slice (some ⟨r, 0, none⟩) L c) ∧ w9.cell? ⟨gp, 2, none⟩ = some (.int .i64 p) := by
    obtain ⟨h, h'⟩ := (hK3.out w9 B9.out).1
    exact ⟨h'.c0, h'.c1, h'.c2⟩
  have hcall1 := hc4.out w9 B9.out
  go_wp2_with fail
  refine hcall1.mono ?_
  rintro e w10 ⟨B1, B2, B3, fv', rfl, hfx', hBs', hfl', B910⟩
  have B10 : Hid (Below w3.heap.size w3 w10) := btr B9.out B910
  obtain ⟨q10, hq10⟩ : ∃ z, Hid (w10.heap.size = z) := ⟨_, (rfl : _ = _)⟩
  have hs10 : Hid (w3.heap.size ≤ q4 ∧ q4 < q6 ∧ q6 < q8 ∧ q8 < q10) := by
    show _ ∧ _
    obtain ⟨h1, h2, h3, h4⟩ := hs9.out
    have := B910.size; have := hq10.out
    exact ⟨h2, h3, h4, by omega⟩
  have hfx10 : Hid (Fx (aC B1 B2 B3 (rfb D p F n) D fv' p n) w10) := hfx'
  have hCV : Hid (∀ x ∈ aC B1 B2 B3 (rfb D p F n) D fv' p n, q8 < x.1 ∧ x.1 < q10) := fun x hx => by
    have h1 := blk_lt (hfx' x hx)
    rw [hq10.out] at h1
    refine ⟨?_, h1⟩
    have := hs9.out.1
    obtain ⟨e1, e2, e3⟩ := hBs'
    simp only [aC, List.mem_cons, List.not_mem_nil, or_false] at hx
    rcases hx with rfl | rfl | rfl
    · show q8 < B1; omega
    · show q8 < B2; omega
    · show q8 < B3; omega
  have hfl10 : Hid (rfb D p F n = false → FlR (fun b => q8 < b ∧ b < q10) w10 fv' F) := fun h => by
    obtain ⟨ao, cap, e, hc⟩ := hfl' h
    refine ⟨ao, cap, e, fun i hi => ?_⟩
    obtain ⟨b, off, e1, e2, e3, e4⟩ := hc i hi
    exact ⟨b, off, e1, ⟨by have := hs9.out.1; omega, by rw [← hq10.out]; exact e3⟩, e3, e4⟩
  have P10 : Hid (Bo w10 q4 k4 n4 (.slice a4 l4 c4)) := P9.out.bel B910
  have R10 : Hid (Bo w10 q6 k6 n6 (.slice a6 l6 c6)) := R9.out.bel B910
  have T10 : Hid (Bo w10 q8 k8 n8 (.slice a8 l8 c8)) := Q9.out.bel B910
  have o10b : Hid (Os (fun b => w3.heap.size ≤ b ∧ b < q4) w10 t (.agg #[.int .i64 k4, .int .i64 n4, .slice a4 l4 c4])) := Os.bel (S := fun b => w3.heap.size ≤ b ∧ b < q4) o9b.out B910
  have o10c : Hid (Os (fun b => q4 < b ∧ b < q6) w10 t (.agg #[.int .i64 k6, .int .i64 n6, .slice a6 l6 c6])) := Os.bel (S := fun b => q4 < b ∧ b < q6) o9c.out B910
  have o10 : Hid (Os (fun b => q6 < b ∧ b < q8) w10 t (.agg #[.int .i64 k8, .int .i64 n8, .slice a8 l8 c8])) := Os.bel (S := fun b => q6 < b ∧ b < q8) o9.out B910
  clear hfx' hBs' hfl' B910 P9 R9 Q9 o9b o9c o9 hs9 B9 y0 y1 y2 hcall1 hc4
  unfold aL
  have hnf := nilF 60 #[.pointer (some ⟨B1, 0, none⟩), .pointer (some ⟨B2, 0, none⟩), .pointer (some ⟨B3, 0, none⟩)]
  have hne : (RN != RN) = false := by simp
  have hcall1 := hc3.out w10 B10.out
  go_wp2_with fail
  refine hcall1.mono ?_
  rintro e w11 ⟨rfl, B11'⟩
  have B11 : Hid (Below w3.heap.size w3 w11) := btr B10.out B11'
  have C11 : Hid (Below w10.heap.size w10 w11) := B11'
  clear B11' hcall1
  have hcall1 := hc3.out w11 B11.out
  go_wp2_with fail
  refine hcall1.mono ?_
  rintro e w12 ⟨rfl, B12'⟩
  have B12 : Hid (Below w3.heap.size w3 w12) := btr B11.out B12'
  have C12 : Hid (Below w10.heap.size w10 w12) := btr C11.out B12'
  clear B12' hcall1 B11 C11
  have hcall1 := hc3.out w12 B12.out
  go_wp2_with fail
  refine hcall1.mono ?_
  rintro e w13 ⟨rfl, B13'⟩
  have B13 : Hid (Below w3.heap.size w3 w13) := btr B12.out B13'
  have C13 : Hid (Below w10.heap.size w10 w13) := btr C12.out B13'
  clear B13' hcall1 B12 C12
  obtain ⟨⟨x0, x1, x2⟩, y0, y1, y2⟩ : (w13.cell? ⟨g, 0, none⟩ = some (.int .i64 D) ∧ w13.cell? ⟨g, 1, none⟩ = some (.slice fa L fc) ∧ w13.cell? ⟨g, 2, none⟩ = some (.int .i64 p)) ∧ w13.cell? ⟨gp, 0, none⟩ = some (.int .i64 D) ∧ w13.cell? ⟨gp, 1, none⟩ = some (.slice (some ⟨r, 0, none⟩) L c) ∧ w13.cell? ⟨gp, 2, none⟩ = some (.int .i64 p) := by
    obtain ⟨h, h'⟩ := (hK3.out w13 B13.out).1
    exact ⟨⟨h.c0, h.c1, h.c2⟩, h'.c0, h'.c1, h'.c2⟩
  have hcall1 := hsp.out w13 B13.out
  go_wp2_with fail
  refine hcall1.mono ?_
  rintro e w14 ⟨rfl, B14'⟩
  have B14 : Hid (Below w3.heap.size w3 w14) := btr B13.out B14'
  have C14 : Hid (Below w10.heap.size w10 w14) := btr C13.out B14'
  clear B14' hcall1 B13 C13 x0 x1 x2 y0 y1 y2 hsp hc3
  have x1 : w14.cell? ⟨g, 1, none⟩ = some (.slice fa L fc) := (hK3.out w14 B14.out).1.1.c1
  have y7 : w14.cell? ⟨r, L, none⟩ = some (.int .i64 77) := (hK3.out w14 B14.out).2.2.2.2.1
  have P14 : Hid (Bo w14 q4 k4 n4 (.slice a4 l4 c4)) := P10.out.bel C14.out
  have z0 := P14.out.c0
  have z1 := P14.out.c1
  have z2 := P14.out.c2
  have hL2 : (L : Int) < (L : Int) + 1 := by omega
  have o14 : Os (fun b => w3.heap.size ≤ b ∧ b < q4) w14 t (.agg #[.int .i64 k4, .int .i64 n4, .slice a4 l4 c4]) := Os.bel (S := fun b => w3.heap.size ≤ b ∧ b < q4) o10b.out C14.out
  have hcall1 := spoil14_c (fun b => w3.heap.size ≤ b ∧ b < q4) w14 t _ w14 o14 (Tri14.refl _ _) (Nat.le_refl _)
  clear o14 P10 o10b P14
  go_wp2_with fail
  refine hcall1.mono ?_
  rintro e w15 ⟨rfl, F15', -⟩
  have F15 : Hid (Fr (Dm14 (fun b => w3.heap.size ≤ b ∧ b < q4) w14) w14 w15) := F15'
  have B15 : Hid (Below w3.heap.size w3 w15) := by
    have b := B14.out
    refine ⟨F15'.os.trans b.os, F15'.tape.trans b.tape, F15'.output.trans b.output, Nat.le_trans b.size F15'.size, fun k hk => (F15'.block k (Nat.lt_of_lt_of_le hk b.size) (fun h => ?_)).trans (b.block k hk)⟩
    have := h.1.1; omega
  have hk15 : Hid (∀ b, q4 ≤ b → b < w14.heap.size → w15.heap[b]? = w14.heap[b]?) := fun b h1 h2 => F15'.block b h2 (fun h => by have := h.1.2; omega)
  have kf15 : Hid (KT (fun b => b < q4) w10 w15) := (KT.of_below C14.out).trans ⟨F15'.os, F15'.tape, F15'.output, F15'.size, fun b hb hn => F15'.block b hb (fun h => hn h.1.2)⟩
  clear F15' hcall1 x1 y7 z0 z1 z2 hL2
  -- what stays behind here
  have K15 : Hid (∀ W, KT (fun b => b = r ∨ w15.heap.size ≤ b) w15 W → Bp W g D (.slice fa L fc) p ∧ FlR (fun b => b < g) W (.slice fa L fc) F ∧ W.heap[g + 1]? = some (.cells #[.bool false] 4 (0, 0)) ∧ Bo W q6 k6 n6 (.slice a6 l6 c6) ∧ Bo W q8 k8 n8 (.slice a8 l8 c8) ∧ Od W t (.agg #[.int .i64 k6, .int .i64 n6, .slice a6 l6 c6]) ∧ Od W t (.agg #[.int .i64 k8, .int .i64 n8, .slice a8 l8 c8]) ∧ Fx (aC B1 B2 B3 (rfb D p F n) D fv' p n) W ∧ (rfb D p F n = false → FlR (fun b => q8 < b ∧ b < q10) W fv' F) ∧ Below w.heap.size w W) := fun W k => by
    obtain ⟨⟨h1, -⟩, -, h3, -, -, h6, -⟩ := hK3.out w15 B15.out
    have hr1 := hg3.out
    have hs := hs10.out
    have hz : w10.heap.size ≤ w15.heap.size := kf15.out.size
    have hz2 := hq10.out
    have kk := kf15.out
    have k2 : KT (fun b => b < q4 ∨ b = r ∨ w15.heap.size ≤ b) w10 W := (kk.weak (T' := fun b => b < q4 ∨ b = r ∨ w15.heap.size ≤ b) fun b _ h => .inl h).trans (k.weak fun b _ h => .inr h)
    have hgl : g + 1 < w15.heap.size := blk_lt h6
    refine ⟨⟨(k.block g (by omega) (by omega)).trans h1.b⟩, h3.kt k (fun b h e => by omega), (k.block (g + 1) hgl (by omega)).trans h6, ⟨(k2.block q6 (by omega) (by omega)).trans R10.out.b⟩, ⟨(k2.block q8 (by omega) (by omega)).trans T10.out.b⟩, ?_, ?_, ?_, ?_, ?_⟩
    · have h := Os.keep (S := fun b => q4 < b ∧ b < q6) (S' := fun b => q4 < b ∧ b < q6) (w' := W) (fun _ h => h) (fun b h hb => k2.block b hb (by omega)) _ _ o10c.out
      exact Os.od _ _ h
    · have h := Os.keep (S := fun b => q6 < b ∧ b < q8) (S' := fun b => q6 < b ∧ b < q8) (w' := W) (fun _ h => h) (fun b h hb => k2.block b hb (by omega)) _ _ o10.out
      exact Os.od _ _ h
    · exact k2.fx hfx10.out (fun x hx h => by have := hCV.out x hx; omega)
    · intro h
      exact (hfl10.out h).kt k2 (fun b h1 h2 => by omega)
    · have hb := B15.out
      have h3 := hB3.out
      exact ⟨k.os.trans (hb.os.trans h3.os), k.tape.trans (hb.tape.trans h3.tape), k.output.trans (hb.output.trans h3.output), Nat.le_trans h3.size (Nat.le_trans hb.size k.size), fun b hl => (k.block b (by have := hb.size; omega) (by have := hg.out; omega)).trans ((hb.block b (by omega)).trans (h3.block b hl))⟩
  have hr15 : Hid (∃ cs, w15.heap[r]? = some (.cells cs 3 (0, 0)) ∧ L + 1 ≤ cs.size) := (hK3.out w15 B15.out).2.2.2.2.2.2
  have hz15 : Hid (q10 ≤ w15.heap.size ∧ r < w15.heap.size) := ⟨by have := kf15.out.size; have := hq10.out; omega, by have := hg3.out; have := B15.out.size; omega⟩
  clear F15 hk15 kf15 hfx10 hfl10 R10 T10 o10c o10 B10 C14 B14 hK3 B15 hne hnf
  go_wp2_with fail
  go_loopw [98] (fun i wr => ∃ k : Nat, i = .int .i64 (k : Int) ∧ k ≤ L + 1 ∧ Hid (KT (fun b => b = r) w15 wr) ∧ Hid (∃ cs, wr.heap[r]? = some (.cells cs 3 (0, 0)) ∧ L + 1 ≤ cs.size)) (fun i _ => L + 1 - (intOf i).toNat)
  case atStart => exact ⟨0, rfl, Nat.zero_le _, KT.refl _ _, hr15⟩
  case round =>
  obtain ⟨k, rfl, hk, hKT, hcs⟩ := hrel
  rename World => wr
  by_cases hlt : k < L + 1
  · have hlt' : (k : Int) < (L : Int) + 1 := by omega
    obtain ⟨cs, h1, h2⟩ := hcs.out
    obtain ⟨v0, c0⟩ : ∃ v, wr.cell? ⟨r, k, none⟩ = some v := ⟨cs[k]'(by omega), by rw [Joins.cell_of_block h1]; exact Array.getElem?_eq_getElem _⟩
    have f0 : wr.frozen? ⟨r, k, none⟩ = false := Joins.unfrozen_of_block h1 k
    have hmm : Hid (∃ m : Int, (k : Int).tmod 4 = m ∧ 0 ≤ m ∧ m < 4) := ⟨_, rfl, Int.tmod_nonneg _ (by omega), Int.tmod_lt_of_pos _ (by decide)⟩
    have h1H : Hid (wr.heap[r]? = some (.cells cs 3 (0, 0))) := h1
    have h2H : Hid (L + 1 ≤ cs.size) := h2
    obtain ⟨m, hm, hm0, hm4⟩ := hmm.out
    clear h1 h2 hmm
    go_wp2_with fail
    go_roundw
    case rel => exact ⟨k + 1, by go_num, by omega, KT.sc hKT.out _ rfl, _, hsc h1H.out _, by have := h2H.out; simp; omega⟩
    case measure => simp [intOf]; omega
  · have hlt' : decide ((k : Int) < (L : Int) + 1) = false := decide_eq_false (by omega)
    have hcall1 := usual_c wr
    clear hcs hr15
    go_wp2_with fail
    refine hcall1.mono ?_
    rintro e w16 ⟨bu, rfl, hbu, h16, B16'⟩
    obtain ⟨q16, hq16⟩ : ∃ z, Hid (w16.heap.size = z) := ⟨_, (rfl : _ = _)⟩
    obtain ⟨w17, ew17⟩ : ∃ z, Hid (w16.alloc (.cells #[.int .i64 16, .slice (some ⟨bu, 0, none⟩) 4 4, .int .i64 13] 45) = z) := ⟨_, (rfl : _ = _)⟩
    have B67 : Below w16.heap.size w16 w17 := by rw [← ew17.out]; exact (Below.refl _ _).alloc (Nat.le_refl _) _
    have X17 : Hid (Bp w17 q16 16 (.slice (some ⟨bu, 0, none⟩) 4 4) 13) := by
      have h := Bp.new w16 16 13 (.slice (some ⟨bu, 0, none⟩) 4 4)
      rw [ew17.out, hq16.out] at h; exact h
    have k17 : Hid (KT (fun b => b = r ∨ w15.heap.size ≤ b) w15 w17) := (hKT.out.weak fun b _ h => .inl h).trans (KT.of_below (btr B16' B67))
    have hbu17 : Hid (w15.heap.size ≤ bu ∧ bu < q16 ∧ w17.heap[bu]? = some (.cells #[.int .i64 2, .int .i64 3, .int .i64 4, .int .i64 5] 3 (0, 0))) := ⟨Nat.le_trans hKT.out.size hbu, by rw [← hq16.out]; exact blk_lt h16, (B67.block bu (blk_lt h16)).trans h16⟩
    clear hbu h16 B16' B67 hKT hlt hcall1 hlt'
    go_upto_region 18 with fail
    rw [ew17.out, hq16.out]
    have x1 := X17.out.c1
    go_wp2_with fail
    clear x1
    go_loopw [112] (fun i wr => ∃ k : Nat, i = .int .i64 (k : Int) ∧ k ≤ 4 ∧ Hid (KT (fun b => b = bu) w17 wr) ∧ Hid (∃ cs, wr.heap[bu]? = some (.cells cs 3 (0, 0)) ∧ 4 ≤ cs.size)) (fun i _ => 4 - (intOf i).toNat)
    case atStart => exact ⟨0, rfl, Nat.zero_le _, KT.refl _ _, _, hbu17.out.2.2, Nat.le_refl _⟩
    case round =>
    obtain ⟨k2, rfl, hk2, hKT2, hcs2⟩ := hrel
    rename World => ws
    by_cases hlt2 : k2 < 4
    · have hlt' : (k2 : Int) < 4 := by omega
      have x1 : ws.cell? ⟨q16, 1, none⟩ = some (.slice (some ⟨bu, 0, none⟩) 4 4) := by
        have h : Bp ws q16 16 (.slice (some ⟨bu, 0, none⟩) 4 4) 13 := ⟨(hKT2.out.block q16 X17.out.lt (fun e => by have := hbu17.out.2.1; omega)).trans X17.out.b⟩
        exact h.c1
      obtain ⟨cs, h1, h2⟩ := hcs2.out
      obtain ⟨v0, c0⟩ : ∃ v, ws.cell? ⟨bu, k2, none⟩ = some v := ⟨cs[k2]'(by omega), by rw [Joins.cell_of_block h1]; exact Array.getElem?_eq_getElem _⟩
      have f0 : ws.frozen? ⟨bu, k2, none⟩ = false := Joins.unfrozen_of_block h1 k2
      have h1H : Hid (ws.heap[bu]? = some (.cells cs 3 (0, 0))) := h1
      have h2H : Hid (4 ≤ cs.size) := h2
      clear h1 h2
      go_wp2_with fail
      go_roundw
      case rel => exact ⟨k2 + 1, by go_num, by omega, KT.sc hKT2.out _ rfl, _, hsc h1H.out _, by have := h2H.out; simp; omega⟩
      case measure => simp [intOf]; omega
    · have hlt' : decide ((k2 : Int) < 4) = false := decide_eq_false (by omega)
      have ks : Hid (KT (fun b => b = r ∨ w15.heap.size ≤ b) w15 ws) := k17.out.trans (hKT2.out.weak fun b _ e => .inr (by have := hbu17.out.1; omega))
      have hKK : Hid (∀ W, Below ws.heap.size ws W → KT (fun b => b = r ∨ w15.heap.size ≤ b) w15 W) := fun W hW => ks.out.trans (KT.of_below hW)
      clear hcs2 hKT2 X17 hbu17 k17
      have kd := K15.out ws ks.out
      have y0 := kd.2.2.2.1.c0
      have y1 := kd.2.2.2.1.c1
      have y2 := kd.2.2.2.1.c2
      have z0 := kd.2.2.2.2.1.c0
      have z1 := kd.2.2.2.2.1.c1
      have z2 := kd.2.2.2.2.1.c2
      have hcall1 := rSame_c t t _ _ ws kd.2.2.2.2.2.1 kd.2.2.2.2.2.2.1
      clear kd
      go_wp2_with fail
      refine hcall1.mono ?_
      rintro e w18 ⟨bb, rfl, hbb, B18'⟩
      obtain rfl : bb = true := hbb.2 rfl
      have B18 : Hid (Below ws.heap.size ws w18) := B18'
      clear B18' hcall1 hbb y0 y1 y2 z0 z1 z2
      have hcall1 := usual_c w18
      go_wp2_with fail
      refine hcall1.mono ?_
      rintro e w19 ⟨b1, rfl, -, h19, B19'⟩
      have B19 : Hid (Below ws.heap.size ws w19) := btr B18.out B19'
      have u19 : Hid (FlR (fun x => x = b1) w19 (.slice (some ⟨b1, 0, none⟩) 4 4) [2, 3, 4, 5]) := usual_fl h19
      clear h19 B19' hcall1
      have hcall1 := dusual_c w19
      go_wp2_with fail
      refine hcall1.mono ?_
      rintro e w20 ⟨b2, rfl, -, h20, B20'⟩
      have B20 : Hid (Below ws.heap.size ws w20) := btr B19.out B20'
      have u20 : Hid (FlR (fun x => x = b2) w20 (.slice (some ⟨b2, 0, none⟩) 4 4) [2, 3, 4, 5]) := usual_fl h20
      have v20 : Hid (FlR (fun x => x = b1) w20 (.slice (some ⟨b1, 0, none⟩) 4 4) [2, 3, 4, 5]) := u19.out.kt (T := fun _ => False) (KT.of_below B20') (fun _ (h : False) => h.elim)
      clear h20 B20' hcall1
      have hcall1 := spol_c (D := 16) (p := 13) (F := [2, 3, 4, 5]) _ _ w20 v20.out u20.out (by decide)
      go_wp2_with fail
      refine hcall1.mono ?_
      rintro e w21 ⟨rfl, B21'⟩
      have B21 : Hid (Below ws.heap.size ws w21) := btr B20.out B21'
      clear B21' hcall1 u19 u20 v20 B18 B19 B20
      have kd := K15.out w21 (hKK.out w21 B21.out)
      have x0 := kd.1.c0
      have x1 := kd.1.c1
      have x2 := kd.1.c2
      have hcall1 := dAll_c (D := D) (p := p) (F := F) n (.slice fa L fc) w21 kd.2.1 hlnH.out
      obtain ⟨XS, hXS⟩ : ∃ z, Hid (alP D p F n = z) := ⟨_, (rfl : _ = _)⟩
      have hXl : Hid (XS.length ≤ 4096) := by show _ ≤ _; rw [← hXS.out]; exact alP_len _ _ _ _
      rw [hXS.out] at hcall1
      clear kd
      go_wp2_with fail
      refine hcall1.mono ?_
      rintro e w22 ⟨kv, ss, UU, rfl, L22', hUU', B22'⟩
      obtain ⟨av, ac, rfl⟩ := L22'.shape
      obtain ⟨N, hN⟩ : ∃ z, Hid (XS.length = z) := ⟨_, (rfl : _ = _)⟩
      obtain ⟨q22, hq22⟩ : ∃ z, Hid (w22.heap.size = z) := ⟨_, (rfl : _ = _)⟩
      rw [hN.out] at L22' ⊢
      obtain ⟨w23, ew23⟩ : ∃ z, Hid (w22.alloc (.cells #[.slice av N ac] 22) = z) := ⟨_, (rfl : _ = _)⟩
      have B23' : Below w22.heap.size w22 w23 := by rw [← ew23.out]; exact (Below.refl _ _).alloc (Nat.le_refl _) _
      have A23 : Hid (w23.heap[q22]? = some (.cells #[.slice av N ac] 22 (0, 0))) := by
        show _ = _; rw [← ew23.out, ← hq22.out]; exact heap_alloc_new _ _
      have L23 : Hid (Lrw w21.heap.size (fun b => UU b ∧ b < w22.heap.size) w23 (.slice av N ac) XS ss) := L22'.cutU.bel B23'
      have U23 : Hid (∀ b, UU b → w21.heap.size ≤ b) := hUU'
      have B23 : Hid (Below ws.heap.size ws w23) := btr B21.out (btr B22' B23')
      have z23 : Hid (w23.heap.size = q22 + 1 ∧ w15.heap.size ≤ w21.heap.size ∧ w21.heap.size ≤ q22) := by
        show _ ∧ _
        have h1 := B22'.size; have h2 := hq22.out; have h3 := ks.out.size; have h4 := B21.out.size
        exact ⟨by rw [← ew23.out, ← hq22.out]; simp, by omega, by omega⟩
      have k23 : Hid (KT (fun b => b = r ∨ w15.heap.size ≤ b) w15 w23) := hKK.out w23 B23.out
      clear L22' hUU' B22' B23' x0 x1 x2 hcall1 B21 hKK ks
      go_upto_region 26 with fail
      rw [ew23.out, hq22.out]
      clear ew23
      go_wp2_with fail
      refine (wpIn_wide (n := 9)).1 ?_
      first | refine wpIn_block ?_ | skip
      refine wpIn_loop_rounds 3 ?_
      rw [roundsIn_succ]
      gi_wp2_with fail
      have hseq : Hid (SeqU Tryd.prog 60 (aL B1 B2 B3) (aC B1 B2 B3 (rfb D p F n) D fv' p n) toldO XS True (fun V W => rfb D p F n = false → FlR V W fv' F) (fun _ => False)) := by
        have h := alP_seq (B1 := B1) (B2 := B2) (B3 := B3) (D := D) (p := p) (F := F) (fv := fv') n True
        rw [hXS.out] at h; exact h
      obtain ⟨kb, hkb⟩ : ∃ z, Hid (w23.heap.size = z) := ⟨_, (rfl : _ = _)⟩
      obtain ⟨w24, ew24⟩ : ∃ z, Hid (w23.alloc (.cells #[.int .i64 0] 3) = z) := ⟨_, (rfl : _ = _)⟩
      have B24 : Below w23.heap.size w23 w24 := by rw [← ew24.out]; exact (Below.refl _ _).alloc (Nat.le_refl _) _
      have C24 : Hid (w24.heap[kb]? = some (.cells #[.int .i64 0] 3 (0, 0))) := by
        show _ = _; rw [← ew24.out, ← hkb.out]; exact heap_alloc_new _ _
      have A24 : Hid (w24.heap[q22]? = some (.cells #[.slice av N ac] 22 (0, 0))) := (B24.block _ (blk_lt A23.out)).trans A23.out
      have L24 : Hid (Lrw w21.heap.size (fun b => UU b ∧ b < w22.heap.size) w24 (.slice av N ac) XS ss) := L23.out.bel B24
      have k24 : Hid (KT (fun b => b = r ∨ w15.heap.size ≤ b) w15 w24) := k23.out.trans (KT.of_below B24)
      have z24 : Hid (w24.heap.size = kb + 1 ∧ kb = q22 + 1 ∧ w15.heap.size ≤ w21.heap.size ∧ w21.heap.size ≤ q22 ∧ q10 ≤ w15.heap.size) := by
        show _ ∧ _
        obtain ⟨h1, h2, h3⟩ := z23.out
        exact ⟨by rw [← ew24.out, ← hkb.out]; simp, by rw [← hkb.out]; exact h1, h2, h3, hz15.out.1⟩
      obtain ⟨MN, hMN⟩ : ∃ z, Hid (((min XS.length 200 : Nat) : Int) = z) := ⟨_, (rfl : _ = _)⟩
      have vU : Hid (∀ b, UU b ∧ b < w22.heap.size → ¬ (q8 < b ∧ b < q10) ∧ b < q22) := fun b ⟨h1, h2⟩ => by
        have := U23.out b h1; have := hq22.out
        obtain ⟨e1, e2, e3, e4, e5⟩ := z24.out
        exact ⟨fun h => by omega, by omega⟩
      have vO : Hid (∀ b, (Value.slice av N ac).ownBlock = some b → ¬ (q8 < b ∧ b < q10)) := fun b hb h => by
        have := (L24.out.ge hb).1
        obtain ⟨e1, e2, e3, e4, e5⟩ := z24.out
        omega
      rw [ew24.out, hkb.out]
      clear B24 A23 L23 k23 z23 ew24
      refine mr_rf2 (ga := w21.heap.size) (V := fun b => q8 < b ∧ b < q10) (UA := fun b => UU b ∧ b < w22.heap.size) (fun args w => by kernel_rfl) hseq.out (fun _ _ _ _ a k hT h => (a h).kt k hT) (K15.out _ k24.out).2.2.2.2.2.2.2.2.1 (K15.out _ k24.out).2.2.2.2.2.2.2.1 hCV.out ?bV L24.out hXl.out A24.out C24.out ?vab ?vkb ?vUA vO.out ?hQn (fun a W h => h)
      case bV => intro b hb; obtain ⟨e1, e2, e3, e4, e5⟩ := z24.out; show b < _; have := hb.2; omega
      case vab => intro h; obtain ⟨e1, e2, e3, e4, e5⟩ := z24.out; have := h.2; omega
      case vkb => intro h; obtain ⟨e1, e2, e3, e4, e5⟩ := z24.out; have := h.2; omega
      case vUA => intro b hb; obtain ⟨e1, e2, e3, e4, e5⟩ := z24.out; obtain ⟨f1, f2⟩ := vU.out b hb; exact ⟨f1, by omega, by omega⟩
      case hQn =>
      intro w25 kt25 c25 d25
      rw [hMN.out] at c25
      have b25 : w25.heap[q22]? = some (.cells #[.slice av N ac] 22 (0, 0)) := (kt25.block q22 (blk_lt A24.out) (by obtain ⟨e1, e2, e3, e4, e5⟩ := z24.out; omega)).trans A24.out
      have x0 : w25.cell? ⟨kb, 0, none⟩ = some (.int .i64 MN) := Joins.cell_of_block c25 0
      have y0 : w25.cell? ⟨q22, 0, none⟩ = some (.slice av N ac) := Joins.cell_of_block b25 0
      have hif : (if (200 : Int) < (N : Int) then (200 : Int) else (N : Int)) = MN := by
        rw [← hMN.out, hN.out]
        by_cases h : (200 : Int) < (N : Int)
        · rw [if_pos h]; omega
        · rw [if_neg h]; omega
      have K25 : Hid (KT (fun b => b = kb) w24 w25) := kt25
      have D25 : Hid (w25.heap[w24.heap.size]? = some (.deferred (some []))) := d25
      clear kt25 c25 d25 b25
      gi_wp2_with fail
      clear x0 y0 hif
      rw [roundsIn_succ]
      gi_wp2_with fail
      obtain ⟨kc, hkc⟩ : ∃ z, Hid (w25.heap.size = z) := ⟨_, (rfl : _ = _)⟩
      obtain ⟨w26, ew26⟩ : ∃ z, Hid (w25.alloc (.cells #[.int .i64 0] 3) = z) := ⟨_, (rfl : _ = _)⟩
      have B26 : Below w25.heap.size w25 w26 := by rw [← ew26.out]; exact (Below.refl _ _).alloc (Nat.le_refl _) _
      have C26 : Hid (w26.heap[kc]? = some (.cells #[.int .i64 0] 3 (0, 0))) := by
        show _ = _; rw [← ew26.out, ← hkc.out]; exact heap_alloc_new _ _
      have z26 : Hid (w26.heap.size = kc + 1 ∧ w24.heap.size < kc ∧ w24.heap.size < w26.heap.size) := by
        show _ ∧ _
        have h1 := blk_lt D25.out; have h2 := hkc.out
        have h3 : w26.heap.size = kc + 1 := by rw [← ew26.out, ← hkc.out]; simp
        exact ⟨h3, by omega, by omega⟩
      have A26 : Hid (w26.heap[q22]? = some (.cells #[.slice av N ac] 22 (0, 0))) := by
        have h := (K25.out.block q22 (blk_lt A24.out) (by obtain ⟨e1, e2, e3, e4, e5⟩ := z24.out; omega)).trans A24.out
        exact (B26.block _ (blk_lt h)).trans h
      have D26 : Hid (w26.heap[w24.heap.size]? = some (.deferred (some []))) := (B26.block _ (blk_lt D25.out)).trans D25.out
      have L26 : Hid (Lrw w21.heap.size (fun b => UU b ∧ b < w22.heap.size) w26 (.slice av N ac) XS ss) := (L24.out.kt K25.out (fun b hb => by
        subst hb
        obtain ⟨e1, e2, e3, e4, e5⟩ := z24.out
        refine ⟨fun e => ?_, fun u => ?_⟩
        · obtain ⟨_, _, cs, h2⟩ := own_ty L24.out.own e
          rw [C24.out] at h2; injection h2 with h2; injection h2 with _ h2; exact absurd h2 (by decide)
        · have := (vU.out _ u).2; omega)).bel B26
      have k26 : Hid (KT (fun b => b = r ∨ w15.heap.size ≤ b) w15 w26) := k24.out.trans ((K25.out.weak fun b _ e => .inr (by obtain ⟨e1, e2, e3, e4, e5⟩ := z24.out; omega)).trans (KT.of_below B26))
      rw [ew26.out, hkc.out]
      clear B26 ew26 L24 C24 A24
      refine mr_rf2 (ga := w21.heap.size) (V := fun b => q8 < b ∧ b < q10) (UA := fun b => UU b ∧ b < w22.heap.size) (fun args w => by kernel_rfl) hseq.out (fun _ _ _ _ a k hT h => (a h).kt k hT) (K15.out _ k26.out).2.2.2.2.2.2.2.2.1 (K15.out _ k26.out).2.2.2.2.2.2.2.1 hCV.out ?bV L26.out hXl.out A26.out C26.out ?vab ?vkb ?vUA vO.out ?hQn (fun a W h => h)
      case bV => intro b hb; obtain ⟨e1, e2, e3, e4, e5⟩ := z24.out; obtain ⟨f1, f2, f3⟩ := z26.out; show b < _; have := hb.2; omega
      case vab => intro h; obtain ⟨e1, e2, e3, e4, e5⟩ := z24.out; have := h.2; omega
      case vkb => intro h; obtain ⟨e1, e2, e3, e4, e5⟩ := z24.out; obtain ⟨f1, f2, f3⟩ := z26.out; have := h.2; omega
      case vUA => intro b hb; obtain ⟨e1, e2, e3, e4, e5⟩ := z24.out; obtain ⟨g1, g2, g3⟩ := z26.out; obtain ⟨f1, f2⟩ := vU.out b hb; exact ⟨f1, by omega, by omega⟩
      case hQn =>
      intro w27 kt27 c27 d27
      rw [hMN.out] at c27
      have b27 : w27.heap[q22]? = some (.cells #[.slice av N ac] 22 (0, 0)) := (kt27.block q22 (blk_lt A26.out) (by obtain ⟨e1, e2, e3, e4, e5⟩ := z24.out; obtain ⟨f1, f2, f3⟩ := z26.out; omega)).trans A26.out
      have x0 : w27.cell? ⟨kc, 0, none⟩ = some (.int .i64 MN) := Joins.cell_of_block c27 0
      have y0 : w27.cell? ⟨q22, 0, none⟩ = some (.slice av N ac) := Joins.cell_of_block b27 0
      have hif : (if (200 : Int) < (N : Int) then (200 : Int) else (N : Int)) = MN := by
        rw [← hMN.out, hN.out]
        by_cases h : (200 : Int) < (N : Int)
        · rw [if_pos h]; omega
        · rw [if_neg h]; omega
      have k27 : KT (fun b => b = r ∨ w15.heap.size ≤ b) w15 w27 := k26.out.trans (kt27.weak fun b _ e => .inr (by obtain ⟨e1, e2, e3, e4, e5⟩ := z24.out; obtain ⟨f1, f2, f3⟩ := z26.out; omega))
      have kd := K15.out w27 k27
      have t0 : w27.cell? ⟨g + 1, 0, none⟩ = some (.bool false) := Joins.cell_of_block kd.2.2.1 0
      have tf : w27.frozen? ⟨g + 1, 0, none⟩ = false := Joins.unfrozen_of_block kd.2.2.1 0
      have hz4 : g + 1 < q10 ∧ g = w.heap.size ∧ w24.heap.size < w26.heap.size ∧ q10 ≤ w24.heap.size := by
        obtain ⟨e1, e2, e3, e4, e5⟩ := z24.out; obtain ⟨f1, f2, f3⟩ := z26.out; have := hs10.out; have := hg3.out; have := hg.out
        exact ⟨by omega, by omega, by omega, by omega⟩
      have d1 : Hid ((w27.setCell ⟨g + 1, 0, none⟩ (.bool true)).heap[w26.heap.size]? = some (.deferred (some []))) := by
        show _ = _
        rw [sc_blk _ _ _ (by omega)]; exact d27
      have d2 : Hid (((w27.setCell ⟨g + 1, 0, none⟩ (.bool true)).putObj w26.heap.size (.deferred none)).heap[w24.heap.size]? = some (.deferred (some []))) := by
        show _ = _
        rw [World.putObj_heap_other (by omega), sc_blk _ _ _ (by omega)]
        exact (kt27.block w24.heap.size (blk_lt D26.out) (by obtain ⟨f1, f2, f3⟩ := z26.out; omega)).trans D26.out
      have kE : KT (fun b => w.heap.size ≤ b) w27 (((w27.setCell ⟨g + 1, 0, none⟩ (.bool true)).putObj w26.heap.size (.deferred none)).putObj w24.heap.size (.deferred none)) :=
        (KT.sc (KT.refl _ _) _ (by omega)).trans ((KT.put _ _ _ (by omega)).trans (KT.put _ _ _ (by omega)))
      have hfin : Hid (Below w.heap.size w (((w27.setCell ⟨g + 1, 0, none⟩ (.bool true)).putObj w26.heap.size (.deferred none)).putObj w24.heap.size (.deferred none))) := by
        have b := kd.2.2.2.2.2.2.2.2.2
        exact ⟨kE.os.trans b.os, kE.tape.trans b.tape, kE.output.trans b.output, Nat.le_trans b.size kE.size, fun x hx => (kE.block x (Nat.lt_of_lt_of_le hx b.size) (by omega)).trans (b.block x hx)⟩
      have c9 : (((w27.setCell ⟨g + 1, 0, none⟩ (.bool true)).putObj w26.heap.size (.deferred none)).putObj w24.heap.size (.deferred none)).cell? ⟨g + 1, 0, none⟩ = some (.bool true) := by
        have h1 : (((w27.setCell ⟨g + 1, 0, none⟩ (.bool true)).putObj w26.heap.size (.deferred none)).putObj w24.heap.size (.deferred none)).heap[g + 1]? = (w27.setCell ⟨g + 1, 0, none⟩ (.bool true)).heap[g + 1]? := by
          rw [World.putObj_heap_other (by omega), World.putObj_heap_other (by omega)]
        rw [World.cell?_of_block (a := ⟨g + 1, 0, none⟩) h1]
        exact World.cell?_setCell_same' _ _ _ (by rw [t0]; rfl)
      have c9H : Hid _ := c9
      clear kt27 c27 d27 b27 k27 kd hz4 kE c9
      gi_wp2_with fail
      rw [roundsIn_succ]
      gi_wp2_with fail
      go_wp2_with fail
      show QR .ret _ _
      rw [← hQR.out]
      refine ⟨by simp, .inl ⟨_, _, rfl, run_takeDeferred d1.out, ?_⟩⟩
      refine ⟨by simp, .inl ⟨_, _, rfl, run_takeDeferred d2.out, ?_⟩⟩
      have c9 := c9H.out
      refine ⟨.bool true, ?_, rfl, hfin.out⟩
      simp [results, Tryd.f7, go_sem, c9]
end Go.Proofs.YtoaccmblaifnmaaDoor
