/-
  What PlannerLists and its fellows rest on, joined: Err Num Pnl Dk9 Laid PlannerCostsWalk Dkb Frm Mb1 Mb2.
-/
import Derived.Test.YtoaccmblaifnmaaDoorProg
import Derived.Test.YtoaccmblaifnmaaDoorRows
import Derived.WalkKit
import Derived.WalkLawsBesides
import Derived.LaidEql
import Derived.LaidLaws
import Derived.LaidHandle
import Derived.Stop.Joined
import Derived.Outline
import Derived.Laws.CopyOwn
import Ieee.Arith
import Derived.Deep.QuietTactic
import Derived.BigQuiet
import Derived.WalkSmall
import Derived.RegionTactic
import Derived.Lib.Mul64
import Derived.Laws.Bits64b
import Derived.Deep.CutBlock
import Derived.Deep.DeepCutAuto
import Derived.Maps.AppendAt
import Derived.Deep.RegionHeld3
import Derived.Deep.RegionWith
import Derived.Laws.OwnMore
import Derived.RangeFuncNested
import Derived.RangeFuncBound
import Derived.RangeFuncCalls
import Derived.RangeFuncLeaves
import Derived.RangeFuncBox
import Derived.Shelf.Abstract
import Derived.Shelf.RegionOpen
import Derived.OwnWalkIn
import Derived.TacticsInMore
import Derived.LoopNIn
import Derived.LoopIn
import Derived.Laws.Rows
import Derived.Lib.ItoaNum
import Derived.Laws.IdiomStrings
import Derived.Lib.SmallJoins
import Derived.Lib.HexFns
import Derived.Recover
import Derived.RegionDies
import Derived.Lib.AppendIntMem
import Derived.Laws.AppendOwn
import Derived.OwnWalk
import Derived.BigCall
import Derived.Deep.RegionHeldLaw
import Derived.Laws.FloatArith
import Derived.Laws.ComplexArith
import Derived.Laws.MakeOwn
import Derived.MapKept
import Derived.Carry
import Derived.ChangeAlike
import Derived.Deep.RegionLaw
import Derived.Defers
import Derived.LaidMore
import Derived.ProofKit
import Derived.Lib.LaidTab
import Derived.LaidSub
import Derived.Deep.AppendSrc
import Derived.Test.YtoaccmblaifnmaaDoorBa1
import Derived.Test.YtoaccmblaifnmaaDoorBa2
import Derived.Test.YtoaccmblaifnmaaDoorBa3
import Derived.Test.YtoaccmblaifnmaaDoorBa4
import Derived.Test.YtoaccmblaifnmaaDoorBa5
import Derived.Test.YtoaccmblaifnmaaDoorBa6
import Derived.Test.YtoaccmblaifnmaaDoorBa7
import Derived.Test.YtoaccmblaifnmaaDoorBa8
import Derived.Test.YtoaccmblaifnmaaDoorBa9
import Derived.Test.YtoaccmblaifnmaaDoorBb1
import Derived.Test.YtoaccmblaifnmaaDoorBb2
import Derived.Test.YtoaccmblaifnmaaDoorBb3
import Derived.Test.YtoaccmblaifnmaaDoorBb4
import Derived.Test.YtoaccmblaifnmaaDoorBb5
import Derived.Test.YtoaccmblaifnmaaDoorBb6
import Derived.Test.YtoaccmblaifnmaaDoorBb7
import Derived.Test.YtoaccmblaifnmaaDoorBb8
import Derived.Test.YtoaccmblaifnmaaDoorBb9
import Derived.Test.YtoaccmblaifnmaaDoorBc1
import Derived.Test.YtoaccmblaifnmaaDoorBc2
import Derived.Test.YtoaccmblaifnmaaDoorBc3
import Derived.Test.YtoaccmblaifnmaaDoorBc4
import Derived.Test.YtoaccmblaifnmaaDoorBc5
import Derived.Test.YtoaccmblaifnmaaDoorBc6
import Derived.Test.YtoaccmblaifnmaaDoorBc7
import Derived.Test.YtoaccmblaifnmaaDoorBc8
import Derived.Test.YtoaccmblaifnmaaDoorBc9
import Derived.Test.YtoaccmblaifnmaaDoorBd1
import Derived.Test.YtoaccmblaifnmaaDoorBd2
import Derived.Test.YtoaccmblaifnmaaDoorBd3
import Derived.Test.YtoaccmblaifnmaaDoorBd4
import Derived.Test.YtoaccmblaifnmaaDoorBd5
import Derived.Test.YtoaccmblaifnmaaDoorBd6
import Derived.Test.YtoaccmblaifnmaaDoorBd7
import Derived.Test.YtoaccmblaifnmaaDoorBd8
import Derived.Test.YtoaccmblaifnmaaDoorBd9
import Derived.Test.YtoaccmblaifnmaaDoorBe1
import Derived.Test.YtoaccmblaifnmaaDoorBe2
import Derived.Test.YtoaccmblaifnmaaDoorBe3
import Derived.Test.YtoaccmblaifnmaaDoorBe4
import Derived.Test.YtoaccmblaifnmaaDoorBe5
import Derived.Test.YtoaccmblaifnmaaDoorBe6
import Derived.Test.YtoaccmblaifnmaaDoorBe7
import Derived.Test.YtoaccmblaifnmaaDoorBe8
import Derived.Test.YtoaccmblaifnmaaDoorBe9
import Derived.Test.YtoaccmblaifnmaaDoorBf1
import Derived.Test.YtoaccmblaifnmaaDoorBf2
import Derived.Test.YtoaccmblaifnmaaDoorBf5
namespace Go.Proofs.YtoaccmblaifnmaaDoor
open Go.RowKit

/-- The nineteen sentinels of a world. -/
structure Errs (w : World) (al : List Addr) : Prop where
  sent : Sent w [5, 6, 1, 7, 2, 3, 4, 0, 8, 9, 10, 11, 12, 13, 14, 15, 16, 17, 18] al
  nd : al.Nodup
  row : ∀ a ∈ al, ∃ c t, w.heap[a.block]? = some (.cells c t (0, 0))
theorem Errs.below {w w' : World} {al : List Addr} (h : Errs w al) (hb : Below w.heap.size w w') : Errs w' al :=
  ⟨Sent.below hb _ _ h.sent, h.nd, fun a ha => by
    obtain ⟨c, t, e⟩ := h.row a ha
    exact ⟨c, t, by rw [hb.block a.block (Array.getElem?_eq_some_iff.1 e).1]; exact e⟩⟩
theorem Errs.len {w : World} {al : List Addr} (h : Errs w al) : ∃ a0 a1 a2 a3 a4 a5 a6 a7 a8 a9 a10 a11 a12 a13 a14 a15 a16 a17 a18, al = [a0, a1, a2, a3, a4, a5, a6, a7, a8, a9, a10, a11, a12, a13, a14, a15, a16, a17, a18] := by
  obtain ⟨hs, _, _⟩ := h
  match al, hs with
  | [a0, a1, a2, a3, a4, a5, a6, a7, a8, a9, a10, a11, a12, a13, a14, a15, a16, a17, a18], _ => exact ⟨a0, a1, a2, a3, a4, a5, a6, a7, a8, a9, a10, a11, a12, a13, a14, a15, a16, a17, a18, rfl⟩
end Go.Proofs.YtoaccmblaifnmaaDoor
namespace Go.Proofs.YtoaccmblaifnmaaDoor
open Go.RowKit
theorem ret_intN {k : IntKind} {a b : Int} (h : a = b) : Ending.returned (.int k a) = .returned (.int k b) := by rw [h]
/-- The k-th error's value. -/
def ek (al : List Addr) (k : Nat) : Value := ev (al.getD k ⟨0, 0, none⟩)
/-- The array that timbrenum.list makes. -/
def earr (al : List Addr) : Value := .agg (al.map ev).toArray
set_option maxHeartbeats 1000000 in
theorem list_c (al : List Addr) (w : World) (he : Errs w al) :
    Calls Tryd.prog 49 #[] w fun e w' => e = .returned (earr al) ∧ Below w.heap.size w w' := by
  obtain ⟨a0, a1, a2, a3, a4, a5, a6, a7, a8, a9, a10, a11, a12, a13, a14, a15, a16, a17, a18, rfl⟩ := he.len
  obtain ⟨h0, h1, h2, h3, h4, h5, h6, h7, h8, h9, h10, h11, h12, h13, h14, h15, h16, h17, h18, _⟩ := he.sent
  have hz : Hid (Errs w [a0, a1, a2, a3, a4, a5, a6, a7, a8, a9, a10, a11, a12, a13, a14, a15, a16, a17, a18]) := he
  clear he
  replace h0 := fun o => cell_alloc h0 o
  replace h1 := fun o => cell_alloc h1 o
  replace h2 := fun o => cell_alloc h2 o
  replace h3 := fun o => cell_alloc h3 o
  replace h4 := fun o => cell_alloc h4 o
  replace h5 := fun o => cell_alloc h5 o
  replace h6 := fun o => cell_alloc h6 o
  replace h7 := fun o => cell_alloc h7 o
  replace h8 := fun o => cell_alloc h8 o
  replace h9 := fun o => cell_alloc h9 o
  replace h10 := fun o => cell_alloc h10 o
  replace h11 := fun o => cell_alloc h11 o
  replace h12 := fun o => cell_alloc h12 o
  replace h13 := fun o => cell_alloc h13 o
  replace h14 := fun o => cell_alloc h14 o
  replace h15 := fun o => cell_alloc h15 o
  replace h16 := fun o => cell_alloc h16 o
  replace h17 := fun o => cell_alloc h17 o
  replace h18 := fun o => cell_alloc h18 o
  have hg : Hid (∀ c : Array Value, (w.alloc (.cells c 80)).heap[w.heap.size]? = some (.cells c 80 (0, 0))) := fun c => (MapKept.heap_alloc w _).1
  go_enter Tryd.func49, Tryd.ntmps49
  go_wp2_with (first
    | (refine wpList_build rfl 80 _ rfl (by kernel_rfl) ?_)
    | (refine wpList_store_row rfl 80 _ _ rfl w.heap.size #[ev a0, ev a1, ev a2, ev a3, ev a4, ev a5, ev a6, ev a7, ev a8, ev a9, ev a10, ev a11, ev a12, ev a13, ev a14, ev a15, ev a16, ev a17, ev a18] rfl (by kernel_rfl) 80 #[.nilIface, .nilIface, .nilIface, .nilIface, .nilIface, .nilIface, .nilIface, .nilIface, .nilIface, .nilIface, .nilIface, .nilIface, .nilIface, .nilIface, .nilIface, .nilIface, .nilIface, .nilIface, .nilIface] (hg.out _) (by kernel_rfl) rfl (by kernel_rfl) ?_))
  refine bodyPost_ret (v := .agg #[ev a0, ev a1, ev a2, ev a3, ev a4, ev a5, ev a6, ev a7, ev a8, ev a9, ev a10, ev a11, ev a12, ev a13, ev a14, ev a15, ev a16, ev a17, ev a18]) ?_ rfl ⟨rfl, ?_⟩
  · exact results_cell_row Tryd.results49 _ _ w.heap.size 80 #[ev a0, ev a1, ev a2, ev a3, ev a4, ev a5, ev a6, ev a7, ev a8, ev a9, ev a10, ev a11, ev a12, ev a13, ev a14, ev a15, ev a16, ev a17, ev a18] (0, 0) _ rfl (setRow_heap _ _ _ _ _ _ (hg.out _)) Tryd.underlying80 rfl (by kernel_rfl)
  · exact below_setRow ((Below.refl _ _).alloc (Nat.le_refl _) _) (Nat.le_refl _) _
theorem index_c {w0 : World} {al : List Addr} (he : Errs w0 al) (k : Nat) (hk : k < 19) (w : World) :
    (Instr.index 80 (earr al) (.int .i64 (k : Nat))).run Tryd.prog w = .ok (ek al k) w := by
  obtain ⟨a0, a1, a2, a3, a4, a5, a6, a7, a8, a9, a10, a11, a12, a13, a14, a15, a16, a17, a18, rfl⟩ := he.len
  exact match k, hk with
    | 0, _ => by kernel_rfl
    | 1, _ => by kernel_rfl
    | 2, _ => by kernel_rfl
    | 3, _ => by kernel_rfl
    | 4, _ => by kernel_rfl
    | 5, _ => by kernel_rfl
    | 6, _ => by kernel_rfl
    | 7, _ => by kernel_rfl
    | 8, _ => by kernel_rfl
    | 9, _ => by kernel_rfl
    | 10, _ => by kernel_rfl
    | 11, _ => by kernel_rfl
    | 12, _ => by kernel_rfl
    | 13, _ => by kernel_rfl
    | 14, _ => by kernel_rfl
    | 15, _ => by kernel_rfl
    | 16, _ => by kernel_rfl
    | 17, _ => by kernel_rfl
    | 18, _ => by kernel_rfl
    | n + 19, h => absurd h (by omega)
theorem eql_c {w : World} {al : List Addr} (he : Errs w al) (j k : Nat) (hj : j < 19) (hk : k < 19) :
    (binOp .eql 31 (ek al j) (ek al k)).run Tryd.prog w = .ok (.bool (decide (j = k))) w := by
  obtain ⟨i, d, hi, ci, hd, sd⟩ := err_info
  have hl : al.length = 19 := by obtain ⟨a0, a1, a2, a3, a4, a5, a6, a7, a8, a9, a10, a11, a12, a13, a14, a15, a16, a17, a18, rfl⟩ := he.len; rfl
  have gj : al.getD j ⟨0, 0, none⟩ = al[j] := by simp [List.getD, hl, hj]
  have gk : al.getD k ⟨0, 0, none⟩ = al[k] := by simp [List.getD, hl, hk]
  unfold ek ev
  rw [gj, gk]
  by_cases h : j = k
  · subst h
    rw [decide_eq_true rfl]
    exact run_eql_iface_ptr_same w _ Tryd.underlying31 Tryd.underlying160 hi ci hd
  · rw [decide_eq_false h]
    obtain ⟨c1, t1, r1⟩ := he.row al[j] (List.getElem_mem _)
    obtain ⟨c2, t2, r2⟩ := he.row al[k] (List.getElem_mem _)
    refine run_eql_iface_ptr_other w Tryd.underlying31 Tryd.underlying160 hi ci hd sd (fun e => h ?_) r1 r2
    exact (List.getElem_inj he.nd).1 e
theorem nil_c (al : List Addr) (j : Nat) (w : World) : (binOp .eql 31 (ek al j) .nilIface).run Tryd.prog w = .ok (.bool false) w := by
  unfold ek ev; kernel_rfl
theorem guard_c (al : List Addr) (j : Nat) (op : BinOp) (t : TypeId) (x y : Operand) (b : Value) (w : World) : (eqGuard op t x y (ek al j) b).run Tryd.prog w = .ok () w := by
  unfold ek ev
  cases op <;> cases b <;> rfl
set_option maxHeartbeats 400000 in
theorem num_nil (w : World) :
    Calls Tryd.prog 23 #[.nilIface] w fun e w' => e = .returned (.int .i64 0) ∧ w = w' := by
  go_enter Tryd.func23, Tryd.ntmps23
  go_wp2
  go_ret
  exact ⟨rfl, rfl⟩
set_option maxHeartbeats 1000000 in
theorem num_err (al : List Addr) (j : Nat) (hj : j < 19) (w : World) (he : Errs w al) :
    Calls Tryd.prog 23 #[ek al j] w fun e w' => e = .returned (.int .i64 ((j : Int) + 1)) ∧ Below w.heap.size w w' := by
  have hn := nil_c al j
  have hgd := guard_c al j
  have hz : Hid (Errs w al) := he
  clear he
  go_enter Tryd.func23, Tryd.ntmps23
  go_wp2_with (go_at_call 49; refine (list_c al _ hz.out).mono ?_; rintro e w1 ⟨rfl, hb⟩)
  have he1 : Hid (Errs w1 al) := hz.out.below hb
  go_loop [8] (fun i => ∃ k : Nat, k ≤ j ∧ i = .int .i64 k) (fun i => j - (intOf i).toNat)
  case atStart => exact ⟨0, Nat.zero_le _, rfl⟩
  case round =>
    obtain ⟨k, hk, rfl⟩ := hrel
    have hx := index_c hz.out k (by omega)
    have hq := eql_c he1.out j k hj (by omega)
    have hlt : (k : Int) < 19 := by omega
    by_cases h : j = k
    · rw [decide_eq_true h] at hq
      have hjk : Hid (j = k) := h
      clear h
      go_wp2
      go_ret
      exact ⟨ret_intN (by rw [hjk.out]), hb⟩
    · rw [decide_eq_false h] at hq
      go_wp2
      go_round
      case rel => exact ⟨k + 1, by omega, by go_num⟩
      case measure => simp [intOf]; omega
end Go.Proofs.YtoaccmblaifnmaaDoor
namespace Go.Proofs.YtoaccmblaifnmaaDoor
open Flo Go.RowKit Go.Shelf Tr
set_option maxRecDepth 100000 in
set_option maxHeartbeats 4000000 in
/-- what Choose refuses -/
theorem choose_bad {D p : Int} {F : List Int} {V : Nat → Prop} (n : Int) (fv : Value) (w : World) (aN aR a : Addr) (hrv : rfV D p F aN aR n = ev a) (hF : FlR V w fv F) (hN : w.cell? ⟨4, 0, none⟩ = some (ev aN)) (hR : w.cell? ⟨2, 0, none⟩ = some (ev aR)) (hln : F.length ≤ 9223372036854775807) : Calls Tryd.prog 21 #[.int .i64 n, .agg #[.int .i64 D, fv, .int .i64 p]] w fun e w' => e = .returned (.tuple #[.agg #[.int .i64 0, .int .i64 0, .slice none 0 0], ev a]) ∧ Below w.heap.size w w' := by
  obtain ⟨wa, ewa⟩ : ∃ wa, Hid (w.alloc (.cells #[.int .i64 D, fv, .int .i64 p] 45) = wa) := ⟨_, (rfl : _ = _)⟩
  obtain ⟨wb, ewb⟩ : ∃ wb, Hid (wa.alloc (.cells #[.int .i64 0, .int .i64 0, .slice none 0 0] 24) = wb) := ⟨_, (rfl : _ = _)⟩
  obtain ⟨g, hg⟩ : ∃ g, Hid (w.heap.size = g) := ⟨_, (rfl : _ = _)⟩
  have Ba : Below w.heap.size w wa := by rw [← ewa.out]; exact (Below.refl _ _).alloc (Nat.le_refl _) _
  have Bab : Below wa.heap.size wa wb := by rw [← ewb.out]; exact (Below.refl _ _).alloc (Nat.le_refl _) _
  have Bb : Below w.heap.size w wb := btr Ba Bab
  have sa : wa.heap.size = g + 1 := by rw [← ewa.out, ← hg.out]; simp
  have sb : wb.heap.size = g + 2 := by rw [← ewb.out]; simp [sa]
  have Xb : Hid (Bp wb g D fv p) := by
    have h : Bp wa g D fv p := by rw [← ewa.out, ← hg.out]; exact Bp.new _ _ _ _
    exact h.bel Bab
  have Yb : Hid (Bo wb (g + 1) 0 0 (.slice none 0 0)) := by
    have h := Bo.new wa 0 0 (.slice none 0 0)
    rw [ewb.out, sa] at h; exact h
  have hFb : FlR V wb fv F := hF.kt (T := fun _ => False) (KT.of_below Bb) (fun _ h => h.elim)
  have hNb := (Bb.cell (p := ⟨4, 0, none⟩) (cell_lt hN)).trans hN
  have hRb := (Bb.cell (p := ⟨2, 0, none⟩) (cell_lt hR)).trans hR
  have hrf := refusal_c (D := D) (p := p) n fv wb aN aR hFb hNb hRb hln
  rw [hrv] at hrf
  have BbH : Hid (Below w.heap.size w wb) := Bb
  obtain ⟨ao, cap, rfl, _⟩ := hF
  rename_i hold
  clear hold hFb hNb hRb hN hR Ba Bab Bb sa hrv hln
  obtain ⟨L, hL⟩ : ∃ L, Hid (F.length = L) := ⟨_, (rfl : _ = _)⟩
  rw [hL.out] at ewa Xb hrf ⊢
  have x0 := Xb.out.c0
  have x1 := Xb.out.c1
  have x2 := Xb.out.c2
  unfold ev at hrf ⊢
  go_enter Tryd.func21, Tryd.ntmps21
  go_upto_region 1 with fail
  rw [ewa.out, ewb.out, hg.out]
  go_wp2_with fail
  refine hrf.mono ?_
  rintro e w1 ⟨rfl, B1⟩
  have hB1 : Hid (Below w.heap.size w w1) := btr BbH.out B1
  have Y1 : Hid (Bo w1 (g + 1) 0 0 (.slice none 0 0)) := Yb.out.bel B1
  clear B1 x0 x1 x2 hrf Xb Yb BbH sb
  have y0 := Y1.out.c0
  have y1 := Y1.out.c1
  have y2 := Y1.out.c2
  have yf0 := Y1.out.fz 0
  have yf1 := Y1.out.fz 1
  have yf2 := Y1.out.fz 2
  go_wp2_with fail
  obtain ⟨w4, ew4⟩ : ∃ w4, Hid (((w1.setCell ⟨g + 1, 0, none⟩ (.int .i64 0)).setCell ⟨g + 1, 1, none⟩ (.int .i64 0)).setCell ⟨g + 1, 2, none⟩ (.slice none 0 0) = w4) := ⟨_, (rfl : _ = _)⟩
  rw [ew4.out]
  have q0 : w4.cell? ⟨g + 1, 0, none⟩ = some (.int .i64 0) := by
    rw [← ew4.out, World.cell?_setCell_other _ _ _ _ (by simp), World.cell?_setCell_other _ _ _ _ (by simp)]
    exact World.cell?_setCell_same' _ _ _ (by rw [y0]; rfl)
  have q1 : w4.cell? ⟨g + 1, 1, none⟩ = some (.int .i64 0) := by
    rw [← ew4.out, World.cell?_setCell_other _ _ _ _ (by simp)]
    exact World.cell?_setCell_same' _ _ _ (by rw [World.cell?_setCell_other _ _ _ _ (by simp), y1]; rfl)
  have q2 : w4.cell? ⟨g + 1, 2, none⟩ = some (.slice none 0 0) := by
    rw [← ew4.out]
    exact World.cell?_setCell_same' _ _ _ (by rw [World.cell?_setCell_other _ _ _ _ (by simp), World.cell?_setCell_other _ _ _ _ (by simp), y2]; rfl)
  refine bodyPost_ret (v := .tuple #[.agg #[.int .i64 0, .int .i64 0, .slice none 0 0], .iface 160 (.pointer (some a))]) (by simp [results, Tryd.results21, go_sem, q0, q1, q2]) rfl ?_
  have hg1 : w.heap.size = g := hg.out
  refine ⟨rfl, ?_⟩
  rw [← ew4.out]
  exact ((hB1.out.setCell (p := ⟨g + 1, 0, none⟩) (by show _ ≤ g + 1; omega) _).setCell (p := ⟨g + 1, 1, none⟩) (by show _ ≤ g + 1; omega) _).setCell (p := ⟨g + 1, 2, none⟩) (by show _ ≤ g + 1; omega) _
end Go.Proofs.YtoaccmblaifnmaaDoor
namespace Go.Proofs.YtoaccmblaifnmaaDoor
open Flo Go.RowKit Tr
set_option maxHeartbeats 4000000 in
set_option maxRecDepth 100000 in
theorem spol_c {D p : Int} {F : List Int} {V1 V2 : Nat → Prop} (f1 f2 : Value) (w : World) (h1 : FlR V1 w f1 F) (h2 : FlR V2 w f2 F) (hn : F.length ≤ 9223372036854775807) : Calls Tryd.prog 24 #[.agg #[.int .i64 D, f1, .int .i64 p], .agg #[.int .i64 D, f2, .int .i64 p]] w fun e w' => e = .returned (.bool true) ∧ Below w.heap.size w w' := by
  obtain ⟨a1, c1, rfl, hc1⟩ := h1
  obtain ⟨a2, c2, rfl, hc2⟩ := h2
  obtain ⟨L, hL⟩ : ∃ L, Hid (F.length = L) := ⟨_, (rfl : _ = _)⟩
  rw [hL.out] at hn hc1 hc2 ⊢
  obtain ⟨wa, ewa⟩ : ∃ wa, Hid (w.alloc (.cells #[.int .i64 D, .slice a1 L c1, .int .i64 p] 45) = wa) := ⟨_, (rfl : _ = _)⟩
  obtain ⟨wb, ewb⟩ : ∃ wb, Hid (wa.alloc (.cells #[.int .i64 D, .slice a2 L c2, .int .i64 p] 45) = wb) := ⟨_, (rfl : _ = _)⟩
  obtain ⟨g, hg⟩ : ∃ g, Hid (w.heap.size = g) := ⟨_, (rfl : _ = _)⟩
  have Ba : Below w.heap.size w wa := by rw [← ewa.out]; exact (Below.refl _ _).alloc (Nat.le_refl _) _
  have Bab : Below wa.heap.size wa wb := by rw [← ewb.out]; exact (Below.refl _ _).alloc (Nat.le_refl _) _
  have Bb : Hid (Below w.heap.size w wb) := btr Ba Bab
  have sa : wa.heap.size = g + 1 := by rw [← ewa.out, ← hg.out]; simp
  have X1 : Hid (Bp wb g D (.slice a1 L c1) p) := by
    have h : Bp wa g D (.slice a1 L c1) p := by rw [← ewa.out, ← hg.out]; exact Bp.new _ _ _ _
    exact h.bel Bab
  have X2 : Hid (Bp wb (g + 1) D (.slice a2 L c2) p) := by
    have h : Bp wb wa.heap.size D (.slice a2 L c2) p := by rw [← ewb.out]; exact Bp.new _ _ _ _
    rw [sa] at h; exact h
  have hcH : Hid (∀ k, ∀ i, i < L → ∃ b off b' off', a1 = some ⟨b, off, none⟩ ∧ a2 = some ⟨b', off', none⟩ ∧ (wb.drewN k).cell? ⟨b, off + i, none⟩ = some (.int .i64 (F.getD i 0)) ∧ (wb.drewN k).cell? ⟨b', off' + i, none⟩ = some (.int .i64 (F.getD i 0))) := fun k i hi => by
    obtain ⟨b, off, e1, _, q3, q4⟩ := hc1 i hi
    obtain ⟨b', off', e2, _, r3, r4⟩ := hc2 i hi
    exact ⟨b, off, b', off', e1, e2, (Bb.out.cell (p := ⟨b, off + i, none⟩) q3).trans q4, (Bb.out.cell (p := ⟨b', off' + i, none⟩) r3).trans r4⟩
  have hX : Hid (∀ k, Bp (wb.drewN k) g D (.slice a1 L c1) p ∧ Bp (wb.drewN k) (g + 1) D (.slice a2 L c2) p) := fun k => ⟨⟨X1.out.b⟩, ⟨X2.out.b⟩⟩
  clear hc1 hc2 Ba Bab sa
  go_enter Tryd.func24, Tryd.ntmps24
  go_upto_region 1 with fail
  rw [ewa.out, ewb.out, hg.out]
  have x0 := X1.out.c0
  have x1 := X1.out.c1
  have x2 := X1.out.c2
  have y0 := X2.out.c0
  have y1 := X2.out.c1
  have y2 := X2.out.c2
  go_wp2
  clear x0 x1 x2 y0 y1 y2
  go_loopw [30] (fun i wr => ∃ (k m : Nat), k ≤ L ∧ i = .int .i64 k ∧ Hid (wb.drewN m = wr)) (fun i _ => L - (intOf i).toNat)
  case atStart => exact ⟨0, 0, Nat.zero_le _, rfl, by rw [World.drewN_zero]; rfl⟩
  case round =>
    obtain ⟨k, m, hk, rfl, hw⟩ := hrel
    rename World => wr
    by_cases hlt : k < L
    · have hlt' : (k : Int) < (L : Int) := by omega
      obtain ⟨b, off, b', off', rfl, rfl, z1, z2⟩ := hcH.out m k hlt
      obtain ⟨XX1, XX2⟩ := hX.out m
      rw [hw.out] at z1 z2 XX1 XX2
      have x1 := XX1.c1
      have y1 := XX2.c1
      obtain ⟨X, hX0⟩ : ∃ X, Hid (F.getD k 0 = X) := ⟨_, (rfl : _ = _)⟩
      rw [hX0.out] at z1 z2
      clear XX1 XX2
      go_upto_region 6 with fail
      go_quiet (fail)
      go_wp2
      go_roundw
      case rel => exact ⟨k + 1, m + nq, by omega, by go_num, by rw [← hw.out, World.drewN_drewN]; rfl⟩
      case measure => simp [intOf]; omega
    · have hlt' : decide ((k : Int) < (L : Int)) = false := decide_eq_false (by omega)
      have hB : Hid (Below w.heap.size w wr) := by show Below _ _ _; rw [← hw.out]; exact below_drewN Bb.out m
      go_wp2
      go_ret
      exact ⟨rfl, hB.out⟩
end Go.Proofs.YtoaccmblaifnmaaDoor
namespace Go.Proofs.YtoaccmblaifnmaaDoor
open Go.RowKit
def errNames : List (String × List UInt8) := [("timbre/api.ErrShort", [116, 105, 109, 98, 114, 101, 58, 32, 116, 111, 111, 32, 115, 104, 111, 114, 116]), ("timbre/api.ErrVarint", [116, 105, 109, 98, 114, 101, 58, 32, 118, 97, 114, 105, 110, 116]), ("timbre/api.ErrLimit", [116, 105, 109, 98, 114, 101, 58, 32, 108, 105, 109, 105, 116]), ("timbre/api.ErrTail", [116, 105, 109, 98, 114, 101, 58, 32, 116, 97, 105, 108]), ("timbre/api.ErrRange", [116, 105, 109, 98, 114, 101, 58, 32, 114, 97, 110, 103, 101]), ("timbre/api.ErrText", [116, 105, 109, 98, 114, 101, 58, 32, 116, 101, 120, 116]), ("timbre/api.ErrLength", [116, 105, 109, 98, 114, 101, 58, 32, 108, 101, 110, 103, 116, 104]), ("timbre/api.ErrOrder", [116, 105, 109, 98, 114, 101, 58, 32, 111, 114, 100, 101, 114]), ("timbre/api.ErrProgram", [116, 105, 109, 98, 114, 101, 58, 32, 112, 114, 111, 103, 114, 97, 109]), ("timbre/api.ErrState", [116, 105, 109, 98, 114, 101, 58, 32, 115, 116, 97, 116, 101]), ("timbre/api.ErrRoot", [116, 105, 109, 98, 114, 101, 58, 32, 114, 111, 111, 116]), ("timbre/api.ErrPerm", [116, 105, 109, 98, 114, 101, 58, 32, 112, 101, 114, 109, 117, 116, 97, 116, 105, 111, 110]), ("timbre/api.ErrNumber", [116, 105, 109, 98, 114, 101, 58, 32, 110, 117, 109, 98, 101, 114]), ("timbre/api.ErrWorkers", [116, 105, 109, 98, 114, 101, 58, 32, 119, 111, 114, 107, 101, 114, 115]), ("timbre/api.ErrDone", [116, 105, 109, 98, 114, 101, 58, 32, 100, 111, 110, 101]), ("timbre/api.ErrUnknown", [116, 105, 109, 98, 114, 101, 58, 32, 117, 110, 107, 110, 111, 119, 110]), ("timbre/api.ErrMode", [116, 105, 109, 98, 114, 101, 58, 32, 109, 111, 100, 101]), ("timbre/api.ErrCommand", [116, 105, 109, 98, 114, 101, 58, 32, 99, 111, 109, 109, 97, 110, 100]), ("timbre/api.ErrExact", [116, 105, 109, 98, 114, 101, 58, 32, 101, 120, 97, 99, 116])]
theorem errs_of {W : World} (h : laidMetH Tryd.prog (errNames.map fun x => (x.1, errD x.2)) W) : ∃ al, Errs W al := by
  rw [MakeChecks.laidMetH_plain _ _ _ (by kernel_rfl)] at h
  obtain ⟨ps, hv, hnd, hr⟩ := h
  obtain ⟨al, h1, h2, h3⟩ := sents errNames [5, 6, 1, 7, 2, 3, 4, 0, 8, 9, 10, 11, 12, 13, 14, 15, 16, 17, 18] ps (by kernel_rfl) (by decide +kernel) hv hr
  exact ⟨al, h1, h3 hnd, fun a ha => (hr _ _ (h2 a ha)).1⟩
end Go.Proofs.YtoaccmblaifnmaaDoor
namespace Go.Proofs.YtoaccmblaifnmaaDoor
open Flo Go.RowKit Tr
theorem e14_of {w : World} {al : List Addr} (h : Errs w al) : E14 w (al.getD 4 ⟨0, 0, none⟩) (al.getD 6 ⟨0, 0, none⟩) (al.getD 2 ⟨0, 0, none⟩) (al.getD 7 ⟨0, 0, none⟩) := by
  obtain ⟨a0, a1, a2, a3, a4, a5, a6, a7, a8, a9, a10, a11, a12, a13, a14, a15, a16, a17, a18, rfl⟩ := h.len
  obtain ⟨_, _, c2, _, c4, _, c6, c7, _⟩ := h.sent
  exact ⟨c4, c6, c2, c7⟩
theorem od_shp {w : World} {t : Tr} {v : Value} (h : Od w t v) : ∃ k n a l c, v = .agg #[.int .i64 k, .int .i64 n, .slice a l c] := by
  obtain ⟨k, n, ks⟩ := t
  obtain ⟨ao, cap, e, _⟩ := h.kds
  exact ⟨_, _, _, _, _, e⟩
end Go.Proofs.YtoaccmblaifnmaaDoor
namespace Go.Proofs.YtoaccmblaifnmaaDoor
open Flo Go.RowKit Tr
set_option maxRecDepth 100000 in
set_option maxHeartbeats 4000000 in
theorem dusual_c (w : World) : Calls Tryd.prog 28 #[] w fun e w' => ∃ b, e = .returned (.agg #[.int .i64 16, .slice (some ⟨b, 0, none⟩) 4 4, .int .i64 13]) ∧ w.heap.size ≤ b ∧ w'.heap[b]? = some (.cells #[.int .i64 2, .int .i64 3, .int .i64 4, .int .i64 5] 3 (0, 0)) ∧ Below w.heap.size w w' := by
  obtain ⟨wa, ewa⟩ : ∃ wa, Hid (w.alloc (.cells #[.int .i64 0, .slice none 0 0, .int .i64 0] 45) = wa) := ⟨_, (rfl : _ = _)⟩
  obtain ⟨g, hg⟩ : ∃ g, Hid (w.heap.size = g) := ⟨_, (rfl : _ = _)⟩
  have Ba : Hid (Below w.heap.size w wa) := by show Below _ _ _; rw [← ewa.out]; exact (Below.refl _ _).alloc (Nat.le_refl _) _
  have Xa : Hid (Bp wa g 0 (.slice none 0 0) 0) := by show Bp _ _ _ _ _; rw [← ewa.out, ← hg.out]; exact Bp.new _ _ _ _
  go_enter Tryd.func28, Tryd.ntmps28
  go_upto_region 1 with fail
  rw [ewa.out, hg.out]
  have B2 : Hid (Below wa.heap.size wa (wa.alloc (.cells #[.int .i64 2, .int .i64 3, .int .i64 4, .int .i64 5] 3))) := (Below.refl _ _).alloc (Nat.le_refl _) _
  have X2 : Hid (Bp (wa.alloc (.cells #[.int .i64 2, .int .i64 3, .int .i64 4, .int .i64 5] 3)) g 0 (.slice none 0 0) 0) := Xa.out.bel B2.out
  have y0 := X2.out.c0
  have y1 := X2.out.c1
  have y2 := X2.out.c2
  have yf0 := X2.out.fz 0
  have yf1 := X2.out.fz 1
  have yf2 := X2.out.fz 2
  go_wp2_with fail
  obtain ⟨b, hb⟩ : ∃ b, Hid (wa.heap.size = b) := ⟨_, (rfl : _ = _)⟩
  obtain ⟨wc, ewc⟩ : ∃ wc, Hid (wa.alloc (.cells #[.int .i64 2, .int .i64 3, .int .i64 4, .int .i64 5] 3) = wc) := ⟨_, (rfl : _ = _)⟩
  have hbn : Hid (wc.heap[b]? = some (.cells #[.int .i64 2, .int .i64 3, .int .i64 4, .int .i64 5] 3 (0, 0))) := by show _ = _; rw [← ewc.out, ← hb.out]; exact heap_alloc_new _ _
  have hbw : Hid (Below w.heap.size w wc) := by show Below _ _ _; rw [← ewc.out]; exact btr Ba.out B2.out
  have hbg : Hid (g + 1 = b) := by show _ = _; rw [← hb.out, ← ewa.out, ← hg.out]; simp
  rw [hb.out, ewc.out]
  rw [ewc.out] at y0 y1 y2
  obtain ⟨w4, ew4⟩ : ∃ w4, Hid (((wc.setCell ⟨g, 0, none⟩ (.int .i64 16)).setCell ⟨g, 1, none⟩ (.slice (some ⟨b, 0, none⟩) 4 4)).setCell ⟨g, 2, none⟩ (.int .i64 13) = w4) := ⟨_, (rfl : _ = _)⟩
  rw [ew4.out]
  have q0 : w4.cell? ⟨g, 0, none⟩ = some (.int .i64 16) := by
    rw [← ew4.out, World.cell?_setCell_other _ _ _ _ (by simp), World.cell?_setCell_other _ _ _ _ (by simp)]
    exact World.cell?_setCell_same' _ _ _ (by rw [y0]; rfl)
  have q1 : w4.cell? ⟨g, 1, none⟩ = some (.slice (some ⟨b, 0, none⟩) 4 4) := by
    rw [← ew4.out, World.cell?_setCell_other _ _ _ _ (by simp)]
    exact World.cell?_setCell_same' _ _ _ (by rw [World.cell?_setCell_other _ _ _ _ (by simp), y1]; rfl)
  have q2 : w4.cell? ⟨g, 2, none⟩ = some (.int .i64 13) := by
    rw [← ew4.out]
    exact World.cell?_setCell_same' _ _ _ (by rw [World.cell?_setCell_other _ _ _ _ (by simp), World.cell?_setCell_other _ _ _ _ (by simp), y2]; rfl)
  refine bodyPost_ret (v := .agg #[.int .i64 16, .slice (some ⟨b, 0, none⟩) 4 4, .int .i64 13]) (by simp [results, Tryd.results28, go_sem, q0, q1, q2]) rfl ?_
  have hg1 : w.heap.size = g := hg.out
  have hbg1 := hbg.out
  refine ⟨b, rfl, by omega, ?_, ?_⟩
  · rw [← ew4.out, sc_blk _ _ _ (by show b ≠ g; omega), sc_blk _ _ _ (by show b ≠ g; omega), sc_blk _ _ _ (by show b ≠ g; omega)]
    exact hbn.out
  · rw [← ew4.out]
    exact ((hbw.out.setCell (p := ⟨g, 0, none⟩) (by show _ ≤ g; omega) _).setCell (p := ⟨g, 1, none⟩) (by show _ ≤ g; omega) _).setCell (p := ⟨g, 2, none⟩) (by show _ ≤ g; omega) _
/-- the document's answer to what is refused -/
def dcn (D p : Int) (F : List Int) (n : Int) : Int := if n < 1 ∨ 4096 < n then 7 else if gdP D p F = true then 0 else 5
/-- the order that is chosen, or none -/
def cht (D p : Int) (F : List Int) (n : Int) : Tr := if dcn D p F n = 0 then Pl.ch D F p n.toNat else ⟨0, 0, []⟩
def erv (al : List Addr) (r : Int) : Value := if r = 7 then ek al 6 else if r = 0 then .nilIface else ek al 4
theorem dcn_is (D p : Int) (F : List Int) (n : Int) : dcn D p F n = 7 ∨ dcn D p F n = 0 ∨ dcn D p F n = 5 := by
  unfold dcn
  split
  · exact .inl rfl
  · split
    · exact .inr (.inl rfl)
    · exact .inr (.inr rfl)
theorem num_erv (al : List Addr) (r : Int) (hr : r = 7 ∨ r = 0 ∨ r = 5) (w : World) (hE : Errs w al) : Calls Tryd.prog 23 #[erv al r] w fun e w' => e = .returned (.int .i64 r) ∧ Below w.heap.size w w' := by
  rcases hr with rfl | rfl | rfl
  · exact num_err al 6 (by decide) w hE
  · refine (num_nil w).mono ?_
    rintro e w' ⟨rfl, rfl⟩
    exact ⟨rfl, Below.refl _ _⟩
  · exact num_err al 4 (by decide) w hE
end Go.Proofs.YtoaccmblaifnmaaDoor
namespace Go.Proofs.YtoaccmblaifnmaaDoor
open Flo Go.RowKit
/-- all but the blocks of S is as it was -/
structure Fr (S : Nat → Prop) (w w' : World) : Prop where
  os : w'.os = w.os
  tape : w'.tape = w.tape
  output : w'.output = w.output
  size : w.heap.size ≤ w'.heap.size
  block : ∀ k, k < w.heap.size → ¬ S k → w'.heap[k]? = w.heap[k]?
section
variable {S T : Nat → Prop} {a b c w w' : World}
theorem Fr.refl (S : Nat → Prop) (w : World) : Fr S w w := ⟨rfl, rfl, rfl, Nat.le_refl _, fun _ _ _ => rfl⟩
theorem Fr.trans (h : Fr S a b) (h2 : Fr T b c) (hT : ∀ k, T k → S k ∨ a.heap.size ≤ k) : Fr S a c :=
  ⟨h2.os.trans h.os, h2.tape.trans h.tape, h2.output.trans h.output, Nat.le_trans h.size h2.size, fun k hk hn => by
    refine (h2.block k (Nat.lt_of_lt_of_le hk h.size) fun ht => ?_).trans (h.block k hk hn)
    rcases hT k ht with h3 | h3
    · exact hn h3
    · omega⟩
theorem Fr.then (h : Fr S a b) (h2 : Fr S b c) : Fr S a c := h.trans h2 fun _ h => .inl h
theorem Fr.mono (h : Fr S w w') (hS : ∀ k, k < w.heap.size → S k → T k) : Fr T w w' := ⟨h.os, h.tape, h.output, h.size, fun k hk hn => h.block k hk fun hs => hn (hS k hk hs)⟩
theorem Fr.drew (h : Fr S a w) : Fr S a w.drew := ⟨h.os, h.tape, h.output, h.size, h.block⟩
theorem Fr.alloc (h : Fr S a w) (o : Obj) : Fr S a (w.alloc o) :=
  h.trans (T := S) ⟨rfl, rfl, rfl, by simp, fun k hk _ => Below.heap_alloc _ _ _ (by omega)⟩ fun _ h => .inl h
theorem Fr.setCell (h : Fr S a w) {p : Addr} (hp : S p.block) (u : Value) : Fr S a (w.setCell p u) :=
  h.trans (T := S) ⟨rfl, rfl, rfl, by simp [World.setCell], fun k _ hn => Below.heap_setCell _ _ _ _ fun e => hn (e ▸ hp)⟩ fun _ h => .inl h
theorem Fr.grown (h : Fr S a w) {r : Option Nat} (hg : w.grownBy w' r) (hr : ∀ k, r = some k → S k) : Fr S a w' :=
  h.trans (T := S) ⟨hg.os, hg.tape, hg.output, hg.size, fun k hk hn => hg.block k hk fun e => hn (hr k e.symm)⟩ fun _ h => .inl h
theorem Fr.of_below {B : Nat} (h : Below B w w') (hS : ∀ k, B ≤ k → k < w.heap.size → S k) : Fr S w w' := ⟨h.os, h.tape, h.output, h.size, fun k hk hn => h.block k (by
  rcases Nat.lt_or_ge k B with h1 | h1
  · exact h1
  · exact absurd (hS k h1 hk) hn)⟩
theorem Fr.below {B : Nat} (h : Fr S w w') (hb : Below B a w) (hB : B ≤ w.heap.size) (hS : ∀ k, k < w.heap.size → S k → B ≤ k) : Below B a w' :=
  hb.trans ⟨h.os, h.tape, h.output, h.size, fun k hk => h.block k (by omega) fun hs => by have := hS k (by omega) hs; omega⟩
theorem Fr.cell (h : Fr S w w') {p : Addr} {v : Value} (hc : w.cell? p = some v) (hS : ¬ S p.block) : w'.cell? p = some v :=
  (World.cell?_of_block (h.block p.block (World.block_lt_of_cell? w p hc) hS)).trans hc
theorem Fr.frozen (h : Fr S w w') {p : Addr} (hp : p.block < w.heap.size) (hS : ¬ S p.block) : w'.frozen? p = w.frozen? p := World.frozen?_of_block (h.block p.block hp hS)
end
end Go.Proofs.YtoaccmblaifnmaaDoor
namespace Go.Proofs.YtoaccmblaifnmaaDoor
open Flo Go.RowKit Tr
/-- the triple i of c' is that of c, or (-1, -9, nil) -/
def Tp14 (c c' : Array Value) (i : Nat) : Prop := (c'[i * 3]? = c[i * 3]? ∧ c'[i * 3 + 1]? = c[i * 3 + 1]? ∧ c'[i * 3 + 2]? = c[i * 3 + 2]?) ∨ (c'[i * 3]? = some (.int .i64 (-1)) ∧ c'[i * 3 + 1]? = some (.int .i64 (-9)) ∧ c'[i * 3 + 2]? = some (.slice none 0 0))
/-- the lists of S that were there in w0, some of their triples written over -/
def Tri14 (S : Nat → Prop) (w0 w : World) : Prop := ∀ b, S b → ∀ c, w0.heap[b]? = some (.cells c 24 (0, 0)) → ∃ c' : Array Value, w.heap[b]? = some (.cells c' 24 (0, 0)) ∧ c'.size = c.size ∧ ∀ i, i * 3 + 2 < c.size → Tp14 c c' i
theorem Tri14.refl (S : Nat → Prop) (w : World) : Tri14 S w w := fun _ _ c h => ⟨c, h, rfl, fun _ _ => .inl ⟨rfl, rfl, rfl⟩⟩
theorem Tri14.bel {S : Nat → Prop} {w0 w w' : World} (h : Tri14 S w0 w) (hs : ∀ b, S b → b < w0.heap.size → w'.heap[b]? = w.heap[b]?) : Tri14 S w0 w' := fun b hb c hc => by
  obtain ⟨c', h1, h2⟩ := h b hb c hc
  exact ⟨c', (hs b hb (blk_lt hc)).trans h1, h2⟩
theorem Tri14.store {S : Nat → Prop} {w0 w : World} {b i : Nat} {c : Array Value} (h : Tri14 S w0 w) (hb : S b) (hc : w0.heap[b]? = some (.cells c 24 (0, 0))) (hi : i * 3 + 2 < c.size) : Tri14 S w0 (s3 w b (i * 3) (-1) (-9) (.slice none 0 0)) := by
  intro b' hb' d hd
  obtain ⟨d', h1, h2, h3⟩ := h b' hb' d hd
  by_cases e : b' = b
  · subst e
    rw [hc] at hd
    cases hd
    refine ⟨((d'.setIfInBounds (i * 3) (.int .i64 (-1))).setIfInBounds (i * 3 + 1) (.int .i64 (-9))).setIfInBounds (i * 3 + 2) (.slice none 0 0), ?_, by simpa using h2, fun j hj => ?_⟩
    · unfold s3
      have k1 := Joins.block_setCell h1 (i := i * 3) (.int .i64 (-1))
      have k2 := Joins.block_setCell k1 (i := i * 3 + 1) (.int .i64 (-9))
      exact Joins.block_setCell k2 (i := i * 3 + 2) (.slice none 0 0)
    · by_cases ej : j = i
      · subst ej
        right
        refine ⟨?_, ?_, ?_⟩
        · simp [Array.getElem?_setIfInBounds, h2]; omega
        · simp [Array.getElem?_setIfInBounds, h2]; omega
        · simp [Array.getElem?_setIfInBounds, h2]; omega
      · have e0 : ∀ m, m < 3 → (((d'.setIfInBounds (i * 3) (.int .i64 (-1))).setIfInBounds (i * 3 + 1) (.int .i64 (-9))).setIfInBounds (i * 3 + 2) (.slice none 0 0))[j * 3 + m]? = d'[j * 3 + m]? := fun m hm => by
          simp only [Array.getElem?_setIfInBounds]
          rw [if_neg (by omega), if_neg (by omega), if_neg (by omega)]
        have z0 := e0 0 (by decide)
        have z1 := e0 1 (by decide)
        have z2 := e0 2 (by decide)
        rw [Nat.add_zero] at z0
        rcases h3 j hj with ⟨q0, q1, q2⟩ | ⟨q0, q1, q2⟩
        · exact .inl ⟨z0.trans q0, z1.trans q1, z2.trans q2⟩
        · exact .inr ⟨z0.trans q0, z1.trans q1, z2.trans q2⟩
  · exact ⟨d', (s3_blk _ _ _ _ _ _ e).trans h1, h2, h3⟩
/-- what may have been touched -/
def Dm14 (S : Nat → Prop) (w0 : World) (b : Nat) : Prop := S b ∧ b < w0.heap.size
theorem fr14_new {D : Nat → Prop} (w : World) (o : Obj) : Fr D w (w.alloc o) := (Fr.refl D w).alloc o
set_option maxHeartbeats 1000000 in
set_option maxRecDepth 100000 in
theorem spoil14_nil (k n : Int) (w : World) : Calls Tryd.prog 37 #[.agg #[.int .i64 k, .int .i64 n, .slice none 0 0]] w fun e w' => e = .returned (.tuple #[]) ∧ Below w.heap.size w w' := by
  obtain ⟨wa, ewa⟩ : ∃ wa, Hid (w.alloc (.cells #[.int .i64 k, .int .i64 n, .slice none 0 0] 24) = wa) := ⟨_, (rfl : _ = _)⟩
  have Ba : Hid (Below w.heap.size w wa) := by show Below _ _ _; rw [← ewa.out]; exact (Below.refl _ _).alloc (Nat.le_refl _) _
  have Xa : Hid (Bo wa w.heap.size k n (.slice none 0 0)) := by show Bo _ _ _ _ _; rw [← ewa.out]; exact Bo.new _ _ _ _
  have c2 := Xa.out.c2
  go_enter Tryd.func37, Tryd.ntmps37
  go_upto_region 1 with fail
  rw [ewa.out]
  go_wp2_with fail
  go_loopw [2, 6] (fun _ si wx => si = .int .i64 0 ∧ wx = wa) (fun _ _ _ => 0)
  case atStart => exact ⟨rfl, rfl⟩
  case round =>
    obtain ⟨rfl, rfl⟩ := hrel
    go_wp2_with fail
    go_end0
    exact ⟨rfl, Ba.out⟩
set_option maxHeartbeats 2000000 in
set_option maxRecDepth 100000 in
theorem spoil14_c (S : Nat → Prop) (w0 : World) (t : Tr) : ∀ (v : Value) (w : World), Os S w0 t v → Tri14 S w0 w → w0.heap.size ≤ w.heap.size → Calls Tryd.prog 37 #[v] w fun e w' => e = .returned (.tuple #[]) ∧ Fr (Dm14 S w0) w w' ∧ Tri14 S w0 w' := by
  refine Tr.ind (P := fun t => ∀ (v : Value) (w : World), Os S w0 t v → Tri14 S w0 w → w0.heap.size ≤ w.heap.size → Calls Tryd.prog 37 #[v] w fun e w' => e = .returned (.tuple #[]) ∧ Fr (Dm14 S w0) w w' ∧ Tri14 S w0 w') (fun k n ks ih0 v w ho hT hs0 => ?_) t
  obtain ⟨ao, cap, rfl, ⟨hl0, _⟩, hk0⟩ := (os_eq _ _ _ _ _ _).1 ho
  obtain ⟨L, hL⟩ : ∃ L, Hid (ks.length = L) := ⟨_, (rfl : _ = _)⟩
  have hk : Hid (∀ i, i < L → ∃ u b c s, u ∈ ks ∧ Kon S w0 ao i u b c s ∧ Os S w0 u (.agg #[.int .i64 u.k, .int .i64 u.n, s])) := fun i hi => by
    have hi' : i < ks.length := by rw [hL.out]; exact hi
    obtain ⟨b, c, s, K, o⟩ := hk0 i hi'
    exact ⟨ks[i], b, c, s, List.getElem_mem hi', K, o⟩
  have hl : L ≤ 9223372036854775807 := by rw [← hL.out]; exact hl0
  have ih : Hid (∀ t ∈ ks, ∀ (v : Value) (w : World), Os S w0 t v → Tri14 S w0 w → w0.heap.size ≤ w.heap.size → Calls Tryd.prog 37 #[v] w fun e w' => e = .returned (.tuple #[]) ∧ Fr (Dm14 S w0) w w' ∧ Tri14 S w0 w') := ih0
  rw [hL.out]
  obtain ⟨wa, ewa⟩ : ∃ wa, Hid (w.alloc (.cells #[.int .i64 k, .int .i64 n, .slice ao L cap] 24) = wa) := ⟨_, (rfl : _ = _)⟩
  have Fa : Hid (Fr (Dm14 S w0) w wa) := by show Fr _ _ _; rw [← ewa.out]; exact fr14_new w _
  have Ba : Below w.heap.size w wa := by rw [← ewa.out]; exact (Below.refl _ _).alloc (Nat.le_refl _) _
  have Xa : Hid (Bo wa w.heap.size k n (.slice ao L cap)) := by show Bo _ _ _ _ _; rw [← ewa.out]; exact Bo.new _ _ _ _
  have Ta : Hid (Tri14 S w0 wa) := hT.bel (fun b _ hb => Ba.block b (by omega))
  obtain ⟨g, hg⟩ : ∃ g, Hid (w.heap.size = g) := ⟨_, (rfl : _ = _)⟩
  have hg0 : Hid (w0.heap.size ≤ g) := by show _ ≤ _; rw [← hg.out]; exact hs0
  rw [hg.out] at Xa
  have c2 := Xa.out.c2
  clear hk0 hl0 ih0 ho hT hs0 Ba
  go_enter Tryd.func37, Tryd.ntmps37
  go_upto_region 1 with fail
  rw [ewa.out, hg.out]
  go_wp2_with fail
  clear c2
  go_loopw [2, 6] (fun _ si wx => ∃ i : Nat, i ≤ L ∧ si = .int .i64 (i : Int) ∧ Hid (Bo wx g k n (.slice ao L cap)) ∧ Hid (Fr (Dm14 S w0) w wx) ∧ Hid (Tri14 S w0 wx)) (fun _ si _ => L - (intOf si).toNat)
  case atStart => exact ⟨0, Nat.zero_le _, rfl, Xa, Fa, Ta⟩
  case round =>
    clear Xa Fa Ta ewa
    obtain ⟨i, hi, rfl, hX, hF, hT⟩ := hrel
    have c2 := hX.out.c2
    by_cases hlt : i < L
    · have hlt' : (i : Int) < (L : Int) := by omega
      obtain ⟨u, b, c, s, hu, K, oK⟩ := hk.out i hlt
      obtain rfl := K.at0
      obtain ⟨a1, l1, e1⟩ := oK.shape
      have hsl : ∃ a l p, s = .slice a l p := by
        simp only [Value.agg.injEq, Array.mk.injEq, List.cons.injEq, true_and, and_true] at e1
        exact ⟨_, _, _, e1⟩
      obtain ⟨sa, sl, sp, rfl⟩ := hsl
      clear e1
      have hci : i * 3 + 2 < c.size := (Array.getElem?_eq_some_iff.1 K.d2).1
      have hKset : Hid (S b) := K.set
      have hKblk : Hid (w0.heap[b]? = some (.cells c 24 (0, 0))) := K.blk
      have hbw0 : Hid (b < w0.heap.size) := blk_lt K.blk
      obtain ⟨c', hc', hsz', htp⟩ := hT.out b K.set c K.blk
      have hwc : Hid (∀ W : World, Tri14 S w0 W → ∃ x y z, W.cell? ⟨b, i * 3, none⟩ = some x ∧ W.cell? ⟨b, i * 3 + 1, none⟩ = some y ∧ W.cell? ⟨b, i * 3 + 2, none⟩ = some z ∧ ∀ j, W.frozen? ⟨b, j, none⟩ = false) := fun W hW => by
        obtain ⟨d, h1, h2, h3⟩ := hW b hKset.out c hKblk.out
        have hd : ∀ m, m ≤ 2 → ∃ x, W.cell? ⟨b, i * 3 + m, none⟩ = some x := fun m hm => by
          rw [Joins.cell_of_block h1]
          exact ⟨_, Array.getElem?_eq_getElem (by omega)⟩
        obtain ⟨x, hx⟩ := hd 0 (by decide)
        obtain ⟨y, hy⟩ := hd 1 (by decide)
        obtain ⟨z, hz⟩ := hd 2 (by decide)
        exact ⟨x, y, z, hx, hy, hz, fun j => Joins.unfrozen_of_block h1 j⟩
      have hcall : Hid (∃ x y z, wr.cell? ⟨b, i * 3, none⟩ = some (.int .i64 x) ∧ wr.cell? ⟨b, i * 3 + 1, none⟩ = some (.int .i64 y) ∧ (∃ za zl zc, z = .slice za zl zc) ∧ wr.cell? ⟨b, i * 3 + 2, none⟩ = some z ∧ Calls Tryd.prog 37 #[.agg #[.int .i64 x, .int .i64 y, z]] wr fun e w' => e = .returned (.tuple #[]) ∧ Fr (Dm14 S w0) wr w' ∧ Tri14 S w0 w') := by
        rcases htp i hci with ⟨q0, q1, q2⟩ | ⟨q0, q1, q2⟩
        · refine ⟨u.k, u.n, .slice sa sl sp, ?_, ?_, ⟨_, _, _, rfl⟩, ?_, ih.out u hu _ wr oK hT.out (by have := hX.out.lt; have := hg0.out; omega)⟩
          · rw [Joins.cell_of_block hc', q0]; exact K.d0
          · rw [Joins.cell_of_block hc', q1]; exact K.d1
          · rw [Joins.cell_of_block hc', q2]; exact K.d2
        · refine ⟨-1, -9, .slice none 0 0, ?_, ?_, ⟨_, _, _, rfl⟩, ?_, (spoil14_nil (-1) (-9) wr).mono ?_⟩
          · rw [Joins.cell_of_block hc']; exact q0
          · rw [Joins.cell_of_block hc']; exact q1
          · rw [Joins.cell_of_block hc']; exact q2
          · rintro e w' ⟨rfl, B⟩
            exact ⟨rfl, Fr.of_below B (fun k h1 h2 => by omega), hT.out.bel (fun b' _ hb' => B.block b' (by have := hX.out.lt; have := hg0.out; omega))⟩
      clear K oK hc' hsz' htp hu
      obtain ⟨x, y, z, p0, p1, ⟨za, zl, zc, rfl⟩, p2, hc⟩ := hcall.out
      have hcH : Hid (Calls Tryd.prog 37 #[.agg #[.int .i64 x, .int .i64 y, .slice za zl zc]] wr fun e w' => e = .returned (.tuple #[]) ∧ Fr (Dm14 S w0) wr w' ∧ Tri14 S w0 w') := hc
      clear hc hcall
      go_wp2_with fail
      refine hcH.out.mono ?_
      rintro e w1 ⟨rfl, F1, T1⟩
      have hX1 : Hid (Bo w1 g k n (.slice (some ⟨b, 0, none⟩) L cap)) := ⟨(F1.block g hX.out.lt (fun h => by have := hg0.out; have := h.2; omega)).trans hX.out.b⟩
      have hF1 : Hid (Fr (Dm14 S w0) w w1) := hF.out.then F1
      have hT1 : Hid (Tri14 S w0 w1) := T1
      obtain ⟨x1, y1, z1, r0, r1, r2, rf⟩ := hwc.out w1 T1
      have d2 := hX1.out.c2
      have hX2 : Hid (Bo (s3 w1 b (i * 3) (-1) (-9) (.slice none 0 0)) g k n (.slice (some ⟨b, 0, none⟩) L cap)) := ⟨(s3_blk _ _ _ _ _ _ (by have := hg0.out; have := hbw0.out; omega)).trans hX1.out.b⟩
      have hT2 : Hid (Tri14 S w0 (s3 w1 b (i * 3) (-1) (-9) (.slice none 0 0))) := T1.store hKset.out hKblk.out hci
      have hF2 : Hid (Fr (Dm14 S w0) w (s3 w1 b (i * 3) (-1) (-9) (.slice none 0 0))) := ((hF1.out.setCell (p := ⟨b, i * 3, none⟩) ⟨hKset.out, hbw0.out⟩ _).setCell (p := ⟨b, i * 3 + 1, none⟩) ⟨hKset.out, hbw0.out⟩ _).setCell (p := ⟨b, i * 3 + 2, none⟩) ⟨hKset.out, hbw0.out⟩ _
      clear F1 T1 hcH p0 p1 p2 c2 hX hF hT
      go_wp2_with fail
      go_roundw
      case rel => exact ⟨i + 1, by omega, by go_num, hX2, hF2, hT2⟩
      case measure => simp [intOf]; omega
    · have hlt' : decide ((i : Int) < (L : Int)) = false := decide_eq_false (by omega)
      go_wp2_with fail
      go_end0
      exact ⟨rfl, hF.out, hT.out⟩
end Go.Proofs.YtoaccmblaifnmaaDoor
namespace Go.Proofs.YtoaccmblaifnmaaDoor
open Flo Go.RowKit Tr
set_option maxRecDepth 100000 in
set_option maxHeartbeats 4000000 in
theorem dchoose3_c {D p : Int} {F : List Int} {V : Nat → Prop} (n : Int) (fv : Value) (w : World) (hF : FlR V w fv F) (hln : F.length ≤ 9223372036854775807) : Calls Tryd.prog 22 #[.int .i64 n, .agg #[.int .i64 D, fv, .int .i64 p]] w fun e w' => ∃ v, e = .returned (.tuple #[v, .int .i64 (dcn D p F n)]) ∧ (dcn D p F n = 0 → Os (fun b => w.heap.size ≤ b) w' (Pl.ch D F p n.toNat) v) ∧ (dcn D p F n ≠ 0 → v = .agg #[.int .i64 0, .int .i64 0, .slice none 0 0]) ∧ Below w.heap.size w w' := by
  obtain ⟨wa, ewa⟩ : ∃ wa, Hid (w.alloc (.cells #[.int .i64 D, fv, .int .i64 p] 45) = wa) := ⟨_, (rfl : _ = _)⟩
  obtain ⟨wb, ewb⟩ : ∃ wb, Hid (wa.alloc (.cells #[.int .i64 0, .int .i64 0, .slice none 0 0] 24) = wb) := ⟨_, (rfl : _ = _)⟩
  obtain ⟨g, hg⟩ : ∃ g, Hid (w.heap.size = g) := ⟨_, (rfl : _ = _)⟩
  have Ba : Below w.heap.size w wa := by rw [← ewa.out]; exact (Below.refl _ _).alloc (Nat.le_refl _) _
  have Bab : Below wa.heap.size wa wb := by rw [← ewb.out]; exact (Below.refl _ _).alloc (Nat.le_refl _) _
  have Bb : Hid (Below w.heap.size w wb) := btr Ba Bab
  have sa : wa.heap.size = g + 1 := by rw [← ewa.out, ← hg.out]; simp
  have sbH : Hid (wb.heap.size = g + 2) := by show _ = _; rw [← ewb.out]; simp [sa]
  have Xb : Hid (Bp wb g D fv p) := by
    have h : Bp wa g D fv p := by rw [← ewa.out, ← hg.out]; exact Bp.new _ _ _ _
    exact h.bel Bab
  have Yb : Hid (Bo wb (g + 1) 0 0 (.slice none 0 0)) := by
    have h := Bo.new wa 0 0 (.slice none 0 0)
    rw [ewb.out, sa] at h; exact h
  have hFb : Hid (FlR (fun b => b < g) wb fv F) := by
    have h := hF.kt (T := fun _ => False) (KT.of_below Bb.out) (fun _ (h : False) => h.elim)
    obtain ⟨ao, cap, e, hc⟩ := hF
    obtain ⟨ao2, cap2, e2, hc2⟩ := h
    refine ⟨ao2, cap2, e2, fun i hi => ?_⟩
    obtain ⟨b, off, q1, q2, q3, q4⟩ := hc2 i hi
    obtain ⟨b', off', r1, r2, r3, r4⟩ := hc i hi
    rw [e] at e2
    simp only [Value.slice.injEq] at e2
    rw [r1, q1] at e2
    simp only [Option.some.injEq, Addr.mk.injEq] at e2
    exact ⟨b, off, q1, by rw [← e2.1.1, ← hg.out]; exact r3, q3, q4⟩
  obtain ⟨RN, hRN⟩ : ∃ z, Hid (dcn D p F n = z) := ⟨_, (rfl : _ = _)⟩
  rw [hRN.out]
  have hlnH : Hid (F.length ≤ 9223372036854775807) := hln
  have x0 := Xb.out.c0
  have x1 := Xb.out.c1
  have x2 := Xb.out.c2
  clear hF Ba Bab sa hln
  have fin0 : Hid (∀ w1 : World, Below w.heap.size w w1 → Bo w1 (g + 1) 0 0 (.slice none 0 0) → Below w.heap.size w (st3 w1 (g + 1) 0 0 (.slice none 0 0)) ∧ Bo (st3 w1 (g + 1) 0 0 (.slice none 0 0)) (g + 1) 0 0 (.slice none 0 0)) := fun w1 hb ho => ⟨hb.grown (st3_own _ _ _ _ _) hb.size (fun k hk => by cases hk; rw [hg.out]; omega), st3_bo ho _ _ _⟩
  go_enter Tryd.func22, Tryd.ntmps22
  go_upto_region 1 with fail
  rw [ewa.out, ewb.out, hg.out]
  by_cases hn : n < 1 ∨ 4096 < n
  · have hv : Hid ((7 : Int) = RN) := by show _ = _; rw [← hRN.out]; unfold dcn; rw [if_pos hn]
    have y0 := Yb.out.c0
    have y1 := Yb.out.c1
    have y2 := Yb.out.c2
    have yf0 := Yb.out.fz 0
    have yf1 := Yb.out.fz 1
    have yf2 := Yb.out.fz 2
    have ff := fin0.out wb Bb.out Yb.out
    obtain ⟨w4, ew4⟩ : ∃ w4, Hid (((wb.setCell ⟨g + 1, 0, none⟩ (.int .i64 0)).setCell ⟨g + 1, 1, none⟩ (.int .i64 0)).setCell ⟨g + 1, 2, none⟩ (.slice none 0 0) = w4) := ⟨_, (rfl : _ = _)⟩
    have e4 : st3 wb (g + 1) 0 0 (.slice none 0 0) = w4 := ew4.out
    rw [e4] at ff
    have ffH : Hid (Below w.heap.size w w4 ∧ Bo w4 (g + 1) 0 0 (.slice none 0 0)) := ff
    have q0 := ff.2.c0
    have q1 := ff.2.c1
    have q2 := ff.2.c2
    clear ff e4
    by_cases h1 : n < 1
    · clear hn
      go_wp2_with fail
      rw [ew4.out]
      refine bodyPost_ret (v := .tuple #[.agg #[.int .i64 0, .int .i64 0, .slice none 0 0], .int .i64 7]) (by simp [results, Tryd.results22, go_sem, q0, q1, q2]) rfl ?_
      exact ⟨_, by rw [hv.out], (fun h => by rw [← hv.out] at h; exact absurd h (by decide)), (fun _ => rfl), ffH.out.1⟩
    · have h1' : decide (n < 1) = false := decide_eq_false h1
      have h2 : 4096 < n := by
        rcases hn with h | h
        · exact absurd h h1
        · exact h
      clear hn
      go_wp2_with fail
      rw [ew4.out]
      refine bodyPost_ret (v := .tuple #[.agg #[.int .i64 0, .int .i64 0, .slice none 0 0], .int .i64 7]) (by simp [results, Tryd.results22, go_sem, q0, q1, q2]) rfl ?_
      exact ⟨_, by rw [hv.out], (fun h => by rw [← hv.out] at h; exact absurd h (by decide)), (fun _ => rfl), ffH.out.1⟩
  · have h1 : ¬ n < 1 := fun h => hn (.inl h)
    have h2 : ¬ 4096 < n := fun h => hn (.inr h)
    have h1' : decide (n < 1) = false := decide_eq_false h1
    have h2' : decide (4096 < n) = false := decide_eq_false h2
    have hRN2 : Hid ((if gdP D p F = true then (0 : Int) else 5) = RN) := by
      show _ = _
      rw [← hRN.out]
      unfold dcn
      rw [if_neg hn]
    clear hn hRN
    go_wp2_with fail
    refine (dcheckP_c fv wb hFb.out hlnH.out).mono ?_
    rintro e w1 ⟨rfl, B1⟩
    rw [hRN2.out]
    have B1H : Hid (Below w.heap.size w w1) := btr Bb.out B1
    have X1 : Hid (Bp w1 g D fv p) := Xb.out.bel B1
    have Y1 : Hid (Bo w1 (g + 1) 0 0 (.slice none 0 0)) := Yb.out.bel B1
    have hF1 : Hid (FlR (fun b => b < g) w1 fv F) := hFb.out.kt (T := fun _ => False) (KT.of_below B1) (fun _ (h : False) => h.elim)
    clear B1 x0 x1 x2 Xb Yb hFb
    cases hgd : gdP D p F with
    | false =>
      rw [hgd] at hRN2
      have hv : Hid ((5 : Int) = RN) := hRN2
      have e5 : RN = 5 := hv.out.symm
      clear hRN2 hgd
      rw [e5]
      clear e5
      have y0 := Y1.out.c0
      have y1 := Y1.out.c1
      have y2 := Y1.out.c2
      have yf0 := Y1.out.fz 0
      have yf1 := Y1.out.fz 1
      have yf2 := Y1.out.fz 2
      have ff := fin0.out w1 B1H.out Y1.out
      obtain ⟨w4, ew4⟩ : ∃ w4, Hid (((w1.setCell ⟨g + 1, 0, none⟩ (.int .i64 0)).setCell ⟨g + 1, 1, none⟩ (.int .i64 0)).setCell ⟨g + 1, 2, none⟩ (.slice none 0 0) = w4) := ⟨_, (rfl : _ = _)⟩
      have e4 : st3 w1 (g + 1) 0 0 (.slice none 0 0) = w4 := ew4.out
      rw [e4] at ff
      have ffH : Hid (Below w.heap.size w w4 ∧ Bo w4 (g + 1) 0 0 (.slice none 0 0)) := ff
      have q0 := ff.2.c0
      have q1 := ff.2.c1
      have q2 := ff.2.c2
      clear ff e4
      go_wp2_with fail
      rw [ew4.out]
      refine bodyPost_ret (v := .tuple #[.agg #[.int .i64 0, .int .i64 0, .slice none 0 0], .int .i64 5]) (by simp [results, Tryd.results22, go_sem, q0, q1, q2]) rfl ?_
      exact ⟨_, by rw [hv.out], (fun h => by rw [← hv.out] at h; exact absurd h (by decide)), (fun _ => rfl), ffH.out.1⟩
    | true =>
      rw [hgd] at hRN2
      have hv : Hid ((0 : Int) = RN) := hRN2
      have e5 : RN = 0 := hv.out.symm
      rw [e5]
      clear hRN2 e5
      have gpo := gdP_gp hgd
      have hFl : F.length ≤ 1000 := by
        have h := hgd
        simp only [gdP, Bool.and_eq_true] at h
        have := rsF_len 0 F h.2 (by omega)
        rw [if_pos (by decide)] at this; omega
      obtain ⟨N, rfl⟩ : ∃ N : Nat, n = (N : Int) := ⟨n.toNat, by omega⟩
      have hdm : Pl.Dm p N := ⟨by omega, by omega, fun _ => by omega⟩
      obtain ⟨kb, hkb⟩ : ∃ z, Hid (w1.heap.size = z) := ⟨_, (rfl : _ = _)⟩
      have hgk : Hid (g + 2 ≤ kb) := by show _ ≤ _; have := Y1.out.lt; have := hkb.out; omega
      obtain ⟨wk, ewk⟩ : ∃ z, Hid (w1.alloc (.cells #[.slice none 0 0, .slice none 0 0, .slice none 0 0] 79) = z) := ⟨_, (rfl : _ = _)⟩
      have Bk : Below w1.heap.size w1 wk := by rw [← ewk.out]; exact (Below.refl _ _).alloc (Nat.le_refl _) _
      have hKS := ks_nil (D := D) (p := p) (F := F) w1
      rw [ewk.out, hkb.out] at hKS
      have hcall := dch (D := D) (p := p) (F := F) (fv := fv) (B := kb) (kb := kb) (V := fun b => b < g) gpo hFl (fun b hb => by have := hgk.out; omega) (Pl.mu p N) N hdm (Nat.le_refl _) [] _ _ wk hKS (hF1.out.kt (T := fun _ => False) (KT.of_below Bk) (fun _ (h : False) => h.elim))
      have hcH : Hid (Calls Tryd.prog 48 #[.pointer (some ⟨kb, 0, none⟩), .int .i64 (N : Int), .agg #[.int .i64 D, fv, .int .i64 p]] wk fun e w2 => ∃ v U', e = .returned (.tuple #[v, .int .i64 (tc D F p N : Int)]) ∧ Os U' w2 (Pl.ch D F p N) v ∧ (∀ b, U' b → kb ≤ b) ∧ Below w1.heap.size w1 w2) := by
        refine hcall.mono ?_
        rintro e w2 ⟨v, H', T', U', rfl, k2, o2, m2, _⟩
        refine ⟨v, U', rfl, o2, fun b hb => (k2.ult hb).1, ?_⟩
        have hbk : ∀ b, b < w1.heap.size → w2.heap[b]? = w1.heap[b]? := fun b hb => (m2.kt.block b (Nat.lt_of_lt_of_le hb Bk.size) (fun t => by
          have hb2 : b = kb := by
            rcases t with t | t | t | t
            · exact t
            · cases t
            · cases t
            · cases t
          have := hkb.out
          omega)).trans (Bk.block b hb)
        exact ⟨m2.kt.os.trans Bk.os, m2.kt.tape.trans Bk.tape, m2.kt.output.trans Bk.output, Nat.le_trans Bk.size m2.kt.size, hbk⟩
      obtain ⟨t, ht⟩ : ∃ z, Hid (Pl.ch D F p N = z) := ⟨_, (rfl : _ = _)⟩
      have x0 := (X1.out.bel Bk).c0
      have x1 := (X1.out.bel Bk).c1
      have x2 := (X1.out.bel Bk).c2
      have X2 : Hid (∀ w2, Below w1.heap.size w1 w2 → Bo w2 (g + 1) 0 0 (.slice none 0 0)) := fun w2 hb => Y1.out.bel hb
      clear hcall hKS Bk gpo hFl hdm hgd
      obtain ⟨tk, htk⟩ : ∃ z, Hid (t.k = z) := ⟨_, (rfl : _ = _)⟩
      obtain ⟨tn, htn⟩ : ∃ z, Hid (t.n = z) := ⟨_, (rfl : _ = _)⟩
      obtain ⟨tl, htl⟩ : ∃ z, Hid (t.ks.length = z) := ⟨_, (rfl : _ = _)⟩
      have hcH2 : Hid (Calls Tryd.prog 48 #[.pointer (some ⟨kb, 0, none⟩), .int .i64 (N : Int), .agg #[.int .i64 D, fv, .int .i64 p]] wk fun e w2 => ∃ a c U' y, e = .returned (.tuple #[.agg #[.int .i64 tk, .int .i64 tn, .slice a tl c], .int .i64 (y : Int)]) ∧ Os U' w2 t (.agg #[.int .i64 tk, .int .i64 tn, .slice a tl c]) ∧ (∀ b, U' b → kb ≤ b) ∧ Below w1.heap.size w1 w2) := by
        refine hcH.out.mono ?_
        rintro e w2 ⟨v, U', rfl, o2, hu, hb⟩
        rw [ht.out] at o2
        obtain ⟨a, c, rfl⟩ := o2.shape
        rw [htk.out, htn.out, htl.out] at o2 ⊢
        exact ⟨a, c, U', _, rfl, o2, hu, hb⟩
      clear hcH
      rw [← ewk.out] at x0 x1 x2
      go_upto_region 6 with fail
      go_wp2_with fail
      rw [ewk.out, hkb.out]
      refine hcH2.out.mono ?_
      rintro e w2 ⟨a, c, U', y, rfl, o2, hu, hb2⟩
      have Y2 : Hid (Bo w2 (g + 1) 0 0 (.slice none 0 0)) := X2.out w2 hb2
      have hB2 : Hid (Below w.heap.size w w2) := btr B1H.out hb2
      have oH : Hid (Os U' w2 t (.agg #[.int .i64 tk, .int .i64 tn, .slice a tl c])) := o2
      have huH : Hid (∀ b, U' b → kb ≤ b) := hu
      clear o2 hu hb2 X2 hcH2 x0 x1 x2 Y1 B1H hF1 X1
      obtain ⟨w3, ew3⟩ : ∃ z, Hid (w2.alloc (.cells #[.int .i64 tk, .int .i64 tn, .slice a tl c] 24) = z) := ⟨_, (rfl : _ = _)⟩
      have B23 : Below w2.heap.size w2 w3 := by rw [← ew3.out]; exact (Below.refl _ _).alloc (Nat.le_refl _) _
      have Q3 : Hid (Bo w3 w2.heap.size tk tn (.slice a tl c)) := by show Bo _ _ _ _ _; rw [← ew3.out]; exact Bo.new _ _ _ _
      have Y3 : Hid (Bo w3 (g + 1) 0 0 (.slice none 0 0)) := Y2.out.bel B23
      have hB3 : Hid (Below w.heap.size w w3) := btr hB2.out B23
      have o3 : Hid (Os U' w3 t (.agg #[.int .i64 tk, .int .i64 tn, .slice a tl c])) := oH.out.bel B23
      obtain ⟨gq, hgq⟩ : ∃ z, Hid (w2.heap.size = z) := ⟨_, (rfl : _ = _)⟩
      rw [hgq.out] at Q3
      clear B23 Y2 hB2 oH
      go_upto_region 7 with fail
      rw [ew3.out, hgq.out]
      have q0 := Q3.out.c0
      have q1 := Q3.out.c1
      have q2 := Q3.out.c2
      have y0 := Y3.out.c0
      have y1 := Y3.out.c1
      have y2 := Y3.out.c2
      have yf0 := Y3.out.fz 0
      have yf1 := Y3.out.fz 1
      have yf2 := Y3.out.fz 2
      have hbr9 := st3_bo Y3.out tk tn (.slice a tl c)
      have hkt : Hid (KT (fun x => x = g + 1) w3 (st3 w3 (g + 1) tk tn (.slice a tl c))) := st3_kt _ _ _ _ _
      have hBe : Hid (Below w.heap.size w (st3 w3 (g + 1) tk tn (.slice a tl c))) := hB3.out.grown (st3_own _ _ _ _ _) hB3.out.size (fun k hk => by cases hk; rw [hg.out]; omega)
      obtain ⟨w4, ew4⟩ : ∃ w4, Hid (((w3.setCell ⟨g + 1, 0, none⟩ (.int .i64 tk)).setCell ⟨g + 1, 1, none⟩ (.int .i64 tn)).setCell ⟨g + 1, 2, none⟩ (.slice a tl c) = w4) := ⟨_, (rfl : _ = _)⟩
      have e4 : st3 w3 (g + 1) tk tn (.slice a tl c) = w4 := ew4.out
      rw [e4] at hbr9 hkt hBe
      have r0 := hbr9.c0
      have r1 := hbr9.c1
      have r2 := hbr9.c2
      clear hbr9 e4
      go_wp2_with fail
      rw [ew4.out]
      refine bodyPost_ret (v := .tuple #[.agg #[.int .i64 tk, .int .i64 tn, .slice a tl c], .int .i64 0]) (by simp [results, Tryd.results22, go_sem, r0, r1, r2]) rfl ?_
      refine ⟨_, by rw [hv.out], fun _ => ?_, (fun h => absurd hv.out.symm h), hBe.out⟩
      rw [Int.toNat_natCast, ht.out]
      exact Os.keep (fun x hx => by have h1 := huH.out x hx; have h2 := hgk.out; have h3 := hg.out; show w.heap.size ≤ x; omega) (fun x hx hl => hkt.out.block x hl (fun e => by have := huH.out x hx; have := hgk.out; omega)) t _ o3.out
theorem os_zero (S : Nat → Prop) (w : World) : Os S w ⟨0, 0, []⟩ (.agg #[.int .i64 0, .int .i64 0, .slice none 0 0]) := Os.leaf ⟨by decide, by decide⟩
theorem dchoose4_c {D p : Int} {F : List Int} {V : Nat → Prop} (n : Int) (fv : Value) (w : World) (hF : FlR V w fv F) (hln : F.length ≤ 9223372036854775807) : Calls Tryd.prog 22 #[.int .i64 n, .agg #[.int .i64 D, fv, .int .i64 p]] w fun e w' => ∃ v, e = .returned (.tuple #[v, .int .i64 (dcn D p F n)]) ∧ Os (fun b => w.heap.size ≤ b) w' (cht D p F n) v ∧ Below w.heap.size w w' := by
  refine (dchoose3_c n fv w hF hln).mono ?_
  rintro e w' ⟨v, rfl, h1, h2, hb⟩
  refine ⟨v, rfl, ?_, hb⟩
  unfold cht
  split
  · rename_i h; exact h1 h
  · rename_i h; rw [h2 h]; exact os_zero _ w'
theorem pchoose4_c {D p : Int} {F : List Int} {V : Nat → Prop} (n : Int) (fv : Value) (w : World) (al : List Addr) (hE : Errs w al) (hF : FlR V w fv F) (hln : F.length ≤ 9223372036854775807) (hV : ∀ b, V b → b < w.heap.size → ¬ orow w b) : Calls Tryd.prog 21 #[.int .i64 n, .agg #[.int .i64 D, fv, .int .i64 p]] w fun e w' => ∃ v, e = .returned (.tuple #[v, erv al (dcn D p F n)]) ∧ Os (fun b => w.heap.size ≤ b) w' (cht D p F n) v ∧ Below w.heap.size w w' := by
  have e14 := e14_of hE
  by_cases h0 : dcn D p F n = 0
  · have hn : ¬ (n < 1 ∨ 4096 < n) := fun h => by
      unfold dcn at h0
      rw [if_pos h] at h0
      exact absurd h0 (by decide)
    have hg : gdP D p F = true := by
      unfold dcn at h0
      rw [if_neg hn] at h0
      cases h : gdP D p F with
      | true => rfl
      | false => rw [h] at h0; exact absurd h0 (by decide)
    obtain ⟨N, rfl⟩ : ∃ N : Nat, n = (N : Int) := ⟨n.toNat, by omega⟩
    refine (choose_c N fv w _ _ hg (by omega) (by omega) hF e14.cN e14.cR hV).mono ?_
    rintro e w' ⟨v, rfl, ho, hb⟩
    refine ⟨v, by rw [h0]; rfl, ?_, hb⟩
    unfold cht
    rw [if_pos h0, Int.toNat_natCast]
    exact ho
  · have hrv : ∃ a, rfV D p F (al.getD 6 ⟨0, 0, none⟩) (al.getD 4 ⟨0, 0, none⟩) n = ev a ∧ erv al (dcn D p F n) = ev a := by
      unfold rfV dcn
      by_cases hn : n < 1 ∨ 4096 < n
      · rw [if_pos hn, if_pos hn]
        exact ⟨_, rfl, rfl⟩
      · rw [if_neg hn, if_neg hn]
        cases h : gdP D p F with
        | true =>
          exfalso
          unfold dcn at h0
          rw [if_neg hn, h] at h0
          exact h0 rfl
        | false => exact ⟨_, rfl, rfl⟩
    obtain ⟨a, h1, h2⟩ := hrv
    refine (choose_bad n fv w _ _ a h1 hF e14.cN e14.cR hln).mono ?_
    rintro e w' ⟨rfl, hb⟩
    refine ⟨_, by rw [h2], ?_, hb⟩
    unfold cht
    rw [if_neg h0]
    exact os_zero _ w'
end Go.Proofs.YtoaccmblaifnmaaDoor
