/-
  The planner's All.
-/
import Derived.WalkKit
import Ieee.Arith
import Derived.WalkLawsBesides
import Derived.Test.YtoaccmblaifnmaaDoorProg
import Derived.Outline
import Derived.Deep.QuietTactic
import Derived.BigQuiet
import Derived.WalkSmall
import Derived.RegionTactic
import Derived.Lib.Mul64
import Derived.Laws.Bits64b
import Derived.Deep.CutBlock
import Derived.Deep.DeepCutAuto
import Derived.Maps.AppendAt
import Derived.Deep.RegionHeld3
import Derived.Deep.RegionWith
import Derived.Laws.OwnMore
import Derived.RangeFuncNested
import Derived.RangeFuncBound
import Derived.RangeFuncCalls
import Derived.RangeFuncLeaves
import Derived.RangeFuncBox
import Derived.Shelf.Abstract
import Derived.Shelf.RegionOpen
import Derived.OwnWalkIn
import Derived.TacticsInMore
import Derived.LoopNIn
import Derived.LoopIn
import Derived.Laws.Rows
import Derived.Lib.ItoaNum
import Derived.Laws.IdiomStrings
import Derived.Lib.SmallJoins
import Derived.Lib.HexFns
import Derived.Test.YtoaccmblaifnmaaDoorRows
import Derived.LaidEql
import Derived.LaidLaws
import Derived.LaidHandle
import Derived.Stop.Joined
import Derived.Recover
import Derived.RegionDies
import Derived.Laws.CopyOwn
import Derived.Lib.AppendIntMem
import Derived.Laws.AppendOwn
import Derived.OwnWalk
import Derived.BigCall
import Derived.Deep.RegionHeldLaw
import Derived.Laws.FloatArith
import Derived.Laws.ComplexArith
import Derived.Laws.MakeOwn
import Derived.MapKept
import Derived.Carry
import Derived.ChangeAlike
import Derived.Deep.RegionLaw
import Derived.Defers
import Derived.Deep.AppendSrc
import Derived.Test.YtoaccmblaifnmaaDoorBe7
import Derived.Test.YtoaccmblaifnmaaDoorBe2
namespace Go.Proofs.YtoaccmblaifnmaaDoor
open Flo Go.RowKit Go.Shelf Tr
theorem nilI_none (c : Nat) (w : World) : (binOp .eql 43 (.slice none 0 c) (.slice none 0 0)).run Tryd.prog w = .ok (.bool true) w := by kernel_rfl
theorem nilI_some (a : Addr) (m c : Nat) (w : World) : (binOp .eql 43 (.slice (some a) m c) (.slice none 0 0)).run Tryd.prog w = .ok (.bool false) w := by kernel_rfl
theorem wpList_fl {ops : Array Oper} {rest : List Oper} {o : Oper} {a : Act} {w : World} {Q : Exit → Act → World → Prop}
    (hg : o.guard = none) (s x : Operand) (hop : o.op = Op.call { callee := Callee.builtin Builtin.append, args := #[s, x], argTypes := #[43, 43] })
    (g0 : Nat) (hs : a.eval s = .slice (some ⟨g0, 0, none⟩) 0 0) (h0 : w.heap[g0]? = some (.cells #[] 3 (0, 0))) (xv : Value) (hx : a.eval x = xv) {V : Nat → Prop} {F : List Int} (hF : FlR V w xv F) (hb : F.length * 8 ≤ 140737488355328)
    (h : ∀ r c w', FlR (fun b => b = r) w' (.slice (some ⟨r, 0, none⟩) F.length c) F → w.grownBy w' (some g0) → (r = g0 ∨ w.heap.size ≤ r) → wpList Tryd.prog ops Q rest (a.put o.dst (.slice (some ⟨r, 0, none⟩) F.length c)) w') : wpList Tryd.prog ops Q (o :: rest) a w := by
  refine wpList_plain hg fun _ hK => ?_
  have := step_fl (ops := ops) (E := True) (Q := Q) hg s x hop g0 hs h0 xv hx hF hb (fun r c w' h1 _ h3 h4 => hK _ _ (h r c w' h1 h3 h4))
  rwa [if_pos (by simp [Region.wanted, hg])] at this
set_option maxRecDepth 100000 in
set_option maxHeartbeats 2000000 in
theorem cloneI_c {F : List Int} {V : Nat → Prop} (fv : Value) (w : World) (hF : FlR V w fv F) (hb : F.length * 8 ≤ 140737488355328) : Calls Tryd.prog 59 #[fv] w fun e w' => ∃ fv', e = .returned fv' ∧ FlR (fun b => w.heap.size ≤ b) w' fv' F ∧ Below w.heap.size w w' := by
  have hFH : Hid (FlR V w fv F) := hF
  obtain ⟨ao, cap, rfl, hc⟩ := hF
  cases ao with
  | none =>
    have hF0 : F = [] := by
      cases F with
      | nil => rfl
      | cons f fs => obtain ⟨b, off, e, _⟩ := hc 0 (by simp); cases e
    subst hF0
    have hq := nilI_none cap
    clear hFH hc
    simp only [List.length_nil]
    go_enter Tryd.func59, Tryd.ntmps59
    go_wp2
    go_ret
    exact ⟨_, rfl, ⟨none, 0, rfl, fun i hi => absurd hi (Nat.not_lt_zero _)⟩, Below.refl _ _⟩
  | some ad =>
    obtain ⟨L, hL⟩ : ∃ L, Hid (F.length = L) := ⟨_, (rfl : _ = _)⟩
    have hq := nilI_some ad L cap
    have hA : Hid (FlR V (w.alloc (.cells #[] 3)) (.slice (some ad) L cap) F) := by
      have h := hFH.out.kt (T := fun _ => False) (KT.of_below ((Below.refl w.heap.size w).alloc (Nat.le_refl _) (.cells #[] 3))) (fun _ h => h.elim)
      rw [hL.out] at h; exact h
    have hbH : Hid (F.length * 8 ≤ 140737488355328) := hb
    rw [hL.out]
    clear hFH hc hb
    go_enter Tryd.func59, Tryd.ntmps59
    go_wp2_with (first | (at_builtin; refine wpList_fl rfl _ _ rfl w.heap.size rfl (heap_alloc_new _ _) (.slice (some ad) L cap) rfl hA.out hbH.out ?_) | fail)
    intro r c w2 h1 h2 h3
    rw [hL.out] at h1 ⊢
    have hBl : Hid (Below w.heap.size w w2) := ((Below.refl w.heap.size w).alloc (Nat.le_refl _) _).grown h2 (by simp) (fun k hk => by cases hk; exact Nat.le_refl _)
    have hfin : Hid (FlR (fun b => w.heap.size ≤ b) w2 (.slice (some ⟨r, 0, none⟩) L c) F) := by
      obtain ⟨a', c', e', hc'⟩ := h1
      refine ⟨a', c', e', fun i hi => ?_⟩
      obtain ⟨b, off, q1, q2, q3, q4⟩ := hc' i hi
      exact ⟨b, off, q1, by subst q2; rcases h3 with h | h; omega; exact Nat.le_trans (by simp) h, q3, q4⟩
    clear h1 h2 h3 hA
    go_wp2
    go_ret
    exact ⟨_, rfl, hfin.out, hBl.out⟩
/-- what All refuses -/
def rfb (D p : Int) (F : List Int) (n : Int) : Bool := !(decide (1 ≤ n) && decide (n ≤ 4096) && gdP D p F)
set_option maxRecDepth 100000 in
set_option maxHeartbeats 4000000 in
theorem pall_c {D p : Int} {F : List Int} {V : Nat → Prop} (n : Int) (fv : Value) (w : World) (aN aR : Addr) (hF : FlR V w fv F) (hN : w.cell? ⟨4, 0, none⟩ = some (ev aN)) (hR : w.cell? ⟨2, 0, none⟩ = some (ev aR)) (hb : F.length * 8 ≤ 140737488355328) :
    Calls Tryd.prog 36 #[.int .i64 n, .agg #[.int .i64 D, fv, .int .i64 p]] w fun e w' => ∃ B1 B2 B3 fv', e = .returned (.func (.func 60) #[] (aL B1 B2 B3)) ∧ Fx (aC B1 B2 B3 (rfb D p F n) D fv' p n) w' ∧ (w.heap.size ≤ B1 ∧ w.heap.size ≤ B2 ∧ w.heap.size ≤ B3) ∧ (rfb D p F n = false → FlR (fun b => w.heap.size ≤ b) w' fv' F) ∧ Below w.heap.size w w' := by
  obtain ⟨wa, ewa⟩ : ∃ wa, Hid ((w.alloc (.cells #[.int .i64 n] 3)).alloc (.cells #[.int .i64 D, fv, .int .i64 p] 45) = wa) := ⟨_, (rfl : _ = _)⟩
  obtain ⟨g, hg⟩ : ∃ g, Hid (w.heap.size = g) := ⟨_, (rfl : _ = _)⟩
  have Ba : Below w.heap.size w wa := by rw [← ewa.out]; exact ((Below.refl _ _).alloc (Nat.le_refl _) _).alloc (by simp) _
  have sa : Hid (wa.heap.size = g + 2) := by show _ = _; rw [← ewa.out, ← hg.out]; simp
  have Xa : Hid (Bp wa (g + 1) D fv p) := by
    have h := Bp.new (w.alloc (.cells #[.int .i64 n] 3)) D p fv
    rw [ewa.out, World.size_alloc, hg.out] at h; exact h
  have Na : Hid (wa.heap[g]? = some (.cells #[.int .i64 n] 3 (0, 0))) := by
    show _ = _
    rw [← ewa.out, ← hg.out, Below.heap_alloc _ _ _ (by simp)]; exact heap_alloc_new w _
  have hFa : Hid (FlR V wa fv F) := hF.kt (T := fun _ => False) (KT.of_below Ba) (fun _ h => h.elim)
  have hR1 := (Ba.cell (p := ⟨2, 0, none⟩) (cell_lt hR)).trans hR
  have hN1 := (Ba.cell (p := ⟨4, 0, none⟩) (cell_lt hN)).trans hN
  have hrf : Hid (Calls Tryd.prog 45 #[.int .i64 n, .agg #[.int .i64 D, fv, .int .i64 p]] wa fun e w' => e = .returned (rfV D p F aN aR n) ∧ Below wa.heap.size wa w') := refusal_c (D := D) (p := p) n fv wa aN aR hFa.out hN1 hR1 (by omega)
  have BaH : Hid (Below w.heap.size w wa) := Ba
  have hbH : Hid (F.length * 8 ≤ 140737488355328) := hb
  obtain ⟨ao, cap, rfl, _⟩ := hF
  rename_i hold
  clear hold hR hN hR1 hN1 Ba hb
  obtain ⟨L, hL⟩ : ∃ L, Hid (F.length = L) := ⟨_, (rfl : _ = _)⟩
  rw [hL.out] at ewa Xa hFa hrf ⊢
  have n0 : wa.cell? ⟨g, 0, none⟩ = some (.int .i64 n) := by rw [Joins.cell_of_block Na.out]; rfl
  have x0 := Xa.out.c0
  have x1 := Xa.out.c1
  have x2 := Xa.out.c2
  obtain ⟨R, hRv⟩ : ∃ R, Hid (rfV D p F aN aR n = R) := ⟨_, (rfl : _ = _)⟩
  have hor : (rfb D p F n = false ∧ R = .nilIface) ∨ (rfb D p F n = true ∧ ∃ a, R = .iface 160 (.pointer (some a))) := by
    rw [← hRv.out]
    unfold rfb rfV
    by_cases h1 : n < 1 ∨ 4096 < n
    · rw [if_pos h1]
      refine .inr ⟨?_, _, rfl⟩
      rcases h1 with h | h
      · rw [decide_eq_false (show ¬ 1 ≤ n by omega)]; rfl
      · rw [decide_eq_false (show ¬ n ≤ 4096 by omega)]; simp
    · rw [if_neg h1, decide_eq_true (show 1 ≤ n by omega), decide_eq_true (show n ≤ 4096 by omega)]
      cases gdP D p F with
      | true => exact .inl ⟨rfl, rfl⟩
      | false => exact .inr ⟨rfl, _, rfl⟩
  rw [hRv.out] at hrf
  go_enter Tryd.func36, Tryd.ntmps36
  go_upto_region 1 with fail
  rw [ewa.out, hg.out]
  go_wp2_with fail
  refine hrf.out.mono ?_
  rintro e w1 ⟨rfl, B1⟩
  have hB1 : Hid (Below w.heap.size w w1) := btr BaH.out B1
  have X1 : Hid (Bp w1 (g + 1) D (.slice ao L cap) p) := Xa.out.bel B1
  have N1 : Hid (w1.heap[g]? = some (.cells #[.int .i64 n] 3 (0, 0))) := (B1.block g (by have := sa.out; omega)).trans Na.out
  have F1 : Hid (FlR V w1 (.slice ao L cap) F) := hFa.out.kt (T := fun _ => False) (KT.of_below B1) (fun _ h => h.elim)
  have s1 : Hid (g + 2 ≤ w1.heap.size) := by have := B1.size; have := sa.out; show _ ≤ _; omega
  clear B1 x0 x1 x2 n0 hrf
  obtain ⟨r, hr⟩ : ∃ r, Hid (w1.heap.size = r) := ⟨_, (rfl : _ = _)⟩
  obtain ⟨hrb, rfl⟩ | ⟨hrb, a, rfl⟩ := hor
  · obtain ⟨w2, ew2⟩ : ∃ w2, Hid (w1.alloc (.cells #[.bool false] 4) = w2) := ⟨_, (rfl : _ = _)⟩
    have B12 : Below w1.heap.size w1 w2 := by rw [← ew2.out]; exact (Below.refl _ _).alloc (Nat.le_refl _) _
    have X2 : Hid (Bp w2 (g + 1) D (.slice ao L cap) p) := X1.out.bel B12
    have N2 : Hid (w2.heap[g]? = some (.cells #[.int .i64 n] 3 (0, 0))) := (B12.block g (by have := s1.out; omega)).trans N1.out
    have R2 : Hid (w2.heap[r]? = some (.cells #[.bool false] 4 (0, 0))) := by show _ = _; rw [← ew2.out, ← hr.out]; exact heap_alloc_new _ _
    have F2 : Hid (FlR V w2 (.slice ao L cap) F) := F1.out.kt (T := fun _ => False) (KT.of_below B12) (fun _ h => h.elim)
    have hB2 : Hid (Below w.heap.size w w2) := btr hB1.out B12
    have s2 : Hid (g + 2 ≤ r ∧ r < w2.heap.size) := ⟨by rw [← hr.out]; exact s1.out, blk_lt R2.out⟩
    have hcl : Hid (Calls Tryd.prog 59 #[.slice ao L cap] w2 fun e w' => ∃ fv', e = .returned fv' ∧ FlR (fun b => w2.heap.size ≤ b) w' fv' F ∧ Below w2.heap.size w2 w') := cloneI_c _ w2 F2.out hbH.out
    have r0 : w2.cell? ⟨r, 0, none⟩ = some (.bool false) := by rw [Joins.cell_of_block R2.out]; rfl
    have x0 := X2.out.c0
    have x1 := X2.out.c1
    have x2 := X2.out.c2
    clear B12 hB1 F1 F2
    go_upto_region 2 with fail
    rw [ew2.out, hr.out]
    go_wp2_with fail
    refine hcl.out.mono ?_
    rintro e w3 ⟨fv', rfl, hF3, B3⟩
    obtain ⟨ra, rc, hfv', -⟩ := id hF3
    rw [hL.out] at hfv'
    subst hfv'
    have X3 := X2.out.bel B3
    have y1 := X3.c1
    have yf := X3.fz 1
    have hX3 : Hid (Bp w3 (g + 1) D (.slice ao L cap) p) := X3
    have hF3H : Hid (FlR (fun b => w2.heap.size ≤ b) w3 (.slice ra L rc) F) := hF3
    have hB3 : Hid (Below w.heap.size w w3) := btr hB2.out B3
    have N3 : Hid (w3.heap[g]? = some (.cells #[.int .i64 n] 3 (0, 0))) := (B3.block g (blk_lt N2.out)).trans N2.out
    have R3 : Hid (w3.heap[r]? = some (.cells #[.bool false] 4 (0, 0))) := (B3.block r (blk_lt R2.out)).trans R2.out
    clear X3 hF3 B3 x0 x1 x2 r0 hcl
    go_wp2_with fail
    go_ret
    obtain ⟨w4, ew4⟩ : ∃ w4, Hid (w3.setCell ⟨g + 1, 1, none⟩ (.slice ra L rc) = w4) := ⟨_, (rfl : _ = _)⟩
    rw [ew4.out]
    have k34 : KT (fun b => b = g + 1) w3 w4 := by rw [← ew4.out]; exact KT.grown (Lib.Hx.grownBy_set (Lib.Hx.grownBy_refl w3 (some (g + 1))) ⟨g + 1, 1, none⟩ rfl _) (fun c e => by cases e; rfl)
    have hg1 : w.heap.size = g := hg.out
    have hs2 := s2.out
    rw [hrb]
    refine ⟨r, g + 1, g, .slice ra L rc, rfl, fun q hq => ?_, ⟨by omega, by omega, by omega⟩, fun _ => ?_, ?_⟩
    · simp only [aC, List.mem_cons, List.not_mem_nil, or_false] at hq
      rcases hq with rfl | rfl | rfl
      · exact (k34.block r (blk_lt R3.out) (by omega)).trans R3.out
      · rw [← ew4.out]
        exact hsc hX3.out.b _
      · exact (k34.block g (blk_lt N3.out) (by omega)).trans N3.out
    · have h9 := hF3H.out.kt k34 (fun b hb hv => by have : w2.heap.size ≤ b := hv; omega)
      obtain ⟨a', c', e', hc'⟩ := h9
      refine ⟨a', c', e', fun i hi => ?_⟩
      obtain ⟨b, off, q1, q2, q3, q4⟩ := hc' i hi
      exact ⟨b, off, q1, by have : w2.heap.size ≤ b := q2; show w.heap.size ≤ b; omega, q3, q4⟩
    · rw [← ew4.out]
      exact hB3.out.setCell (p := ⟨g + 1, 1, none⟩) (by show _ ≤ g + 1; omega) _
  · obtain ⟨w2, ew2⟩ : ∃ w2, Hid (w1.alloc (.cells #[.bool true] 4) = w2) := ⟨_, (rfl : _ = _)⟩
    have B12 : Below w1.heap.size w1 w2 := by rw [← ew2.out]; exact (Below.refl _ _).alloc (Nat.le_refl _) _
    have X2 : Hid (Bp w2 (g + 1) D (.slice ao L cap) p) := X1.out.bel B12
    have N2 : Hid (w2.heap[g]? = some (.cells #[.int .i64 n] 3 (0, 0))) := (B12.block g (by have := s1.out; omega)).trans N1.out
    have R2 : Hid (w2.heap[r]? = some (.cells #[.bool true] 4 (0, 0))) := by show _ = _; rw [← ew2.out, ← hr.out]; exact heap_alloc_new _ _
    have hB2 : Hid (Below w.heap.size w w2) := btr hB1.out B12
    have s2 : Hid (g + 2 ≤ r) := by show _ ≤ _; rw [← hr.out]; exact s1.out
    have r0 : w2.cell? ⟨r, 0, none⟩ = some (.bool true) := by rw [Joins.cell_of_block R2.out]; rfl
    clear B12 hB1 F1
    go_upto_region 2 with fail
    rw [ew2.out, hr.out]
    go_wp2_with fail
    go_ret
    have hg1 : w.heap.size = g := hg.out
    have hs2 := s2.out
    rw [hrb]
    refine ⟨r, g + 1, g, .slice ao L cap, rfl, fun q hq => ?_, ⟨by omega, by omega, by omega⟩, fun h => (by cases h), hB2.out⟩
    simp only [aC, List.mem_cons, List.not_mem_nil, or_false] at hq
    rcases hq with rfl | rfl | rfl
    · exact R2.out
    · exact X2.out.b
    · exact N2.out
end Go.Proofs.YtoaccmblaifnmaaDoor
