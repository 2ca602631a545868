/-
  Package planner's tellProducts, whole.
-/
import Derived.Test.YtoaccmblaifnmaaDoorProg
import Derived.WalkKit
import Ieee.Arith
import Derived.WalkLawsBesides
import Derived.Outline
import Derived.Deep.QuietTactic
import Derived.BigQuiet
import Derived.WalkSmall
import Derived.RegionTactic
import Derived.Lib.Mul64
import Derived.Laws.Bits64b
import Derived.Deep.CutBlock
import Derived.Deep.DeepCutAuto
import Derived.Maps.AppendAt
import Derived.Deep.RegionHeld3
import Derived.Deep.RegionWith
import Derived.Laws.OwnMore
import Derived.RangeFuncNested
import Derived.RangeFuncBound
import Derived.RangeFuncCalls
import Derived.RangeFuncLeaves
import Derived.RangeFuncBox
import Derived.Shelf.Abstract
import Derived.Shelf.RegionOpen
import Derived.OwnWalkIn
import Derived.TacticsInMore
import Derived.LoopNIn
import Derived.LoopIn
import Derived.Laws.Rows
import Derived.Lib.ItoaNum
import Derived.Laws.IdiomStrings
import Derived.Lib.SmallJoins
import Derived.Lib.HexFns
import Derived.Test.YtoaccmblaifnmaaDoorRows
import Derived.LaidEql
import Derived.LaidLaws
import Derived.LaidHandle
import Derived.Stop.Joined
import Derived.Recover
import Derived.RegionDies
import Derived.Laws.CopyOwn
import Derived.Lib.AppendIntMem
import Derived.Laws.AppendOwn
import Derived.OwnWalk
import Derived.BigCall
import Derived.Deep.RegionHeldLaw
import Derived.Laws.FloatArith
import Derived.Laws.ComplexArith
import Derived.Laws.MakeOwn
import Derived.MapKept
import Derived.Carry
import Derived.Test.YtoaccmblaifnmaaDoorBc3
namespace Go.Proofs.YtoaccmblaifnmaaDoor
open Flo Go.RowKit Go.Shelf Tr
attribute [local go_sem] Oper.semAt_some
/-- a list of leaves, in block rb -/
structure Lfs (W : World) (kv : Value) (ls : List Tr) (rb cap : Nat) (cur : Array Value) : Prop where
  kv : kv = .slice (some ⟨rb, 0, none⟩) ls.length cap
  blk : W.heap[rb]? = some (.cells cur 24 (0, 0))
  at' : ∀ i t, ls[i]? = some t → ∃ a c, t.ks = [] ∧ fit t.k t.n ∧ cur[i * 3]? = some (.int .i64 t.k) ∧ cur[i * 3 + 1]? = some (.int .i64 t.n) ∧ cur[i * 3 + 2]? = some (.slice a 0 c)
/-- what tellProducts answers -/
def TlE (Sr : (Nat → Prop) → World → Prop) (Mt V : Nat → Prop) (XS full : List Tr) (J Jx : List Tr → (Nat → Prop) → World → Prop) (W : World) (e : Ending) (W' : World) : Prop :=
  ∃ U' V', Sr V' W' ∧ (∀ b, V b → ¬ Mt b → W'.heap[b]? = W.heap[b]?) ∧ (∀ b, V b → V' b) ∧ (∀ b, V' b → V b ∨ W.heap.size ≤ b) ∧ Bd V' W' ∧ Bd U' W' ∧ Ap V' U' ∧ ((e = .returned (.bool true) ∧ J full U' W') ∨ (e = .returned (.bool false) ∧ ∃ pre, pre <+: XS ∧ Jx pre U' W'))
set_option maxRecDepth 100000 in
set_option maxHeartbeats 4000000 in
theorem tell_c {m l : Nat} {g2 : Nat} {lb2 : Array Value} (eg : ∀ args w, (callFunc g2 args).run Tryd.prog w = .ok (.enter g2 args) w)
    {C2 : List (Nat × Obj)} {xs2 : List Tr} {Sr : (Nat → Prop) → World → Prop} {Mt : Nat → Prop} (hseq : SeqU Tryd.prog g2 lb2 C2 toldO xs2 False Sr Mt) (hSs : ∀ V W W' T, Sr V W → KT T W W' → Ap T V → Sr V W')
    {V U0 : Nat → Prop} {W : World} (hSr : Sr V W) (hC : Fx C2 W) (hCV : ∀ p ∈ C2, V p.1) (bV : Bd V W) (bU : Bd U0 W) (hap : Ap V U0) {J Jx : List Tr → (Nat → Prop) → World → Prop} {tk : Prop} {XS pre0 : List Tr} (hYl : Yld Tryd.prog l tk XS J Jx) (hJ : Stb J) (hJx : Stb Jx) (h0 : J pre0 U0 W)
    (t1 : Tr) (kv : Value) (rb cap : Nat) (cur : Array Value) (hL : Lfs W kv [t1] rb cap cur) (hpre : pre0 ++ prods [t1] xs2 <+: XS) (hpt : ∀ t ∈ xs2, pt t ≤ 65536) :
    CallsIn Fence.wide m Tryd.prog 95 #[kv, .func (.func g2) #[] lb2, .func (.yield l) #[] #[]] W (TlE Sr Mt V XS (pre0 ++ prods [t1] xs2) J Jx W) := by
  obtain ⟨rfl, hblk, hat⟩ := hL
  obtain ⟨a1, c1, hk1, hf1, d0, d1, d2⟩ := hat 0 t1 rfl
  have cc : ∀ (X : World) (i : Nat), X.heap[rb]? = W.heap[rb]? → X.cell? ⟨rb, i, none⟩ = cur[i]? := fun X i e => by rw [Joins.cell_of_block (e.trans hblk)]
  obtain ⟨k1, n1, ks1⟩ := t1
  simp only at hk1 hf1 d0 d1 d2
  subst hk1
  have hrl : rb < W.heap.size := blk_lt hblk
  obtain ⟨Wa, eWa⟩ : ∃ Wa, Hid ((W.alloc (.cells #[.func (.yield l) #[] #[]] 26)).alloc (.cells #[.bool false] 4) = Wa) := ⟨_, (rfl : _ = _)⟩
  obtain ⟨Wb, eWb⟩ : ∃ Wb, Hid (Wa.alloc (.cells #[.int .i64 k1, .int .i64 n1, .slice a1 0 c1] 24) = Wb) := ⟨_, (rfl : _ = _)⟩
  have kab : ∀ T, KT T W Wa := fun T => by rw [← eWa.out]; exact ((KT.refl _ _).alloc _).alloc _
  have kb : ∀ T, KT T W Wb := fun T => by rw [← eWb.out]; exact (kab T).alloc _
  have sa : Wa.heap.size = W.heap.size + 2 := by rw [← eWa.out]; simp
  have sb : Wb.heap.size = W.heap.size + 3 := by rw [← eWb.out]; simp [sa]
  have hg : Wb.heap[W.heap.size]? = some (.cells #[.func (.yield l) #[] #[]] 26 (0, 0)) := by
    rw [← eWb.out, Below.heap_alloc _ _ _ (by omega), ← eWa.out, Below.heap_alloc _ _ _ (by simp)]; exact heap_alloc_new W _
  have hg1 : Wb.heap[W.heap.size + 1]? = some (.cells #[.bool false] 4 (0, 0)) := by
    rw [← eWb.out, Below.heap_alloc _ _ _ (by omega), ← eWa.out]
    have := heap_alloc_new (W.alloc (.cells #[.func (.yield l) #[] #[]] 26)) (.cells #[.bool false] 4)
    rw [World.size_alloc] at this; exact this
  have hg2 : Wb.heap[W.heap.size + 2]? = some (.cells #[.int .i64 k1, .int .i64 n1, .slice a1 0 c1] 24 (0, 0)) := by
    have := heap_alloc_new Wa (.cells #[.int .i64 k1, .int .i64 n1, .slice a1 0 c1] 24)
    rw [eWb.out, sa] at this; exact this
  have ra : Wa.heap[rb]? = W.heap[rb]? := (kab (fun _ => False)).block rb hrl (fun h => h)
  have x0 : Wa.cell? ⟨rb, 0, none⟩ = some (.int .i64 k1) := (cc Wa 0 ra).trans d0
  have x1 : Wa.cell? ⟨rb, 1, none⟩ = some (.int .i64 n1) := (cc Wa 1 ra).trans d1
  have x2 : Wa.cell? ⟨rb, 2, none⟩ = some (.slice a1 0 c1) := (cc Wa 2 ra).trans d2
  have FrH : Hid (Fx [(W.heap.size, Obj.cells #[.func (.yield l) #[] #[]] 26 (0, 0)), (W.heap.size + 1, Obj.cells #[.bool false] 4 (0, 0)), (W.heap.size + 2, Obj.cells #[.int .i64 k1, .int .i64 n1, .slice a1 0 c1] 24 (0, 0))] Wb) := fun p hp => by
    simp only [List.mem_cons, List.not_mem_nil, or_false] at hp
    rcases hp with rfl | rfl | rfl
    · exact hg
    · exact hg1
    · exact hg2
  have hSrH : Hid (Sr V Wb) := hSs _ _ _ (fun _ => False) hSr (kb _) (fun _ h => h.elim)
  have hCH : Hid (Fx C2 Wb) := (kb (fun _ => False)).fx hC (fun _ _ h => h)
  have bVH : Hid (Bd V Wb) := bV.kt (kb V)
  have bUH : Hid (Bd U0 Wb) := bU.kt (kb V)
  have hJb : Hid (J pre0 U0 Wb) := hJ _ _ _ _ (fun _ => False) h0 (kb _) (fun _ h => h.elim)
  have hFU : Hid (∀ p ∈ [(W.heap.size, Obj.cells #[.func (.yield l) #[] #[]] 26 (0, 0)), (W.heap.size + 1, Obj.cells #[.bool false] 4 (0, 0)), (W.heap.size + 2, Obj.cells #[.int .i64 k1, .int .i64 n1, .slice a1 0 c1] 24 (0, 0))], ¬ U0 p.1 ∧ ¬ V p.1) := fun p hp => by
    simp only [List.mem_cons, List.not_mem_nil, or_false] at hp
    rcases hp with rfl | rfl | rfl
    all_goals exact ⟨fun h => by have := bU _ h; simp only at this; omega, fun h => by have := bV _ h; simp only at this; omega⟩
  have hpre' : Hid (pre0 ++ xs2.map (fun b => Tr.mk 3 0 [⟨k1, n1, []⟩, b]) <+: XS) := by
    have : prods [⟨k1, n1, []⟩] xs2 = xs2.map (fun b => Tr.mk 3 0 [⟨k1, n1, []⟩, b]) := by simp [prods]
    rw [this] at hpre; exact hpre
  have hpe : Hid (prods [⟨k1, n1, []⟩] xs2 = xs2.map (fun b => Tr.mk 3 0 [⟨k1, n1, []⟩, b])) := by show _ = _; simp [prods]
  rw [hpe.out]
  simp only [List.length_cons, List.length_nil, Nat.zero_add]
  have hSsH : Hid (∀ V W W' T, Sr V W → KT T W W' → Ap T V → Sr V W') := hSs
  have hJH : Hid (Stb J) := hJ
  have hJxH : Hid (Stb Jx) := hJx
  have hYH : Hid (Yld Tryd.prog l tk XS J Jx) := hYl
  have hseqH : Hid (SeqU Tryd.prog g2 lb2 C2 toldO xs2 False Sr Mt) := hseq
  have hfH : Hid (fit k1 n1) := hf1
  have sbH : Hid (Wb.heap.size = W.heap.size + 3) := sb
  have kbH : Hid (∀ b, b < W.heap.size → Wb.heap[b]? = W.heap[b]?) := fun b hb => (kb (fun _ => False)).block b hb (fun h => h)
  have bVW : Hid (∀ b, V b → b < W.heap.size) := bV
  have sbW : Hid (W.heap.size ≤ Wb.heap.size) := by show _ ≤ _; omega
  have sa' : Hid (Wa.heap.size = W.heap.size + 2) := sa
  clear hat hSs hJ hJx hYl hseq hC bV bU h0 hSr hg hg1 hg2 ra cc d0 d1 d2 hblk hrl sb sa kab kb hf1 hpre
  refine callsIn_of_wp_marks Tryd.func95 rfl trivial ?_ rfl
  simp only [Tryd.ntmps95, List.size_toArray, List.length_cons, List.length_nil, Nat.reduceAdd, Nat.reduceSub, Array.replicate_succ, Array.replicate_zero, List.push_toArray, List.append_toArray, List.nil_append, List.cons_append]
  gi_wp2_with fail
  rw [eWa.out]
  refine wpIn_loop_rounds 2 ?_
  rw [roundsIn_succ]
  gi_wp2_with fail
  rw [eWb.out, sa'.out]
  refine tell_rf (g := W.heap.size) (g1 := W.heap.size + 1) (B8 := W.heap.size + 2) (ak := k1) (an := n1) (aa := a1) (ac := c1) eg hseqH.out hSsH.out hSrH.out hCH.out hCV bVH.out bUH.out hap hYH.out hJH.out hJxH.out hJb.out FrH.out hFU.out (by simp) (by simp) (by simp) hfH.out hpre'.out hpt ?done ?stop
  case done =>
    rintro U2 V2 W2 ⟨q1, qC, q2, q3, q4, q5, q6, q7, q8, q9, q10, q11⟩ hJ2
    have q4' := fun b (hb : V b) => q4 b (q2 b hb)
    have r1 : W2.heap[W.heap.size + 1]? = some (.cells #[.bool false] 4 (0, 0)) := q7 (W.heap.size + 1, .cells #[.bool false] 4 (0, 0)) (by simp)
    have cz : W2.cell? ⟨W.heap.size + 1, 0, none⟩ = some (.bool false) := by rw [Joins.cell_of_block r1]; rfl
    have cf : W2.frozen? ⟨W.heap.size + 1, 0, none⟩ = false := Joins.unfrozen_of_block r1 0
    have nn := q8 (W.heap.size + 1, .cells #[.bool false] 4 (0, 0)) (by simp)
    have kE : KT (fun b => b = W.heap.size + 1 ∨ b = Wb.heap.size) W2 ((W2.setCell ⟨W.heap.size + 1, 0, none⟩ (.bool true)).putObj Wb.heap.size (.deferred none)) :=
      (KT.grown (Lib.Hx.grownBy_set (Lib.Hx.grownBy_refl W2 (some (W.heap.size + 1))) ⟨W.heap.size + 1, 0, none⟩ rfl (.bool true)) (fun b e => by cases e; exact .inl rfl)).trans (KT.put _ _ _ (.inr rfl))
    have hK' : (W2.setCell ⟨W.heap.size + 1, 0, none⟩ (.bool true)).heap[Wb.heap.size]? = some (.deferred (some [])) := by
      rw [sc_blk _ _ _ (by have := sbH.out; omega)]; exact q11
    have hfin : Hid (TlE Sr Mt V XS (pre0 ++ xs2.map (fun b => Tr.mk 3 0 [⟨k1, n1, []⟩, b])) J Jx W (.returned (.bool true)) ((W2.setCell ⟨W.heap.size + 1, 0, none⟩ (.bool true)).putObj Wb.heap.size (.deferred none))) := by
      refine ⟨U2, V2, hSsH.out _ _ _ _ q1 kE ?_, (fun b hb hm => ?_), q2, (fun b hb => (q3 b hb).imp id fun h => by have := sbW.out; omega), q4.kt kE, q5.kt kE, q6, .inl ⟨rfl, hJH.out _ _ _ _ _ hJ2 kE ?_⟩⟩
      · rintro b (rfl | rfl) hv
        · exact nn.2 hv
        · exact q10 hv
      · rw [kE.block b (q4' b hb) (by rintro (e | e); exact nn.2 (e ▸ q2 _ hb); exact q10 (e ▸ q2 _ hb)), qC b hb hm]
        exact kbH.out b (bVW.out b hb)
      · rintro b (rfl | rfl) hv
        · exact nn.1 hv
        · exact q9 hv
    have c9 : ((W2.setCell ⟨W.heap.size + 1, 0, none⟩ (.bool true)).putObj Wb.heap.size (.deferred none)).cell? ⟨W.heap.size + 1, 0, none⟩ = some (.bool true) := by
      have h1 : ((W2.setCell ⟨W.heap.size + 1, 0, none⟩ (.bool true)).putObj Wb.heap.size (.deferred none)).heap[W.heap.size + 1]? = (W2.setCell ⟨W.heap.size + 1, 0, none⟩ (.bool true)).heap[W.heap.size + 1]? := World.putObj_heap_other (by have := sbH.out; omega)
      rw [World.cell?_of_block (a := ⟨W.heap.size + 1, 0, none⟩) h1]
      exact World.cell?_setCell_same' _ _ _ (by rw [cz]; rfl)
    clear q4' q1 qC q2 q3 q4 q5 q6 q7 q8 q9 q10 q11 hJ2 r1 nn kE x0 x1 x2
    gi_wp2_with fail
    rw [roundsIn_succ]
    gi_wp2_with fail
    refine ⟨by simp, .inl ⟨_, _, rfl, run_takeDeferred hK', ?_⟩⟩
    refine ⟨.bool true, ?_, hfin.out⟩
    simp [results, Tryd.f95, go_sem, c9]
  case stop =>
    rintro U2 V2 W2 ⟨q1, qC, q2, q3, q4, q5, q6, q7, q8, q9, q10, q11⟩ ⟨pre, hp1, hJ2⟩
    have q4' := fun b (hb : V b) => q4 b (q2 b hb)
    have r1 : W2.heap[W.heap.size + 1]? = some (.cells #[.bool false] 4 (0, 0)) := q7 (W.heap.size + 1, .cells #[.bool false] 4 (0, 0)) (by simp)
    have kE : KT (fun b => b = Wb.heap.size) W2 (W2.putObj Wb.heap.size (.deferred none)) := KT.put _ _ _ rfl
    have hfin : Hid (TlE Sr Mt V XS (pre0 ++ xs2.map (fun b => Tr.mk 3 0 [⟨k1, n1, []⟩, b])) J Jx W (.returned (.bool false)) (W2.putObj Wb.heap.size (.deferred none))) := by
      refine ⟨U2, V2, hSsH.out _ _ _ _ q1 kE ?_, (fun b hb hm => ?_), q2, (fun b hb => (q3 b hb).imp id fun h => by have := sbW.out; omega), q4.kt kE, q5.kt kE, q6, .inr ⟨rfl, pre, hp1, hJxH.out _ _ _ _ _ hJ2 kE ?_⟩⟩
      · rintro b rfl hv; exact q10 hv
      · rw [kE.block b (q4' b hb) (fun e => q10 (e ▸ q2 _ hb)), qC b hb hm]
        exact kbH.out b (bVW.out b hb)
      · rintro b rfl hv; exact q9 hv
    have c9 : (W2.putObj Wb.heap.size (.deferred none)).cell? ⟨W.heap.size + 1, 0, none⟩ = some (.bool false) := by
      have h1 : (W2.putObj Wb.heap.size (.deferred none)).heap[W.heap.size + 1]? = W2.heap[W.heap.size + 1]? := World.putObj_heap_other (by have := sbH.out; omega)
      rw [Joins.cell_of_block (h1.trans r1)]; rfl
    have hK' : W2.heap[Wb.heap.size]? = some (.deferred (some [])) := q11
    clear q4' q1 qC q2 q3 q4 q5 q6 q7 q8 q9 q10 q11 hJ2 r1 kE x0 x1 x2
    refine ⟨by simp, .inl ⟨_, _, rfl, run_takeDeferred hK', ?_⟩⟩
    refine ⟨.bool false, ?_, hfin.out⟩
    simp [results, Tryd.f95, go_sem, c9]
end Go.Proofs.YtoaccmblaifnmaaDoor
