/-
  Package planner's tellProducts, of two first parts.
-/
import Derived.Test.YtoaccmblaifnmaaDoorProg
import Derived.WalkKit
import Ieee.Arith
import Derived.WalkLawsBesides
import Derived.Outline
import Derived.Deep.QuietTactic
import Derived.BigQuiet
import Derived.WalkSmall
import Derived.RegionTactic
import Derived.Lib.Mul64
import Derived.Laws.Bits64b
import Derived.Deep.CutBlock
import Derived.Deep.DeepCutAuto
import Derived.Maps.AppendAt
import Derived.Deep.RegionHeld3
import Derived.Deep.RegionWith
import Derived.Laws.OwnMore
import Derived.RangeFuncNested
import Derived.RangeFuncBound
import Derived.RangeFuncCalls
import Derived.RangeFuncLeaves
import Derived.RangeFuncBox
import Derived.Shelf.Abstract
import Derived.Shelf.RegionOpen
import Derived.OwnWalkIn
import Derived.TacticsInMore
import Derived.LoopNIn
import Derived.LoopIn
import Derived.Laws.Rows
import Derived.Lib.ItoaNum
import Derived.Laws.IdiomStrings
import Derived.Lib.SmallJoins
import Derived.Lib.HexFns
import Derived.Test.YtoaccmblaifnmaaDoorRows
import Derived.LaidEql
import Derived.LaidLaws
import Derived.LaidHandle
import Derived.Stop.Joined
import Derived.Recover
import Derived.RegionDies
import Derived.Laws.CopyOwn
import Derived.Lib.AppendIntMem
import Derived.Laws.AppendOwn
import Derived.OwnWalk
import Derived.BigCall
import Derived.Deep.RegionHeldLaw
import Derived.Laws.FloatArith
import Derived.Laws.ComplexArith
import Derived.Laws.MakeOwn
import Derived.MapKept
import Derived.Carry
import Derived.Test.YtoaccmblaifnmaaDoorBc4
namespace Go.Proofs.YtoaccmblaifnmaaDoor
open Flo Go.RowKit Go.Shelf Tr
attribute [local go_sem] Oper.semAt_some
set_option maxRecDepth 100000 in
set_option maxHeartbeats 4000000 in
theorem tell2_c {m l : Nat} {g2 : Nat} {lb2 : Array Value} (eg : ∀ args w, (callFunc g2 args).run Tryd.prog w = .ok (.enter g2 args) w)
    {C2 : List (Nat × Obj)} {xs2 : List Tr} {Sr : (Nat → Prop) → World → Prop} {Mt : Nat → Prop} (hseq : SeqU Tryd.prog g2 lb2 C2 toldO xs2 False Sr Mt) (hSs : ∀ V W W' T, Sr V W → KT T W W' → Ap T V → Sr V W')
    {V U0 : Nat → Prop} {W : World} (hSr : Sr V W) (hC : Fx C2 W) (hCV : ∀ p ∈ C2, V p.1) (bV : Bd V W) (bU : Bd U0 W) (hap : Ap V U0) {J Jx : List Tr → (Nat → Prop) → World → Prop} {tk : Prop} {XS pre0 : List Tr} (hYl : Yld Tryd.prog l tk XS J Jx) (hJ : Stb J) (hJx : Stb Jx) (h0 : J pre0 U0 W)
    (t1 t2 : Tr) (kv : Value) (rb cap : Nat) (cur : Array Value) (hL : Lfs W kv [t1, t2] rb cap cur) (hpre : pre0 ++ prods [t1, t2] xs2 <+: XS) (hrb : ¬ U0 rb ∧ ¬ V rb) (hCM : ∀ p ∈ C2, ¬ Mt p.1) (hpt : ∀ t ∈ xs2, pt t ≤ 65536) :
    CallsIn Fence.wide m Tryd.prog 95 #[kv, .func (.func g2) #[] lb2, .func (.yield l) #[] #[]] W (TlE Sr Mt V XS (pre0 ++ prods [t1, t2] xs2) J Jx W) := by
  obtain ⟨rfl, hblk, hat⟩ := hL
  obtain ⟨a1, c1, hk1, hf1, d0, d1, d2⟩ := hat 0 t1 rfl
  obtain ⟨a2, c2, hk2, hf2, f0, f1, f2⟩ := hat 1 t2 rfl
  have cc : ∀ (X : World) (i : Nat), X.heap[rb]? = W.heap[rb]? → X.cell? ⟨rb, i, none⟩ = cur[i]? := fun X i e => by rw [Joins.cell_of_block (e.trans hblk)]
  obtain ⟨k1, n1, ks1⟩ := t1
  obtain ⟨k2, n2, ks2⟩ := t2
  simp only at hk1 hf1 d0 d1 d2 hk2 hf2 f0 f1 f2
  subst hk1
  subst hk2
  have hrl : rb < W.heap.size := blk_lt hblk
  obtain ⟨Wa, eWa⟩ : ∃ Wa, Hid ((W.alloc (.cells #[.func (.yield l) #[] #[]] 26)).alloc (.cells #[.bool false] 4) = Wa) := ⟨_, (rfl : _ = _)⟩
  obtain ⟨Wb, eWb⟩ : ∃ Wb, Hid (Wa.alloc (.cells #[.int .i64 k1, .int .i64 n1, .slice a1 0 c1] 24) = Wb) := ⟨_, (rfl : _ = _)⟩
  have kab : ∀ T, KT T W Wa := fun T => by rw [← eWa.out]; exact ((KT.refl _ _).alloc _).alloc _
  have kb : ∀ T, KT T W Wb := fun T => by rw [← eWb.out]; exact (kab T).alloc _
  have sa : Wa.heap.size = W.heap.size + 2 := by rw [← eWa.out]; simp
  have sb : Wb.heap.size = W.heap.size + 3 := by rw [← eWb.out]; simp [sa]
  have hg : Wb.heap[W.heap.size]? = some (.cells #[.func (.yield l) #[] #[]] 26 (0, 0)) := by
    rw [← eWb.out, Below.heap_alloc _ _ _ (by omega), ← eWa.out, Below.heap_alloc _ _ _ (by simp)]; exact heap_alloc_new W _
  have hg1 : Wb.heap[W.heap.size + 1]? = some (.cells #[.bool false] 4 (0, 0)) := by
    rw [← eWb.out, Below.heap_alloc _ _ _ (by omega), ← eWa.out]
    have := heap_alloc_new (W.alloc (.cells #[.func (.yield l) #[] #[]] 26)) (.cells #[.bool false] 4)
    rw [World.size_alloc] at this; exact this
  have hg2 : Wb.heap[W.heap.size + 2]? = some (.cells #[.int .i64 k1, .int .i64 n1, .slice a1 0 c1] 24 (0, 0)) := by
    have := heap_alloc_new Wa (.cells #[.int .i64 k1, .int .i64 n1, .slice a1 0 c1] 24)
    rw [eWb.out, sa] at this; exact this
  have ra : Wa.heap[rb]? = W.heap[rb]? := (kab (fun _ => False)).block rb hrl (fun h => h)
  have x0 : Wa.cell? ⟨rb, 0, none⟩ = some (.int .i64 k1) := (cc Wa 0 ra).trans d0
  have x1 : Wa.cell? ⟨rb, 1, none⟩ = some (.int .i64 n1) := (cc Wa 1 ra).trans d1
  have x2 : Wa.cell? ⟨rb, 2, none⟩ = some (.slice a1 0 c1) := (cc Wa 2 ra).trans d2
  have FrH : Hid (Fx [(W.heap.size, Obj.cells #[.func (.yield l) #[] #[]] 26 (0, 0)), (W.heap.size + 1, Obj.cells #[.bool false] 4 (0, 0)), (W.heap.size + 2, Obj.cells #[.int .i64 k1, .int .i64 n1, .slice a1 0 c1] 24 (0, 0)), (rb, Obj.cells cur 24 (0, 0))] Wb) := fun p hp => by
    simp only [List.mem_cons, List.not_mem_nil, or_false] at hp
    rcases hp with rfl | rfl | rfl | rfl
    · exact hg
    · exact hg1
    · exact hg2
    · exact ((kb (fun _ => False)).block rb hrl (fun h => h)).trans hblk
  have hSrH : Hid (Sr V Wb) := hSs _ _ _ (fun _ => False) hSr (kb _) (fun _ h => h.elim)
  have hCH : Hid (Fx C2 Wb) := (kb (fun _ => False)).fx hC (fun _ _ h => h)
  have bVH : Hid (Bd V Wb) := bV.kt (kb V)
  have bUH : Hid (Bd U0 Wb) := bU.kt (kb V)
  have hJb : Hid (J pre0 U0 Wb) := hJ _ _ _ _ (fun _ => False) h0 (kb _) (fun _ h => h.elim)
  have hFU : Hid (∀ p ∈ [(W.heap.size, Obj.cells #[.func (.yield l) #[] #[]] 26 (0, 0)), (W.heap.size + 1, Obj.cells #[.bool false] 4 (0, 0)), (W.heap.size + 2, Obj.cells #[.int .i64 k1, .int .i64 n1, .slice a1 0 c1] 24 (0, 0)), (rb, Obj.cells cur 24 (0, 0))], ¬ U0 p.1 ∧ ¬ V p.1) := fun p hp => by
    simp only [List.mem_cons, List.not_mem_nil, or_false] at hp
    rcases hp with rfl | rfl | rfl | rfl
    case inr.inr.inr => exact hrb
    all_goals exact ⟨fun h => by have := bU _ h; simp only at this; omega, fun h => by have := bV _ h; simp only at this; omega⟩
  have hpe : Hid (pre0 ++ prods [⟨k1, n1, []⟩, ⟨k2, n2, []⟩] xs2 = (pre0 ++ xs2.map (fun b => Tr.mk 3 0 [⟨k1, n1, []⟩, b])) ++ xs2.map (fun b => Tr.mk 3 0 [⟨k2, n2, []⟩, b])) := by show _ = _; simp [prods]
  rw [hpe.out] at hpre ⊢
  have hpre2 : Hid ((pre0 ++ xs2.map (fun b => Tr.mk 3 0 [⟨k1, n1, []⟩, b])) ++ xs2.map (fun b => Tr.mk 3 0 [⟨k2, n2, []⟩, b]) <+: XS) := hpre
  have hpre' : Hid (pre0 ++ xs2.map (fun b => Tr.mk 3 0 [⟨k1, n1, []⟩, b]) <+: XS) := List.IsPrefix.trans (List.prefix_append _ _) hpre
  have hf2H : Hid (fit k2 n2) := hf2
  have cu : Hid (cur[3]? = some (.int .i64 k2) ∧ cur[4]? = some (.int .i64 n2) ∧ cur[5]? = some (.slice a2 0 c2)) := ⟨f0, f1, f2⟩
  simp only [List.length_cons, List.length_nil, Nat.zero_add]
  have hSsH : Hid (∀ V W W' T, Sr V W → KT T W W' → Ap T V → Sr V W') := hSs
  have hJH : Hid (Stb J) := hJ
  have hJxH : Hid (Stb Jx) := hJx
  have hYH : Hid (Yld Tryd.prog l tk XS J Jx) := hYl
  have hseqH : Hid (SeqU Tryd.prog g2 lb2 C2 toldO xs2 False Sr Mt) := hseq
  have hfH : Hid (fit k1 n1) := hf1
  have sbH : Hid (Wb.heap.size = W.heap.size + 3) := sb
  have kbH : Hid (∀ b, b < W.heap.size → Wb.heap[b]? = W.heap[b]?) := fun b hb => (kb (fun _ => False)).block b hb (fun h => h)
  have bVW : Hid (∀ b, V b → b < W.heap.size) := bV
  have sbW : Hid (W.heap.size ≤ Wb.heap.size) := by show _ ≤ _; omega
  have sa' : Hid (Wa.heap.size = W.heap.size + 2) := sa
  clear hf2 f0 f1 f2 hrb hat hSs hJ hJx hYl hseq hC bV bU h0 hSr hg hg1 hg2 ra cc d0 d1 d2 hblk hrl sb sa kab kb hf1 hpre
  refine callsIn_of_wp_marks Tryd.func95 rfl trivial ?_ rfl
  simp only [Tryd.ntmps95, List.size_toArray, List.length_cons, List.length_nil, Nat.reduceAdd, Nat.reduceSub, Array.replicate_succ, Array.replicate_zero, List.push_toArray, List.append_toArray, List.nil_append, List.cons_append]
  gi_wp2_with fail
  rw [eWa.out]
  refine wpIn_loop_rounds 3 ?_
  rw [roundsIn_succ]
  gi_wp2_with fail
  rw [eWb.out, sa'.out]
  refine tell_rf (g := W.heap.size) (g1 := W.heap.size + 1) (B8 := W.heap.size + 2) (ak := k1) (an := n1) (aa := a1) (ac := c1) eg hseqH.out hSsH.out hSrH.out hCH.out hCV bVH.out bUH.out hap hYH.out hJH.out hJxH.out hJb.out FrH.out hFU.out (by simp) (by simp) (by simp) hfH.out hpre'.out hpt ?done ?stop
  case done =>
    rintro U2 V2 W2 ⟨q1, qC, q2, q3, q4, q5, q6, q7, q8, q9, q10, q11⟩ hJ2
    obtain ⟨y0, y1, y2⟩ := cu.out
    have hrow : W2.heap[rb]? = some (.cells cur 24 (0, 0)) := q7 (rb, .cells cur 24 (0, 0)) (by simp)
    have x0 : W2.cell? ⟨rb, 3, none⟩ = some (.int .i64 k2) := by rw [Joins.cell_of_block hrow]; exact y0
    have x1 : W2.cell? ⟨rb, 3 + 1, none⟩ = some (.int .i64 n2) := by rw [Joins.cell_of_block hrow]; exact y1
    have x2 : W2.cell? ⟨rb, 3 + 2, none⟩ = some (.slice a2 0 c2) := by rw [Joins.cell_of_block hrow]; exact y2
    obtain ⟨Wc, eWc⟩ : ∃ Wc, Hid (W2.alloc (.cells #[.int .i64 k2, .int .i64 n2, .slice a2 0 c2] 24) = Wc) := ⟨_, (rfl : _ = _)⟩
    have kc : ∀ T, KT T W2 Wc := fun T => by rw [← eWc.out]; exact (KT.refl _ _).alloc _
    have sc : Wc.heap.size = W2.heap.size + 1 := by rw [← eWc.out]; simp
    have sW2 : Wb.heap.size < W2.heap.size := blk_lt q11
    have m1 := q7 (W.heap.size, .cells #[.func (.yield l) #[] #[]] 26 (0, 0)) (by simp)
    have m2 := q7 (W.heap.size + 1, .cells #[.bool false] 4 (0, 0)) (by simp)
    have o1 := q8 (W.heap.size, .cells #[.func (.yield l) #[] #[]] 26 (0, 0)) (by simp)
    have o2 := q8 (W.heap.size + 1, .cells #[.bool false] 4 (0, 0)) (by simp)
    have kk : ∀ {b : Nat} {o : Obj}, W2.heap[b]? = some o → Wc.heap[b]? = some o := fun h => ((kc (fun _ => False)).block _ (blk_lt h) (fun h => h)).trans h
    have FrH2 : Hid (Fx [(W.heap.size, Obj.cells #[.func (.yield l) #[] #[]] 26 (0, 0)), (W.heap.size + 1, Obj.cells #[.bool false] 4 (0, 0)), (W2.heap.size, Obj.cells #[.int .i64 k2, .int .i64 n2, .slice a2 0 c2] 24 (0, 0)), (Wb.heap.size, Obj.deferred (some []))] Wc) := fun p hp => by
      simp only [List.mem_cons, List.not_mem_nil, or_false] at hp
      rcases hp with rfl | rfl | rfl | rfl
      · exact kk m1
      · exact kk m2
      · rw [← eWc.out]; exact heap_alloc_new _ _
      · exact kk q11
    have hFU2 : Hid (∀ p ∈ [(W.heap.size, Obj.cells #[.func (.yield l) #[] #[]] 26 (0, 0)), (W.heap.size + 1, Obj.cells #[.bool false] 4 (0, 0)), (W2.heap.size, Obj.cells #[.int .i64 k2, .int .i64 n2, .slice a2 0 c2] 24 (0, 0)), (Wb.heap.size, Obj.deferred (some []))], ¬ U2 p.1 ∧ ¬ V2 p.1) := fun p hp => by
      simp only [List.mem_cons, List.not_mem_nil, or_false] at hp
      rcases hp with rfl | rfl | rfl | rfl
      · exact o1
      · exact o2
      · exact ⟨fun h => by have := q5 _ h; simp only at this; omega, fun h => by have := q4 _ h; simp only at this; omega⟩
      · exact ⟨q9, q10⟩
    have hS2 : Hid (Sr V2 Wc) := hSsH.out _ _ _ (fun _ => False) q1 (kc _) (fun _ h => h.elim)
    have hC2 : Hid (Fx C2 Wc) := fun p hp => by
      have e1 := qC _ (hCV p hp) (hCM p hp)
      have e2 := hCH.out p hp
      exact kk (e1.trans e2)
    have kWc : Hid (∀ b, V b → ¬ Mt b → Wc.heap[b]? = W.heap[b]?) := fun b hb hm => by
      have hbl := bVW.out b hb
      have e1 := qC b hb hm
      have e3 := kbH.out b hbl
      have hl : b < W2.heap.size := q4 b (q2 b hb)
      exact ((kc (fun _ => False)).block b hl (fun h => h)).trans (e1.trans e3)
    have hCV2 : Hid (∀ p ∈ C2, V2 p.1) := fun p hp => q2 _ (hCV p hp)
    have bV2 : Hid (Bd V2 Wc) := q4.kt (kc V2)
    have bU2 : Hid (Bd U2 Wc) := q5.kt (kc V2)
    have hJc : Hid (J (pre0 ++ xs2.map (fun b => Tr.mk 3 0 [⟨k1, n1, []⟩, b])) U2 Wc) := hJH.out _ _ _ _ (fun _ => False) hJ2 (kc _) (fun _ h => h.elim)
    have q2H : Hid (∀ b, V b → V2 b) := q2
    have q3H : Hid (∀ b, V2 b → V b ∨ Wb.heap.size ≤ b) := q3
    have q6H : Hid (Ap V2 U2) := q6
    have scH : Hid (Wb.heap.size < Wc.heap.size ∧ W2.heap.size < Wc.heap.size) := by show _ ∧ _; omega
    clear q1 qC q2 q3 q4 q5 q6 q7 q8 q9 q10 q11 hJ2 m1 m2 o1 o2 kk kc sc sW2 y0 y1 y2 hrow
    gi_wp2_with fail
    rw [roundsIn_succ]
    gi_wp2_with fail
    rw [eWc.out]
    clear x0 x1 x2
    refine tell_rf (g := W.heap.size) (g1 := W.heap.size + 1) (B8 := W2.heap.size) (ak := k2) (an := n2) (aa := a2) (ac := c2) eg hseqH.out hSsH.out hS2.out hC2.out hCV2.out bV2.out bU2.out q6H.out hYH.out hJH.out hJxH.out hJc.out FrH2.out hFU2.out (by simp) (by simp) (by simp) hf2H.out hpre2.out hpt ?done2 ?stop2
    case done2 =>
      rintro U4 V4 W4 ⟨q1, qC, q2, q3, q4, q5, q6, q7, q8, q9, q10, q11⟩ hJ2
      have q4' := fun b (hb : V b) => q4 b (q2 b (q2H.out b hb))
      have r1 : W4.heap[W.heap.size + 1]? = some (.cells #[.bool false] 4 (0, 0)) := q7 (W.heap.size + 1, .cells #[.bool false] 4 (0, 0)) (by simp)
      have cz : W4.cell? ⟨W.heap.size + 1, 0, none⟩ = some (.bool false) := by rw [Joins.cell_of_block r1]; rfl
      have cf : W4.frozen? ⟨W.heap.size + 1, 0, none⟩ = false := Joins.unfrozen_of_block r1 0
      have nn := q8 (W.heap.size + 1, .cells #[.bool false] 4 (0, 0)) (by simp)
      have kE : KT (fun b => b = W.heap.size + 1 ∨ b = Wc.heap.size ∨ b = Wb.heap.size) W4 (((W4.setCell ⟨W.heap.size + 1, 0, none⟩ (.bool true)).putObj Wc.heap.size (.deferred none)).putObj Wb.heap.size (.deferred none)) :=
        (KT.grown (Lib.Hx.grownBy_set (Lib.Hx.grownBy_refl W4 (some (W.heap.size + 1))) ⟨W.heap.size + 1, 0, none⟩ rfl (.bool true)) (fun b e => by cases e; exact .inl rfl)).trans ((KT.put _ _ _ (.inr (.inl rfl))).trans (KT.put _ _ _ (.inr (.inr rfl))))
      have nb := q8 (Wb.heap.size, .deferred (some [])) (by simp)
      have rD : W4.heap[Wb.heap.size]? = some (.deferred (some [])) := q7 (Wb.heap.size, .deferred (some [])) (by simp)
      have hK' : (W4.setCell ⟨W.heap.size + 1, 0, none⟩ (.bool true)).heap[Wc.heap.size]? = some (.deferred (some [])) := by
        rw [sc_blk _ _ _ (by have := sbH.out; have := scH.out; omega)]; exact q11
      have hK2 : ((W4.setCell ⟨W.heap.size + 1, 0, none⟩ (.bool true)).putObj Wc.heap.size (.deferred none)).heap[Wb.heap.size]? = some (.deferred (some [])) := by
        rw [World.putObj_heap_other (by have := scH.out; omega), sc_blk _ _ _ (by have := sbH.out; omega)]; exact rD
      have hfin : Hid (TlE Sr Mt V XS ((pre0 ++ xs2.map (fun b => Tr.mk 3 0 [⟨k1, n1, []⟩, b])) ++ xs2.map (fun b => Tr.mk 3 0 [⟨k2, n2, []⟩, b])) J Jx W (.returned (.bool true)) (((W4.setCell ⟨W.heap.size + 1, 0, none⟩ (.bool true)).putObj Wc.heap.size (.deferred none)).putObj Wb.heap.size (.deferred none))) := by
        refine ⟨U4, V4, hSsH.out _ _ _ _ q1 kE ?_, (fun b hb hm => ?_), (fun b hb => q2 b (q2H.out b hb)), (fun b hb => (q3 b hb).elim (fun h => (q3H.out b h).imp id fun h => by have := sbW.out; omega) fun h => .inr (by have := sbW.out; have := scH.out; omega)), q4.kt kE, q5.kt kE, q6, .inl ⟨rfl, hJH.out _ _ _ _ _ hJ2 kE ?_⟩⟩
        · rintro b (rfl | rfl | rfl) hv
          · exact nn.2 hv
          · exact q10 hv
          · exact nb.2 hv
        · rw [kE.block b (q4' b hb) (by rintro (e | e | e); exact nn.2 (e ▸ q2 _ (q2H.out b hb)); exact q10 (e ▸ q2 _ (q2H.out b hb)); exact nb.2 (e ▸ q2 _ (q2H.out b hb))), qC b (q2H.out b hb) hm]
          exact kWc.out b hb hm
        · rintro b (rfl | rfl | rfl) hv
          · exact nn.1 hv
          · exact q9 hv
          · exact nb.1 hv
      have c9 : (((W4.setCell ⟨W.heap.size + 1, 0, none⟩ (.bool true)).putObj Wc.heap.size (.deferred none)).putObj Wb.heap.size (.deferred none)).cell? ⟨W.heap.size + 1, 0, none⟩ = some (.bool true) := by
        have h1 : (((W4.setCell ⟨W.heap.size + 1, 0, none⟩ (.bool true)).putObj Wc.heap.size (.deferred none)).putObj Wb.heap.size (.deferred none)).heap[W.heap.size + 1]? = (W4.setCell ⟨W.heap.size + 1, 0, none⟩ (.bool true)).heap[W.heap.size + 1]? := by
          rw [World.putObj_heap_other (by have := sbH.out; omega), World.putObj_heap_other (by have := sbH.out; have := scH.out; omega)]
        rw [World.cell?_of_block (a := ⟨W.heap.size + 1, 0, none⟩) h1]
        exact World.cell?_setCell_same' _ _ _ (by rw [cz]; rfl)
      clear q4' q1 qC q2 q3 q4 q5 q6 q7 q8 q9 q10 q11 hJ2 r1 nn nb rD kE
      gi_wp2_with fail
      rw [roundsIn_succ]
      gi_wp2_with fail
      refine ⟨by simp, .inl ⟨_, _, rfl, run_takeDeferred hK', ?_⟩⟩
      refine ⟨by simp, .inl ⟨_, _, rfl, run_takeDeferred hK2, ?_⟩⟩
      refine ⟨.bool true, ?_, hfin.out⟩
      simp [results, Tryd.f95, go_sem, c9]
    case stop2 =>
      rintro U4 V4 W4 ⟨q1, qC, q2, q3, q4, q5, q6, q7, q8, q9, q10, q11⟩ ⟨pre, hp1, hJ2⟩
      have q4' := fun b (hb : V b) => q4 b (q2 b (q2H.out b hb))
      have r1 : W4.heap[W.heap.size + 1]? = some (.cells #[.bool false] 4 (0, 0)) := q7 (W.heap.size + 1, .cells #[.bool false] 4 (0, 0)) (by simp)
      have nb := q8 (Wb.heap.size, .deferred (some [])) (by simp)
      have rD : W4.heap[Wb.heap.size]? = some (.deferred (some [])) := q7 (Wb.heap.size, .deferred (some [])) (by simp)
      have kE : KT (fun b => b = Wc.heap.size ∨ b = Wb.heap.size) W4 ((W4.putObj Wc.heap.size (.deferred none)).putObj Wb.heap.size (.deferred none)) := (KT.put _ _ _ (.inl rfl)).trans (KT.put _ _ _ (.inr rfl))
      have hfin : Hid (TlE Sr Mt V XS ((pre0 ++ xs2.map (fun b => Tr.mk 3 0 [⟨k1, n1, []⟩, b])) ++ xs2.map (fun b => Tr.mk 3 0 [⟨k2, n2, []⟩, b])) J Jx W (.returned (.bool false)) ((W4.putObj Wc.heap.size (.deferred none)).putObj Wb.heap.size (.deferred none))) := by
        refine ⟨U4, V4, hSsH.out _ _ _ _ q1 kE ?_, (fun b hb hm => ?_), (fun b hb => q2 b (q2H.out b hb)), (fun b hb => (q3 b hb).elim (fun h => (q3H.out b h).imp id fun h => by have := sbW.out; omega) fun h => .inr (by have := sbW.out; have := scH.out; omega)), q4.kt kE, q5.kt kE, q6, .inr ⟨rfl, pre, hp1, hJxH.out _ _ _ _ _ hJ2 kE ?_⟩⟩
        · rintro b (rfl | rfl) hv
          · exact q10 hv
          · exact nb.2 hv
        · rw [kE.block b (q4' b hb) (by rintro (e | e); exact q10 (e ▸ q2 _ (q2H.out b hb)); exact nb.2 (e ▸ q2 _ (q2H.out b hb))), qC b (q2H.out b hb) hm]
          exact kWc.out b hb hm
        · rintro b (rfl | rfl) hv
          · exact q9 hv
          · exact nb.1 hv
      have c9 : ((W4.putObj Wc.heap.size (.deferred none)).putObj Wb.heap.size (.deferred none)).cell? ⟨W.heap.size + 1, 0, none⟩ = some (.bool false) := by
        have h1 : ((W4.putObj Wc.heap.size (.deferred none)).putObj Wb.heap.size (.deferred none)).heap[W.heap.size + 1]? = W4.heap[W.heap.size + 1]? := by
          rw [World.putObj_heap_other (by have := sbH.out; omega), World.putObj_heap_other (by have := sbH.out; have := scH.out; omega)]
        rw [Joins.cell_of_block (h1.trans r1)]; rfl
      have hK' : W4.heap[Wc.heap.size]? = some (.deferred (some [])) := q11
      have hK2 : (W4.putObj Wc.heap.size (.deferred none)).heap[Wb.heap.size]? = some (.deferred (some [])) := by
        rw [World.putObj_heap_other (by have := scH.out; omega)]; exact rD
      clear q4' q1 qC q2 q3 q4 q5 q6 q7 q8 q9 q10 q11 hJ2 r1 nb rD kE
      refine ⟨by simp, .inl ⟨_, _, rfl, run_takeDeferred hK', ?_⟩⟩
      refine ⟨by simp, .inl ⟨_, _, rfl, run_takeDeferred hK2, ?_⟩⟩
      refine ⟨.bool false, ?_, hfin.out⟩
      simp [results, Tryd.f95, go_sem, c9]
  case stop =>
    rintro U2 V2 W2 ⟨q1, qC, q2, q3, q4, q5, q6, q7, q8, q9, q10, q11⟩ ⟨pre, hp1, hJ2⟩
    have q4' := fun b (hb : V b) => q4 b (q2 b hb)
    have r1 : W2.heap[W.heap.size + 1]? = some (.cells #[.bool false] 4 (0, 0)) := q7 (W.heap.size + 1, .cells #[.bool false] 4 (0, 0)) (by simp)
    have kE : KT (fun b => b = Wb.heap.size) W2 (W2.putObj Wb.heap.size (.deferred none)) := KT.put _ _ _ rfl
    have hfin : Hid (TlE Sr Mt V XS ((pre0 ++ xs2.map (fun b => Tr.mk 3 0 [⟨k1, n1, []⟩, b])) ++ xs2.map (fun b => Tr.mk 3 0 [⟨k2, n2, []⟩, b])) J Jx W (.returned (.bool false)) (W2.putObj Wb.heap.size (.deferred none))) := by
      refine ⟨U2, V2, hSsH.out _ _ _ _ q1 kE ?_, (fun b hb hm => ?_), q2, (fun b hb => (q3 b hb).imp id fun h => by have := sbW.out; omega), q4.kt kE, q5.kt kE, q6, .inr ⟨rfl, pre, hp1, hJxH.out _ _ _ _ _ hJ2 kE ?_⟩⟩
      · rintro b rfl hv; exact q10 hv
      · rw [kE.block b (q4' b hb) (fun e => q10 (e ▸ q2 _ hb)), qC b hb hm]
        exact kbH.out b (bVW.out b hb)
      · rintro b rfl hv; exact q9 hv
    have c9 : (W2.putObj Wb.heap.size (.deferred none)).cell? ⟨W.heap.size + 1, 0, none⟩ = some (.bool false) := by
      have h1 : (W2.putObj Wb.heap.size (.deferred none)).heap[W.heap.size + 1]? = W2.heap[W.heap.size + 1]? := World.putObj_heap_other (by have := sbH.out; omega)
      rw [Joins.cell_of_block (h1.trans r1)]; rfl
    have hK' : W2.heap[Wb.heap.size]? = some (.deferred (some [])) := q11
    clear q1 qC q2 q3 q4 q5 q6 q7 q8 q9 q10 q11 hJ2 r1 kE x0 x1 x2
    refine ⟨by simp, .inl ⟨_, _, rfl, run_takeDeferred hK', ?_⟩⟩
    refine ⟨.bool false, ?_, hfin.out⟩
    simp [results, Tryd.f95, go_sem, c9]
end Go.Proofs.YtoaccmblaifnmaaDoor
