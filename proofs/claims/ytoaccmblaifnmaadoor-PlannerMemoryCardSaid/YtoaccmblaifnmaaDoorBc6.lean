/-
  Package planner's tellProducts, of any list of leaves.
-/
import Derived.Test.YtoaccmblaifnmaaDoorProg
import Derived.WalkKit
import Ieee.Arith
import Derived.WalkLawsBesides
import Derived.Outline
import Derived.Deep.QuietTactic
import Derived.BigQuiet
import Derived.WalkSmall
import Derived.RegionTactic
import Derived.Lib.Mul64
import Derived.Laws.Bits64b
import Derived.Deep.CutBlock
import Derived.Deep.DeepCutAuto
import Derived.Maps.AppendAt
import Derived.Deep.RegionHeld3
import Derived.Deep.RegionWith
import Derived.Laws.OwnMore
import Derived.RangeFuncNested
import Derived.RangeFuncBound
import Derived.RangeFuncCalls
import Derived.RangeFuncLeaves
import Derived.RangeFuncBox
import Derived.Shelf.Abstract
import Derived.Shelf.RegionOpen
import Derived.OwnWalkIn
import Derived.TacticsInMore
import Derived.LoopNIn
import Derived.LoopIn
import Derived.Laws.Rows
import Derived.Lib.ItoaNum
import Derived.Laws.IdiomStrings
import Derived.Lib.SmallJoins
import Derived.Lib.HexFns
import Derived.Test.YtoaccmblaifnmaaDoorRows
import Derived.LaidEql
import Derived.LaidLaws
import Derived.LaidHandle
import Derived.Stop.Joined
import Derived.Recover
import Derived.RegionDies
import Derived.Laws.CopyOwn
import Derived.Lib.AppendIntMem
import Derived.Laws.AppendOwn
import Derived.OwnWalk
import Derived.BigCall
import Derived.Deep.RegionHeldLaw
import Derived.Laws.FloatArith
import Derived.Laws.ComplexArith
import Derived.Laws.MakeOwn
import Derived.MapKept
import Derived.Carry
import Derived.Test.YtoaccmblaifnmaaDoorBc5
namespace Go.Proofs.YtoaccmblaifnmaaDoor
open Flo Go.RowKit Go.Shelf Tr
attribute [local go_sem] Oper.semAt_some
set_option maxRecDepth 100000 in
set_option maxHeartbeats 4000000 in
theorem tell0_c {m l : Nat} {sv : Value} {Mt : Nat → Prop} {Sr : (Nat → Prop) → World → Prop} (hSs : ∀ V W W' T, Sr V W → KT T W W' → Ap T V → Sr V W')
    {V U0 : Nat → Prop} {W : World} (hSr : Sr V W) (bV : Bd V W) (bU : Bd U0 W) (hap : Ap V U0) {J Jx : List Tr → (Nat → Prop) → World → Prop} {XS pre0 : List Tr} (hJ : Stb J) (h0 : J pre0 U0 W) (a : Option Addr) (c : Nat) (full : List Tr) (hfull : full = pre0) :
    CallsIn Fence.wide m Tryd.prog 95 #[.slice a 0 c, sv, .func (.yield l) #[] #[]] W (TlE Sr Mt V XS full J Jx W) := by
  subst hfull
  obtain ⟨Wa, eWa⟩ : ∃ Wa, Hid ((W.alloc (.cells #[.func (.yield l) #[] #[]] 26)).alloc (.cells #[.bool false] 4) = Wa) := ⟨_, (rfl : _ = _)⟩
  have kab : ∀ T, KT T W Wa := fun T => by rw [← eWa.out]; exact ((KT.refl _ _).alloc _).alloc _
  have hg1 : Wa.heap[W.heap.size + 1]? = some (.cells #[.bool false] 4 (0, 0)) := by
    rw [← eWa.out]
    have := heap_alloc_new (W.alloc (.cells #[.func (.yield l) #[] #[]] 26)) (.cells #[.bool false] 4)
    rw [World.size_alloc] at this; exact this
  have cz : Wa.cell? ⟨W.heap.size + 1, 0, none⟩ = some (.bool false) := by rw [Joins.cell_of_block hg1]; rfl
  have cf : Wa.frozen? ⟨W.heap.size + 1, 0, none⟩ = false := Joins.unfrozen_of_block hg1 0
  have kE : KT (fun b => W.heap.size ≤ b) W (Wa.setCell ⟨W.heap.size + 1, 0, none⟩ (.bool true)) :=
    (kab _).trans (KT.grown (Lib.Hx.grownBy_set (Lib.Hx.grownBy_refl Wa (some (W.heap.size + 1))) ⟨W.heap.size + 1, 0, none⟩ rfl (.bool true)) (fun b e => by cases e; show _ ≤ _; omega))
  have hfin : Hid (TlE Sr Mt V XS full J Jx W (.returned (.bool true)) (Wa.setCell ⟨W.heap.size + 1, 0, none⟩ (.bool true))) := by
    refine ⟨U0, V, hSs _ _ _ _ hSr kE (fun b hb hv => by have := bV b hv; omega), (fun b hb _ => kE.block b (bV b hb) (by have := bV b hb; omega)), (fun b hb => hb), (fun b hb => .inl hb), bV.kt kE, bU.kt kE, hap, .inl ⟨rfl, hJ _ _ _ _ _ h0 kE (fun b hb hv => by have := bU b hv; omega)⟩⟩
  have c9 : (Wa.setCell ⟨W.heap.size + 1, 0, none⟩ (.bool true)).cell? ⟨W.heap.size + 1, 0, none⟩ = some (.bool true) := World.cell?_setCell_same' _ _ _ (by rw [cz]; rfl)
  clear hSs hSr bV bU hap hJ h0 kab hg1 kE
  refine callsIn_of_wp Tryd.func95 rfl trivial ?_ rfl
  simp only [Tryd.ntmps95, List.size_toArray, List.length_cons, List.length_nil, Nat.reduceAdd, Nat.reduceSub, Array.replicate_succ, Array.replicate_zero, List.push_toArray, List.append_toArray, List.nil_append, List.cons_append]
  gi_wp2_with fail
  rw [eWa.out]
  refine wpIn_loop_rounds 1 ?_
  rw [roundsIn_succ]
  gi_wp2_with fail
  refine bodyPost_ret (v := .bool true) (by simp [results, Tryd.results95, go_sem, c9]) rfl ?_
  exact hfin.out
/-- a list of leaves as tellProducts wants it -/
theorem Gr.lfs {B : Nat} {W : World} {kv : Value} {ls : List Tr} {ss : List Value} (h : Gr B W kv ls ss) (hl : ∀ t ∈ ls, t.ks = [] ∧ fit t.k t.n) (hne : 0 < ls.length) : ∃ rb cap cur, Lfs W kv ls rb cap cur ∧ kv.ownBlock = some rb := by
  rcases h.own.2 with ⟨_, e0⟩ | ⟨g, cap, cur, e', hbg, hh, hnc, _, hsz, htk⟩
  · omega
  · refine ⟨g, cap, cur, ⟨e', hh, fun i t ht => ?_⟩, by rw [e']; rfl⟩
    have hi : i < ls.length := (List.getElem?_eq_some_iff.1 ht).1
    have hi' : i < ss.length := by rw [h.len]; exact hi
    have hs : ss[i]? = some ss[i] := List.getElem?_eq_getElem hi'
    obtain ⟨q1, q2⟩ := hl t (List.mem_of_getElem? ht)
    have hk := h.kid i t ss[i] ht hs
    obtain ⟨a, c, e⟩ := hk.shape
    rw [q1] at e
    simp only [Value.agg.injEq, Array.mk.injEq, List.cons.injEq, true_and, and_true, List.length_nil] at e
    have hc : ∀ j, j < 3 → cur[i * 3 + j]? = [Value.int .i64 t.k, .int .i64 t.n, ss[i]][j]? := fun j hj => by
      rw [← cso_at ls ss i j _ _ h.len ht hs hj, ← htk, List.getElem?_take, if_pos (by omega)]; simp
    refine ⟨a, c, q1, q2, ?_, hc 1 (by decide), ?_⟩
    · have := hc 0 (by decide); rw [Nat.add_zero] at this; exact this
    · rw [hc 2 (by decide), e]; rfl
theorem tells_c {m l : Nat} {g2 : Nat} {lb2 : Array Value} (eg : ∀ args w, (callFunc g2 args).run Tryd.prog w = .ok (.enter g2 args) w)
    {C2 : List (Nat × Obj)} {xs2 : List Tr} {Sr : (Nat → Prop) → World → Prop} {Mt : Nat → Prop} (hseq : SeqU Tryd.prog g2 lb2 C2 toldO xs2 False Sr Mt) (hSs : ∀ V W W' T, Sr V W → KT T W W' → Ap T V → Sr V W')
    {V U0 : Nat → Prop} {W : World} (hSr : Sr V W) (hC : Fx C2 W) (hCV : ∀ p ∈ C2, V p.1) (bV : Bd V W) (bU : Bd U0 W) (hap : Ap V U0) {J Jx : List Tr → (Nat → Prop) → World → Prop} {tk : Prop} {XS pre0 : List Tr} (hYl : Yld Tryd.prog l tk XS J Jx) (hJ : Stb J) (hJx : Stb Jx) (h0 : J pre0 U0 W)
    {B : Nat} {kv : Value} {ls : List Tr} {ss : List Value} (hG : Gr B W kv ls ss) (hrb : ∀ b, kv.ownBlock = some b → ¬ U0 b ∧ ¬ V b) (hlf : ∀ t ∈ ls, t.ks = [] ∧ fit t.k t.n) (hl2 : ls.length ≤ 2) (hCM : ∀ p ∈ C2, ¬ Mt p.1) (hpre : pre0 ++ prods ls xs2 <+: XS) (hpt : ∀ t ∈ xs2, pt t ≤ 65536) :
    CallsIn Fence.wide m Tryd.prog 95 #[kv, .func (.func g2) #[] lb2, .func (.yield l) #[] #[]] W (TlE Sr Mt V XS (pre0 ++ prods ls xs2) J Jx W) := by
  match ls, hl2, hG, hlf, hpre with
  | [], _, hG, _, hpre =>
    obtain ⟨a, c, rfl⟩ : ∃ a c, kv = .slice a 0 c := by
      rcases hG.own.2 with ⟨e, _⟩ | ⟨g, cap, cur, e', _⟩
      · exact ⟨_, _, e⟩
      · exact ⟨_, _, e'⟩
    exact tell0_c hSs hSr bV bU hap hJ h0 a c _ (by simp [prods])
  | [t1], _, hG, hlf, hpre =>
    obtain ⟨rb, cap, cur, hL, _⟩ := hG.lfs hlf (by simp)
    exact tell_c eg hseq hSs hSr hC hCV bV bU hap hYl hJ hJx h0 t1 kv rb cap cur hL hpre hpt
  | [t1, t2], _, hG, hlf, hpre =>
    obtain ⟨rb, cap, cur, hL, hb⟩ := hG.lfs hlf (by simp)
    exact tell2_c eg hseq hSs hSr hC hCV bV bU hap hYl hJ hJx h0 t1 t2 kv rb cap cur hL hpre (hrb rb hb) hCM hpt
  | _ :: _ :: _ :: _, hl2, _, _, _ => simp at hl2
end Go.Proofs.YtoaccmblaifnmaaDoor
