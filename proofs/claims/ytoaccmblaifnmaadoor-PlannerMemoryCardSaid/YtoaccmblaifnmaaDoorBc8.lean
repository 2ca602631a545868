/-
  What PlannerLists and its fellows rest on, joined: Pne Pnf.
-/
import Derived.Test.YtoaccmblaifnmaaDoorProg
import Derived.WalkKit
import Ieee.Arith
import Derived.WalkLawsBesides
import Derived.Outline
import Derived.Deep.QuietTactic
import Derived.BigQuiet
import Derived.WalkSmall
import Derived.RegionTactic
import Derived.Lib.Mul64
import Derived.Laws.Bits64b
import Derived.Deep.CutBlock
import Derived.Deep.DeepCutAuto
import Derived.Maps.AppendAt
import Derived.Deep.RegionHeld3
import Derived.Deep.RegionWith
import Derived.Laws.OwnMore
import Derived.RangeFuncNested
import Derived.RangeFuncBound
import Derived.RangeFuncCalls
import Derived.RangeFuncLeaves
import Derived.RangeFuncBox
import Derived.Shelf.Abstract
import Derived.Shelf.RegionOpen
import Derived.OwnWalkIn
import Derived.TacticsInMore
import Derived.LoopNIn
import Derived.LoopIn
import Derived.Laws.Rows
import Derived.Lib.ItoaNum
import Derived.Laws.IdiomStrings
import Derived.Lib.SmallJoins
import Derived.Lib.HexFns
import Derived.Test.YtoaccmblaifnmaaDoorRows
import Derived.LaidEql
import Derived.LaidLaws
import Derived.LaidHandle
import Derived.Stop.Joined
import Derived.Recover
import Derived.RegionDies
import Derived.Laws.CopyOwn
import Derived.Lib.AppendIntMem
import Derived.Laws.AppendOwn
import Derived.OwnWalk
import Derived.BigCall
import Derived.Deep.RegionHeldLaw
import Derived.Laws.FloatArith
import Derived.Laws.ComplexArith
import Derived.Laws.MakeOwn
import Derived.MapKept
import Derived.Carry
import Derived.Test.YtoaccmblaifnmaaDoorBc7
import Derived.Test.YtoaccmblaifnmaaDoorBc2
import Derived.Test.YtoaccmblaifnmaaDoorBc1
namespace Go.Proofs.YtoaccmblaifnmaaDoor
open Flo Go.RowKit Go.Shelf Tr
/-- the blocks of orders' closure, from B on -/
def oC (B h n gs : Nat) : List (Nat × Obj) := [(B, .cells #[.pointer (some ⟨h, 0, none⟩)] 74 (0, 0)), (B + 1, .cells #[.int .i64 (n : Int)] 3 (0, 0)), (B + 2, .cells #[.func (.func gs) #[.pointer (some ⟨h, 0, none⟩)] #[]] 93 (0, 0))]
def oL (B : Nat) : Array Value := #[.pointer (some ⟨B, 0, none⟩), .pointer (some ⟨B + 1, 0, none⟩), .pointer (some ⟨B + 2, 0, none⟩)]
theorem orders_c (h n gs : Nat) (w : World) : Calls Tryd.prog 70 #[.pointer (some ⟨h, 0, none⟩), .int .i64 (n : Int), .func (.func gs) #[.pointer (some ⟨h, 0, none⟩)] #[]] w fun e w' => e = .returned (.func (.func 92) #[] (oL w.heap.size)) ∧ Fx (oC w.heap.size h n gs) w' ∧ Below w.heap.size w w' := by
  have hfin : Hid (Fx (oC w.heap.size h n gs) (((w.alloc (.cells #[.pointer (some ⟨h, 0, none⟩)] 74)).alloc (.cells #[.int .i64 (n : Int)] 3)).alloc (.cells #[.func (.func gs) #[.pointer (some ⟨h, 0, none⟩)] #[]] 93)) ∧ Below w.heap.size w (((w.alloc (.cells #[.pointer (some ⟨h, 0, none⟩)] 74)).alloc (.cells #[.int .i64 (n : Int)] 3)).alloc (.cells #[.func (.func gs) #[.pointer (some ⟨h, 0, none⟩)] #[]] 93))) := by
    refine ⟨fun p hp => ?_, (((Below.refl _ _).alloc (Nat.le_refl _) _).alloc (by simp) _).alloc (by simp; omega) _⟩
    simp only [oC, List.mem_cons, List.not_mem_nil, or_false] at hp
    rcases hp with rfl | rfl | rfl
    · rw [Below.heap_alloc _ _ _ (by simp; omega), Below.heap_alloc _ _ _ (by simp)]; exact heap_alloc_new w _
    · rw [Below.heap_alloc _ _ _ (by simp)]
      have := heap_alloc_new (w.alloc (.cells #[.pointer (some ⟨h, 0, none⟩)] 74)) (.cells #[.int .i64 (n : Int)] 3)
      rw [World.size_alloc] at this; exact this
    · have := heap_alloc_new ((w.alloc (.cells #[.pointer (some ⟨h, 0, none⟩)] 74)).alloc (.cells #[.int .i64 (n : Int)] 3)) (.cells #[.func (.func gs) #[.pointer (some ⟨h, 0, none⟩)] #[]] 93)
      rw [World.size_alloc, World.size_alloc] at this; exact this
  go_enter Tryd.func70, Tryd.ntmps70
  go_wp2_with fail
  go_ret
  exact ⟨rfl, hfin.out⟩
def cC (B h n : Nat) : List (Nat × Obj) := [(B, .cells #[.pointer (some ⟨h, 0, none⟩)] 74 (0, 0)), (B + 1, .cells #[.int .i64 (n : Int)] 3 (0, 0))]
def cL (B : Nat) : Array Value := #[.pointer (some ⟨B, 0, none⟩), .pointer (some ⟨B + 1, 0, none⟩)]
theorem onlyCheapest_c (h n : Nat) (w : World) : Calls Tryd.prog 71 #[.pointer (some ⟨h, 0, none⟩), .int .i64 (n : Int)] w fun e w' => e = .returned (.func (.func 97) #[] (cL w.heap.size)) ∧ Fx (cC w.heap.size h n) w' ∧ Below w.heap.size w w' := by
  have hfin : Hid (Fx (cC w.heap.size h n) ((w.alloc (.cells #[.pointer (some ⟨h, 0, none⟩)] 74)).alloc (.cells #[.int .i64 (n : Int)] 3)) ∧ Below w.heap.size w ((w.alloc (.cells #[.pointer (some ⟨h, 0, none⟩)] 74)).alloc (.cells #[.int .i64 (n : Int)] 3))) := by
    refine ⟨fun p hp => ?_, ((Below.refl _ _).alloc (Nat.le_refl _) _).alloc (by simp) _⟩
    simp only [cC, List.mem_cons, List.not_mem_nil, or_false] at hp
    rcases hp with rfl | rfl
    · rw [Below.heap_alloc _ _ _ (by simp)]; exact heap_alloc_new w _
    · have := heap_alloc_new (w.alloc (.cells #[.pointer (some ⟨h, 0, none⟩)] 74)) (.cells #[.int .i64 (n : Int)] 3)
      rw [World.size_alloc] at this; exact this
  go_enter Tryd.func71, Tryd.ntmps71
  go_wp2_with fail
  go_ret
  exact ⟨rfl, hfin.out⟩
/-- the contract of cheapest at a length -/
def CHC (D p : Int) (F : List Int) (h M : Nat) (fv : Value) (Kn : Nat → Prop) (n : Nat) : Prop := ∀ (V : Nat → Prop) (W : World), Srh D p F h M fv Kn V W → Bd V W →
  Calls Tryd.prog 47 #[.pointer (some ⟨h, 0, none⟩), .int .i64 (n : Int)] W fun e W' => ∃ v V', e = .returned v ∧ Srh D p F h M fv Kn V' W' ∧ (∀ b, V b → V' b) ∧ (∀ b, V' b → V b ∨ W.heap.size ≤ b) ∧ Bd V' W' ∧ Os V' W' (Pl.ch D F p n) v ∧ KT (fun b => b = M) W W'
end Go.Proofs.YtoaccmblaifnmaaDoor
namespace Go.Proofs.YtoaccmblaifnmaaDoor
open Flo Go.RowKit Go.Shelf Tr
theorem Srh.up {D p : Int} {F : List Int} {h M : Nat} {fv : Value} {Kn : Nat → Prop} {V V' : Nat → Prop} {W : World} (a : Srh D p F h M fv Kn V W) (hV : ∀ b, V b → V' b) : Srh D p F h M fv Kn V' W := by
  refine ⟨a.blk, hV _ a.vh, hV _ a.vM, ?_, ?_⟩
  · obtain ⟨es, clock, h1, h2⟩ := a.mp
    refine ⟨es, clock, h1, fun e he => ?_⟩
    obtain ⟨q, q1, q2, q3, q4⟩ := h2 e he
    exact ⟨q, q1, q2, q3, Os.keep (fun b hb => hV b hb) (fun _ _ _ => rfl) _ _ q4⟩
  · obtain ⟨ao, cap, e, hc⟩ := a.fl
    exact ⟨ao, cap, e, fun i hi => by obtain ⟨b, off, h1, h2, h3, h4⟩ := hc i hi; exact ⟨b, off, h1, hV _ h2, h3, h4⟩⟩
/-- what is said, beside all elder blocks -/
def Old {β : Type} (N : Nat) (V Us R : Nat → Prop) (W0 : World) (X : β → (Nat → Prop) → World → Prop) (s : β) (U : Nat → Prop) (W : World) : Prop :=
  ∃ U0, X s U0 W ∧ Bd U0 W ∧ (∀ b, U b ↔ U0 b ∨ (b < N ∧ ¬ V b ∧ ¬ R b)) ∧ (∀ b, U0 b → Us b ∨ V b ∨ R b ∨ N ≤ b) ∧ KT (fun b => Us b ∨ V b ∨ R b ∨ N ≤ b) W0 W
theorem Old.stb {β : Type} {N : Nat} {V Us R : Nat → Prop} {W0 : World} {X : β → (Nat → Prop) → World → Prop} (hN : W0.heap.size = N) (h : Stb X) : Stb (Old N V Us R W0 X) := by
  rintro s U W W' T ⟨U0, h1, h2, h3, h4, h5⟩ hk ha
  refine ⟨U0, h _ _ _ _ T h1 hk (fun b hb hu => ha b hb ((h3 b).2 (.inl hu))), h2.kt hk, h3, h4, ⟨hk.os.trans h5.os, hk.tape.trans h5.tape, hk.output.trans h5.output, Nat.le_trans h5.size hk.size, fun b hb hn => ?_⟩⟩
  rw [hk.block b (Nat.lt_of_lt_of_le hb h5.size) (fun ht => ha b ht ((h3 b).2 (.inr ⟨by omega, fun hv => hn (.inr (.inl hv)), fun hr => hn (.inr (.inr (.inl hr)))⟩))), h5.block b hb hn]
/-- tellProducts, all of it -/
def TlK (Sr : (Nat → Prop) → World → Prop) (Mt V : Nat → Prop) (XS full : List Tr) (J Jx : List Tr → (Nat → Prop) → World → Prop) (U0 R : Nat → Prop) (W : World) (e : Ending) (W' : World) : Prop :=
  ∃ U' V', Sr V' W' ∧ (∀ b, V b → ¬ Mt b → W'.heap[b]? = W.heap[b]?) ∧ (∀ b, V b → V' b) ∧ (∀ b, V' b → V b ∨ W.heap.size ≤ b) ∧ Bd V' W' ∧ Bd U' W' ∧ Ap V' U' ∧ (∀ b, U' b → U0 b ∨ R b ∨ W.heap.size ≤ b) ∧ KT (fun b => U0 b ∨ V b ∨ R b) W W' ∧ ((e = .returned (.bool true) ∧ J full U' W') ∨ (e = .returned (.bool false) ∧ ∃ pre, pre <+: XS ∧ Jx pre U' W'))
theorem tells_k {m l : Nat} {g2 : Nat} {lb2 : Array Value} (eg : ∀ args w, (callFunc g2 args).run Tryd.prog w = .ok (.enter g2 args) w)
    {C2 : List (Nat × Obj)} {xs2 : List Tr} {Sr : (Nat → Prop) → World → Prop} {Mt : Nat → Prop} (hseq : SeqU Tryd.prog g2 lb2 C2 toldO xs2 False Sr Mt) (hSs : ∀ V W W' T, Sr V W → KT T W W' → Ap T V → Sr V W')
    {V U0 : Nat → Prop} {W : World} (hSr : Sr V W) (hC : Fx C2 W) (hCV : ∀ p ∈ C2, V p.1) (bV : Bd V W) (bU : Bd U0 W) (hap : Ap V U0) {J Jx : List Tr → (Nat → Prop) → World → Prop} {tk : Prop} {XS pre0 : List Tr} (hYl : Yld Tryd.prog l tk XS J Jx) (hJ : Stb J) (hJx : Stb Jx) (h0 : J pre0 U0 W)
    {B : Nat} {kv : Value} {ls : List Tr} {ss : List Value} (hG : Gr B W kv ls ss) (hrb : ∀ b, kv.ownBlock = some b → ¬ U0 b ∧ ¬ V b) (hlf : ∀ t ∈ ls, t.ks = [] ∧ fit t.k t.n) (hl2 : ls.length ≤ 2) (hCM : ∀ p ∈ C2, ¬ Mt p.1) (hpre : pre0 ++ prods ls xs2 <+: XS) (hpt : ∀ t ∈ xs2, pt t ≤ 65536) :
    CallsIn Fence.wide m Tryd.prog 95 #[kv, .func (.func g2) #[] lb2, .func (.yield l) #[] #[]] W (TlK Sr Mt V XS (pre0 ++ prods ls xs2) J Jx U0 (fun b => kv.ownBlock = some b) W) := by
  have yl : Yld Tryd.prog l tk XS (Old W.heap.size V U0 (fun b => kv.ownBlock = some b) W J) (Old W.heap.size V U0 (fun b => kv.ownBlock = some b) W Jx) := by
    rintro m pre x v U O W1 ⟨U1, k1, k2, k3, k4, k5⟩ ht bO bU1 hOU hp
    refine (hYl m pre x v U1 O W1 k1 ht bO k2 (fun b hb hu => hOU b hb ((k3 b).2 (.inl hu))) hp).mono ?_
    rintro e W' ⟨U2, r, hr⟩
    have hRn : Rnd tk U O (fun b => U2 b ∨ (b < W.heap.size ∧ ¬ V b ∧ ¬ kv.ownBlock = some b)) W1 W' := by
      refine ⟨r.kt.weak fun b _ h => ?_, fun b hb => ?_, fun b hb => ?_⟩
      · rcases h with h | h
        · exact .inl ((k3 b).2 (.inl h))
        · exact .inr h
      · rcases hb with h | h
        · rcases r.old b h with h | h | h
          · exact .inl ((k3 b).2 (.inl h))
          · exact .inr (.inl h)
          · exact .inr (.inr h)
        · exact .inl ((k3 b).2 (.inr h))
      · rcases hb with h | h
        · exact r.bd b h
        · exact Nat.lt_of_lt_of_le h.1 (Nat.le_trans k5.size r.kt.size)
    have hko : KT (fun b => U0 b ∨ V b ∨ kv.ownBlock = some b ∨ W.heap.size ≤ b) W W' := by
      refine ⟨r.kt.os.trans k5.os, r.kt.tape.trans k5.tape, r.kt.output.trans k5.output, Nat.le_trans k5.size r.kt.size, fun b hb hn => ?_⟩
      rw [r.kt.block b (Nat.lt_of_lt_of_le hb k5.size) ?_, k5.block b hb hn]
      rintro (h | ⟨_, h⟩)
      · exact hn (k4 b h)
      · exact hOU b h ((k3 b).2 (.inr ⟨hb, fun hv => hn (.inr (.inl hv)), fun hr => hn (.inr (.inr (.inl hr)))⟩))
    have hol : ∀ b, U2 b → U0 b ∨ V b ∨ kv.ownBlock = some b ∨ W.heap.size ≤ b := fun b hb => by
      rcases r.old b hb with h | ⟨_, h⟩ | h
      · exact k4 b h
      · rcases Nat.lt_or_ge b W.heap.size with hl | hl
        · by_cases hv : V b
          · exact .inr (.inl hv)
          · by_cases hk : kv.ownBlock = some b
            · exact .inr (.inr (.inl hk))
            · exact absurd ((k3 b).2 (.inr ⟨hl, hv, hk⟩)) (hOU b h)
        · exact .inr (.inr (.inr hl))
      · exact .inr (.inr (.inr (Nat.le_trans k5.size h)))
    refine ⟨_, hRn, ?_⟩
    rcases hr with ⟨rfl, hj⟩ | ⟨rfl, hj⟩
    · exact .inl ⟨rfl, U2, hj, r.bd, fun _ => Iff.rfl, hol, hko⟩
    · exact .inr ⟨rfl, U2, hj, r.bd, fun _ => Iff.rfl, hol, hko⟩
  refine (tells_c eg hseq hSs hSr hC hCV bV (U0 := fun b => U0 b ∨ (b < W.heap.size ∧ ¬ V b ∧ ¬ kv.ownBlock = some b)) ?_ ?_ yl (Old.stb rfl hJ) (Old.stb rfl hJx) ⟨U0, h0, bU, fun _ => Iff.rfl, fun b hb => .inl hb, KT.refl _ _⟩ hG ?_ hlf hl2 hCM hpre hpt).mono ?_
  · rintro b (h | h)
    · exact bU b h
    · exact h.1
  · rintro b hv (h | h)
    · exact hap b hv h
    · exact h.2.1 hv
  · intro b hb
    refine ⟨?_, (hrb b hb).2⟩
    rintro (h | h)
    · exact (hrb b hb).1 h
    · exact h.2.2 hb
  · rintro e W' ⟨U', V', q1, q2, q3, q4, q5, q6, q7, hr⟩
    have fin : ∀ (X : List Tr → (Nat → Prop) → World → Prop) (s : List Tr), Old W.heap.size V U0 (fun b => kv.ownBlock = some b) W X s U' W' → ∃ U1, X s U1 W' ∧ Bd U1 W' ∧ Ap V' U1 ∧ (∀ b, U1 b → U0 b ∨ kv.ownBlock = some b ∨ W.heap.size ≤ b) ∧ KT (fun b => U0 b ∨ V b ∨ kv.ownBlock = some b) W W' := by
      rintro X s ⟨U1, k1, k2, k3, k4, k5⟩
      refine ⟨U1, k1, k2, fun b hv hu => q7 b hv ((k3 b).2 (.inl hu)), fun b hb => by rcases k4 b hb with h | h | h | h; exact .inl h; exact absurd ((k3 b).2 (.inl hb)) (q7 b (q3 b h)); exact .inr (.inl h); exact .inr (.inr h), k5.weak fun b hb h => ?_⟩
      rcases h with h | h | h | h
      · exact .inl h
      · exact .inr (.inl h)
      · exact .inr (.inr h)
      · omega
    rcases hr with ⟨rfl, h⟩ | ⟨rfl, pre, hp, h⟩
    · obtain ⟨U1, k1, k2, k3, k4, k5⟩ := fin J _ h
      exact ⟨U1, V', q1, q2, q3, q4, q5, k2, k3, k4, k5, .inl ⟨rfl, k1⟩⟩
    · obtain ⟨U1, k1, k2, k3, k4, k5⟩ := fin Jx _ h
      exact ⟨U1, V', q1, q2, q3, q4, q5, k2, k3, k4, k5, .inr ⟨rfl, pre, hp, k1⟩⟩
/-- while the orders of a length are told: W0 the world at the start, V its search's blocks; Fr: blocks that nobody else touches -/
structure OI (Sr : (Nat → Prop) → World → Prop) (Fr : List (Nat × Obj)) (M : Nat) (V : Nat → Prop) (W0 : World) (J : List Tr → (Nat → Prop) → World → Prop) (pre : List Tr) (U0 V0 : Nat → Prop) (W : World) : Prop where
  j : J pre U0 W
  sr : Sr V0 W
  bV : Bd V0 W
  bU : Bd U0 W
  ap : Ap V0 U0
  fx : Fx Fr W
  fn : ∀ p ∈ Fr, ¬ U0 p.1 ∧ ¬ V0 p.1
  up : ∀ b, V b → V0 b
  old : ∀ b, V0 b → V b ∨ W0.heap.size ≤ b
  sm : ∀ b, V b → b ≠ M → W.heap[b]? = W0.heap[b]?
  sz : W0.heap.size ≤ W.heap.size
section
variable {Sr : (Nat → Prop) → World → Prop} {M : Nat} {Fr Fr' : List (Nat × Obj)} {V U0 V0 U1 O : Nat → Prop} {W0 W W' : World} {J J' : List Tr → (Nat → Prop) → World → Prop} {pre pre' : List Tr} {tk : Prop}
theorem OI.kt {T : Nat → Prop} (a : OI Sr Fr M V W0 J pre U0 V0 W) (hSs : ∀ V W W' T, Sr V W → KT T W W' → Ap T V → Sr V W') (hJ : Stb J) (k : KT T W W') (hU : Ap T U0) (hV : Ap T V0) (hg : ∀ p ∈ Fr, ¬ T p.1) : OI Sr Fr M V W0 J pre U0 V0 W' :=
  ⟨hJ _ _ _ _ _ a.j k hU, hSs _ _ _ _ a.sr k hV, a.bV.kt k, a.bU.kt k, a.ap, k.fx a.fx hg, a.fn, a.up, a.old, fun b hb hm => (k.block b (a.bV b (a.up b hb)) fun ht => hV b ht (a.up b hb)).trans (a.sm b hb hm), Nat.le_trans a.sz k.size⟩
theorem OI.below (a : OI Sr Fr M V W0 J pre U0 V0 W) (hSs : ∀ V W W' T, Sr V W → KT T W W' → Ap T V → Sr V W') (hJ : Stb J) (k : Below W.heap.size W W') : OI Sr Fr M V W0 J pre U0 V0 W' :=
  a.kt hSs hJ (T := fun _ => False) (KT.of_below k) (fun _ h => h.elim) (fun _ h => h.elim) (fun _ _ => id)
theorem OI.sub (a : OI Sr Fr M V W0 J pre U0 V0 W) (h : ∀ p ∈ Fr', p ∈ Fr) : OI Sr Fr' M V W0 J pre U0 V0 W :=
  ⟨a.j, a.sr, a.bV, a.bU, a.ap, fun p hp => a.fx p (h p hp), fun p hp => a.fn p (h p hp), a.up, a.old, a.sm, a.sz⟩
theorem OI.add (a : OI Sr Fr M V W0 J pre U0 V0 W) {b : Nat} {o : Obj} (h : W.heap[b]? = some o) (hu : ¬ U0 b ∧ ¬ V0 b) : OI Sr ((b, o) :: Fr) M V W0 J pre U0 V0 W :=
  ⟨a.j, a.sr, a.bV, a.bU, a.ap, fun p hp => by rcases List.mem_cons.1 hp with rfl | hp; exact h; exact a.fx p hp, fun p hp => by rcases List.mem_cons.1 hp with rfl | hp; exact hu; exact a.fn p hp, a.up, a.old, a.sm, a.sz⟩
/-- the caller's yield was called -/
theorem OI.rnd (a : OI Sr Fr M V W0 J pre U0 V0 W) (hSs : ∀ V W W' T, Sr V W → KT T W W' → Ap T V → Sr V W') (r : Rnd tk U0 O U1 W W') (hO : Ap O V0) (hg : ∀ p ∈ Fr, ¬ O p.1) (hj : J' pre' U1 W') : OI Sr Fr M V W0 J' pre' U1 V0 W' := by
  have hT : Ap (fun b => U0 b ∨ (tk ∧ O b)) V0 := fun b hb hv => by
    rcases hb with h | ⟨_, h⟩
    · exact a.ap b hv h
    · exact hO b h hv
  have hTg : ∀ p ∈ Fr, ¬ (U0 p.1 ∨ (tk ∧ O p.1)) := fun p hp h => by
    rcases h with h | ⟨_, h⟩
    · exact (a.fn p hp).1 h
    · exact hg p hp h
  refine ⟨hj, hSs _ _ _ _ a.sr r.kt hT, a.bV.kt r.kt, r.bd, r.apart a.ap (fun _ b hv ho => hO b ho hv) a.bV, r.kt.fx a.fx hTg, fun p hp => ⟨fun h => ?_, (a.fn p hp).2⟩, a.up, a.old, fun b hb hm => (r.kt.block b (a.bV b (a.up b hb)) fun ht => hT b ht (a.up b hb)).trans (a.sm b hb hm), Nat.le_trans a.sz r.kt.size⟩
  rcases r.old _ h with h | ⟨_, h⟩ | h
  · exact (a.fn p hp).1 h
  · exact hg p hp h
  · have := blk_lt (a.fx p hp); omega
/-- products were told -/
theorem OI.tl (a : OI Sr Fr M V W0 J pre U0 V0 W) {V1 R V2 : Nat → Prop} (hV1 : ∀ b, V0 b → V1 b) (hV1' : ∀ b, V1 b → V0 b ∨ W0.heap.size ≤ b) (hg : ∀ p ∈ Fr, ¬ V1 p.1 ∧ ¬ R p.1)
    (q1 : Sr V2 W') (q2 : ∀ b, V1 b → b ≠ M → W'.heap[b]? = W.heap[b]?) (q3 : ∀ b, V1 b → V2 b) (q4 : ∀ b, V2 b → V1 b ∨ W.heap.size ≤ b) (q5 : Bd V2 W') (q6 : Bd U1 W') (q7 : Ap V2 U1) (q8 : ∀ b, U1 b → U0 b ∨ R b ∨ W.heap.size ≤ b) (q9 : KT (fun b => U0 b ∨ V1 b ∨ R b) W W') (hj : J' pre' U1 W') : OI Sr Fr M V W0 J' pre' U1 V2 W' := by
  refine ⟨hj, q1, q5, q6, q7, q9.fx a.fx fun p hp h => ?_, fun p hp => ⟨fun h => ?_, fun h => ?_⟩, fun b hb => q3 b (hV1 b (a.up b hb)), fun b hb => ?_, fun b hb hm => (q2 b (hV1 b (a.up b hb)) hm).trans (a.sm b hb hm), Nat.le_trans a.sz q9.size⟩
  · rcases h with h | h | h
    · exact (a.fn p hp).1 h
    · exact (hg p hp).1 h
    · exact (hg p hp).2 h
  · rcases q8 _ h with h | h | h
    · exact (a.fn p hp).1 h
    · exact (hg p hp).2 h
    · have := blk_lt (a.fx p hp); omega
  · rcases q4 _ h with h | h
    · exact (hg p hp).1 h
    · have := blk_lt (a.fx p hp); omega
  · rcases q4 b hb with h | h
    · rcases hV1' b h with h | h
      · exact a.old b h
      · exact .inr h
    · exact .inr (Nat.le_trans a.sz h)
end
theorem lvs_two (D : Int) (F : List Int) (n : Nat) : (Pl.lvs D F n).length ≤ 2 := by
  unfold Pl.lvs
  rw [List.length_append]
  have h1 : (if (n : Int) ≤ D then [Tr.mk 1 n []] else []).length ≤ 1 := by split <;> simp
  have h2 : (if F.contains (n : Int) then [Tr.mk 2 n []] else []).length ≤ 1 := by split <;> simp
  omega
theorem lvs_fit {D : Int} {F : List Int} {n : Nat} (hn : n ≤ 16384) : ∀ t ∈ Pl.lvs D F n, t.ks = [] ∧ fit t.k t.n := fun t ht => by
  rcases Pl.lvs_mem ht with ⟨rfl, _⟩ | ⟨rfl, _⟩
  · exact ⟨rfl, ⟨by show (-9223372036854775808 : Int) ≤ 1; decide, by show (1 : Int) ≤ 9223372036854775807; decide⟩, by show _ ≤ (n : Int); omega, by show (n : Int) ≤ _; omega⟩
  · exact ⟨rfl, ⟨by show (-9223372036854775808 : Int) ≤ 2; decide, by show (2 : Int) ≤ 9223372036854775807; decide⟩, by show _ ≤ (n : Int); omega, by show (n : Int) ≤ _; omega⟩
theorem Lfs.kt {W W' : World} {kv : Value} {ls : List Tr} {rb cap : Nat} {cur : Array Value} (h : Lfs W kv ls rb cap cur) (e : W'.heap[rb]? = W.heap[rb]?) : Lfs W' kv ls rb cap cur := ⟨h.kv, e.trans h.blk, h.at'⟩
end Go.Proofs.YtoaccmblaifnmaaDoor
