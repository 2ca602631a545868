/-
  What PlannerLists and its fellows rest on, joined: Pn1 Mo2 Crt Rf5.
-/
import Derived.Test.YtoaccmblaifnmaaDoorProg
import Derived.WalkKit
import Ieee.Arith
import Derived.WalkLawsBesides
import Derived.Outline
import Derived.Deep.QuietTactic
import Derived.BigQuiet
import Derived.WalkSmall
import Derived.RegionTactic
import Derived.Lib.Mul64
import Derived.Laws.Bits64b
import Derived.Deep.CutBlock
import Derived.Deep.DeepCutAuto
import Derived.Maps.AppendAt
import Derived.Deep.RegionHeld3
import Derived.Deep.RegionWith
import Derived.Laws.OwnMore
import Derived.RangeFuncNested
import Derived.RangeFuncBound
import Derived.RangeFuncCalls
import Derived.RangeFuncLeaves
import Derived.RangeFuncBox
import Derived.Shelf.Abstract
import Derived.Shelf.RegionOpen
import Derived.OwnWalkIn
import Derived.TacticsInMore
import Derived.LoopNIn
import Derived.LoopIn
import Derived.Laws.Rows
import Derived.Lib.ItoaNum
import Derived.Laws.IdiomStrings
import Derived.Lib.SmallJoins
import Derived.Lib.HexFns
import Derived.Test.YtoaccmblaifnmaaDoorRows
import Derived.LaidEql
import Derived.LaidLaws
import Derived.LaidHandle
import Derived.Stop.Joined
import Derived.Recover
import Derived.RegionDies
import Derived.Laws.CopyOwn
import Derived.Lib.AppendIntMem
import Derived.Laws.AppendOwn
import Derived.OwnWalk
import Derived.BigCall
import Derived.Deep.RegionHeldLaw
import Derived.Test.YtoaccmblaifnmaaDoorBb4
import Derived.Test.YtoaccmblaifnmaaDoorBb7
import Derived.Test.YtoaccmblaifnmaaDoorBa4
namespace Go.Proofs.YtoaccmblaifnmaaDoor
open Flo Go.RowKit Go.Shelf Tr
/-- these blocks are there -/
def Bd (U : Nat → Prop) (W : World) : Prop := ∀ b, U b → b < W.heap.size
/-- no block of both -/
def Ap (V U : Nat → Prop) : Prop := ∀ b, V b → ¬ U b
def Fx (C : List (Nat × Obj)) (W : World) : Prop := ∀ p ∈ C, W.heap[p.1]? = some p.2
/-- what is said of W and the blocks U stays, whatever becomes of other blocks -/
def Stb {β : Type} (J : β → (Nat → Prop) → World → Prop) : Prop := ∀ s U W W' T, J s U W → KT T W W' → Ap T U → J s U W'
/-- how a round may leave the world: it touched U, and, where it may, what it was handed -/
structure Rnd (tk : Prop) (U O U' : Nat → Prop) (W W' : World) : Prop where
  kt : KT (fun b => U b ∨ (tk ∧ O b)) W W'
  old : ∀ b, U' b → U b ∨ (tk ∧ O b) ∨ W.heap.size ≤ b
  bd : Bd U' W'
theorem Rnd.apart {tk : Prop} {U O U' V : Nat → Prop} {W W' : World} (h : Rnd tk U O U' W W') (h1 : Ap V U) (h2 : tk → Ap V O) (h3 : Bd V W) : Ap V U' := fun b hb hu => by
  rcases h.old b hu with k | ⟨k1, k2⟩ | k
  · exact h1 b hb k
  · exact h2 k1 b hb k2
  · have := h3 b hb; omega
theorem KT.weak {T T' : Nat → Prop} {W W' : World} (h : KT T W W') (hT : ∀ b, b < W.heap.size → T b → T' b) : KT T' W W' :=
  ⟨h.os, h.tape, h.output, h.size, fun k hk hn => h.block k hk fun ht => hn (hT k hk ht)⟩
theorem KT.put {T : Nat → Prop} (W : World) (l : Nat) (o : Obj) (h : T l) : KT T W (W.putObj l o) := KT.grown (grownBy_putObj' W l o) (fun b e => by cases e; exact h)
theorem KT.alloc {T : Nat → Prop} {A W : World} (h : KT T A W) (o : Obj) : KT T A (W.alloc o) := h.trans (KT.grown (World.grownBy_alloc W o none) (fun _ e => by cases e))
theorem KT.of_below {T : Nat → Prop} {W W' : World} (h : Below W.heap.size W W') : KT T W W' := ⟨h.os, h.tape, h.output, h.size, fun k hk _ => h.block k hk⟩
theorem KT.fx {T : Nat → Prop} {C : List (Nat × Obj)} {W W' : World} (h : KT T W W') (hC : Fx C W) (hT : ∀ p ∈ C, ¬ T p.1) : Fx C W' := fun p hp => (h.block p.1 (Array.getElem?_eq_some_iff.1 (hC p hp)).1 (hT p hp)).trans (hC p hp)
theorem Bd.kt {T U : Nat → Prop} {W W' : World} (h : Bd U W) (k : KT T W W') : Bd U W' := fun b hb => Nat.lt_of_lt_of_le (h b hb) k.size
/-- the contract of an iterator -/
def SeqU {α : Type} (P : Program) (g : Nat) (lb : Array Value) (C : List (Nat × Obj)) (told : α → Value → (Nat → Prop) → World → Prop) (xs : List α) (tk : Prop) (Sr : (Nat → Prop) → World → Prop) (Mt : Nat → Prop) : Prop :=
  ∀ (m l : Nat) (J Jx : List α → (Nat → Prop) → World → Prop) (W : World) (U V : Nat → Prop), Sr V W → Fx C W → (∀ p ∈ C, V p.1) → Bd V W → Bd U W → Ap V U → Stb J → Stb Jx →
    (∀ m pre x v U O W1, J pre U W1 → told x v O W1 → Bd O W1 → Bd U W1 → Ap O U → pre ++ [x] <+: xs → YieldAt Fence.wide m P l #[v] W1 fun e W' => ∃ U', Rnd tk U O U' W1 W' ∧ ((e = .returned (.bool true) ∧ J (pre ++ [x]) U' W') ∨ (e = .returned (.bool false) ∧ Jx (pre ++ [x]) U' W'))) →
    J [] U W →
    CallsIn Fence.wide m P g (#[.func (.yield l) #[] #[]] ++ lb) W fun e W' => (∃ v, e = .returned v) ∧ ∃ U' V', Sr V' W' ∧ (∀ b, V b → ¬ Mt b → W'.heap[b]? = W.heap[b]?) ∧ (∀ b, V b → V' b) ∧ (∀ b, V' b → V b ∨ W.heap.size ≤ b) ∧ Bd V' W' ∧ Bd U' W' ∧ Ap V' U' ∧ (J xs U' W' ∨ ∃ pre, pre <+: xs ∧ Jx pre U' W')
/-- how the caller's body may end -/
def uPost {α : Type} (tk : Prop) (I : List α → (Nat → Prop) → World → Prop) (Ix : Code → List α → (Nat → Prop) → World → Prop) (xs : List α) (U O : Nat → Prop) (lo : Nat) (W : World) : Exit → Act → World → Prop
  | .normal, _, W' => ∃ U', KT (fun b => U b ∨ (tk ∧ O b) ∨ lo ≤ b) W W' ∧ (∀ b, U' b → U b ∨ (tk ∧ O b) ∨ lo ≤ b) ∧ Bd U' W' ∧ I xs U' W'
  | .ret, _, W' => ∃ U', KT (fun b => U b ∨ (tk ∧ O b) ∨ lo ≤ b) W W' ∧ (∀ b, U' b → U b ∨ (tk ∧ O b) ∨ lo ≤ b) ∧ Bd U' W' ∧ Ix .ret xs U' W'
  | .exit id, _, W' => ∃ U', KT (fun b => U b ∨ (tk ∧ O b) ∨ lo ≤ b) W W' ∧ (∀ b, U' b → U b ∨ (tk ∧ O b) ∨ lo ≤ b) ∧ Bd U' W' ∧ Ix (.exit id) xs U' W'
  | .goto t, _, W' => ∃ U', KT (fun b => U b ∨ (tk ∧ O b) ∨ lo ≤ b) W W' ∧ (∀ b, U' b → U b ∨ (tk ∧ O b) ∨ lo ≤ b) ∧ Bd U' W' ∧ Ix (.goto t) xs U' W'
  | .panic _, _, _ => False
  | .outgrown, _, _ => False
variable {n : Nat} {P : Program}
set_option maxHeartbeats 1000000 in
/-- the law for the caller -/
theorem rangeU {α : Type} {g : Operand} {p0 : Tmp} {assign body : Code} {Q : Exit → Act → World → Prop} {a : Act} {w : World}
    {gf : Nat} {lb : Array Value} (hg : a.eval g = .func (.func gf) #[] lb) (eg : ∀ args w, (callFunc gf args).run P w = .ok (.enter gf args) w)
    {C : List (Nat × Obj)} {told : α → Value → (Nat → Prop) → World → Prop} {xs : List α} {tk : Prop} {Sr : (Nat → Prop) → World → Prop} {Mt : Nat → Prop}
    (hseq : SeqU P gf lb C told xs tk Sr Mt) (hto : ∀ x v O W W' T, told x v O W → KT T W W' → Ap T O → told x v O W') (hSs : ∀ V W W' T, Sr V W → KT T W W' → Ap T V → Sr V W')
    {V U : Nat → Prop} (hSr : Sr V w) (hC : Fx C w) (hCV : ∀ p ∈ C, V p.1) (bV : Bd V w) (bU : Bd U w) (hap : Ap V U)
    (I : List α → (Nat → Prop) → World → Prop) (Ix : Code → List α → (Nat → Prop) → World → Prop) (hI : Stb I) (hIx : ∀ c, Stb (Ix c)) (h0 : I [] U w)
    (Ax : Nat → α → Value → Act → World → Prop) (hAx : ∀ lo x v a W W' T, Ax lo x v a W → KT T W W' → (∀ b, T b → b < lo) → Ax lo x v a W')
    (hassign : ∀ (l : Nat) (x : α) (v : Value) (O : Nat → Prop) (W : World) (K : Act → World → Prop), told x v O W → (∀ a' W', KT (fun _ => False) W W' → Ax W.heap.size x v a' W' → K a' W') →
      assign.wpIn (Fence.wide.inRound l) (n - 1 - 1) P (Exit.then K (fun _ _ _ => False)) { tmps := ((#[p0] : Array Tmp).zip #[v]).foldl (fun t (p, v) => t.setIfInBounds p v) a.tmps, defers := [] } W)
    (hbody : ∀ (l : Nat) (pre : List α) (x : α) (v : Value) (a' : Act) (U O : Nat → Prop) (lo : Nat) (W : World), I pre U W → told x v O W → (∀ b, O b → b < lo) → (∀ b, U b → b < lo) → w.heap.size ≤ lo → lo ≤ W.heap.size → Ap O U → pre ++ [x] <+: xs → Ax lo x v a' W →
      body.wpIn (Fence.wide.inRound l) (n - 1 - 1) P (uPost tk I Ix (pre ++ [x]) U O lo W) a' W)
    (hdone : ∀ (U' V' : Nat → Prop) (W : World), Sr V' W → (∀ b, V b → ¬ Mt b → W.heap[b]? = w.heap[b]?) → (∀ b, V b → V' b) → (∀ b, V' b → V b ∨ w.heap.size ≤ b) → Bd V' W → Bd U' W → Ap V' U' → ¬ U' w.heap.size → ¬ V' w.heap.size → I xs U' W → W.heap[w.heap.size]? = some (.deferred (some [])) → Q .normal { a with defers := { target := .collected w.heap.size, args := #[] } :: a.defers } W)
    (hstop : ∀ (c : Code) (pre : List α) (U' V' : Nat → Prop) (W : World), pre <+: xs → Sr V' W → (∀ b, V b → ¬ Mt b → W.heap[b]? = w.heap[b]?) → (∀ b, V b → V' b) → (∀ b, V' b → V b ∨ w.heap.size ≤ b) → Bd V' W → Bd U' W → Ap V' U' → ¬ U' w.heap.size → ¬ V' w.heap.size → Ix c pre U' W → W.heap[w.heap.size]? = some (.deferred (some [])) → c.wpIn Fence.wide n P Q { a with defers := { target := .collected w.heap.size, args := #[] } :: a.defers } W) :
    (Code.rangeFunc g #[p0] assign body).wpIn Fence.wide n P Q a w := by
  obtain ⟨D, hD⟩ : ∃ D, w.heap.size = D := ⟨_, rfl⟩
  refine wpIn_rangeFunc fun fn hfn => ?_
  let rec_ : LoopState → Option Code → Loop := fun st pe => { state := st, pending := pe, fn, tmps := a.tmps, params := #[p0], assign, body, defers := D }
  obtain ⟨X, hX⟩ : ∃ X, (w.alloc (.deferred (some []))).alloc (.loop (rec_ .ready none)) = X := ⟨_, rfl⟩
  have hXs : X.heap.size = D + 2 := by rw [← hX, World.size_alloc, World.size_alloc, hD]
  have hXl : X.heap[D + 1]? = some (.loop (rec_ .ready none)) := by
    have := World.alloc_heap_new (w.alloc (.deferred (some []))) (.loop (rec_ .ready none))
    rw [World.size_alloc, hD, hX] at this; exact this
  have hXd : X.heap[D]? = some (.deferred (some [])) := by
    have := World.alloc_heap_new w (.deferred (some []))
    rw [hD] at this
    rw [← hX, Below.heap_alloc _ _ _ (by rw [World.size_alloc]; omega)]; exact this
  have kX : ∀ T, KT T w X := fun T => by rw [← hX]; exact ((KT.refl T w).alloc _).alloc _
  have nU : ∀ {A : Nat → Prop}, Bd A w → ¬ A D ∧ ¬ A (D + 1) := fun h => ⟨fun k => by have := h _ k; omega, fun k => by have := h _ k; omega⟩
  refine ⟨D + 1, [{ target := .collected D, args := #[] }], X, { target := .fn (.func gf) lb, args := #[.func (.yield (D + 1)) #[] #[]] }, X, gf, #[.func (.yield (D + 1)) #[] #[]] ++ lb, X, ?_, ?_, ?_, ?_, fun h => absurd h (by simp [Fence.wide]), ?_⟩
  · rw [show Fence.wide.round = none from rfl, run_enterLoop_outer, ← hX, hD]
  · simp only [resolve, hg]; simp [go_sem]
  · intro f' _; trivial
  · simp [invoke, go_sem, eg]
  refine (hseq (n - 1) (D + 1) (fun pre U' W => ∃ U0, I pre U0 W ∧ (∀ b, U' b ↔ U0 b ∨ b = D ∨ b = D + 1) ∧ ¬ U0 D ∧ ¬ U0 (D + 1) ∧ W.heap[D + 1]? = some (.loop (rec_ .ready none)) ∧ W.heap[D]? = some (.deferred (some [])))
    (fun pre U' W => ∃ U0 c, Ix c pre U0 W ∧ (∀ b, U' b ↔ U0 b ∨ b = D ∨ b = D + 1) ∧ ¬ U0 D ∧ ¬ U0 (D + 1) ∧ W.heap[D + 1]? = some (.loop (rec_ .done (some c))) ∧ W.heap[D]? = some (.deferred (some [])))
    X (fun b => U b ∨ b = D ∨ b = D + 1) V (hSs V w X (fun _ => False) hSr (kX _) (fun _ h => h.elim)) ((kX (fun _ => False)).fx hC fun _ _ h => h) hCV (bV.kt (kX V)) ?_ ?_ ?_ ?_ ?_ ?_).mono ?_
  · rintro b (h | rfl | rfl)
    · have := bU b h; omega
    · omega
    · omega
  · rintro b h (k | rfl | rfl)
    · exact hap b h k
    · exact (nU bV).1 h
    · exact (nU bV).2 h
  · rintro pre U' W W' T ⟨U0, k1, k2, k3, k4, k5, k6⟩ hk ha
    have t1 : ¬ T (D + 1) := fun h => ha _ h ((k2 _).2 (.inr (.inr rfl)))
    have t0 : ¬ T D := fun h => ha _ h ((k2 _).2 (.inr (.inl rfl)))
    exact ⟨U0, hI _ _ _ _ T k1 hk (fun b hb hu => ha b hb ((k2 b).2 (.inl hu))), k2, k3, k4, (hk.block _ (Array.getElem?_eq_some_iff.1 k5).1 t1).trans k5, (hk.block _ (Array.getElem?_eq_some_iff.1 k6).1 t0).trans k6⟩
  · rintro pre U' W W' T ⟨U0, c, k1, k2, k3, k4, k5, k6⟩ hk ha
    have t1 : ¬ T (D + 1) := fun h => ha _ h ((k2 _).2 (.inr (.inr rfl)))
    have t0 : ¬ T D := fun h => ha _ h ((k2 _).2 (.inr (.inl rfl)))
    exact ⟨U0, c, hIx c _ _ _ _ T k1 hk (fun b hb hu => ha b hb ((k2 b).2 (.inl hu))), k2, k3, k4, (hk.block _ (Array.getElem?_eq_some_iff.1 k5).1 t1).trans k5, (hk.block _ (Array.getElem?_eq_some_iff.1 k6).1 t0).trans k6⟩
  · rintro m pre x v U' O W1 ⟨U0, hi, k2, k3, k4, hl, hk⟩ ht bO bU' hOU hpx
    have hs1 : D + 1 < W1.heap.size := (Array.getElem?_eq_some_iff.1 hl).1
    refine yield_any (m := n - 1 - 1) rfl m ⟨fn, _, assign, body, run_yield (P := P) (args := #[v]) hl rfl, roundIn_of_wpIn hfn ?_⟩
    refine hassign _ x v O W1 _ ht fun a' Wa ka hax => ⟨_, run_beginRound (P := P) ((ka.block _ hs1 (fun h => h)).trans hl) rfl, ?_⟩
    obtain ⟨Wb, eWb⟩ : ∃ Wb, Wa.putObj (D + 1) (.loop { rec_ .ready none with state := .busy }) = Wb := ⟨_, rfl⟩
    have kab : KT (fun b => b = D + 1) Wa Wb := by rw [← eWb]; exact KT.put _ _ _ rfl
    have k1b : KT (fun b => b = D + 1) W1 Wb := (ka.weak fun _ _ h => h.elim).trans kab
    have nO : ∀ {b}, O b → b ≠ D ∧ b ≠ D + 1 := fun h => ⟨fun e => hOU _ h ((k2 _).2 (.inr (.inl e))), fun e => hOU _ h ((k2 _).2 (.inr (.inr e)))⟩
    have hib : I pre U0 Wb := hI _ _ _ _ _ hi k1b (fun b e hu => by subst e; exact k4 hu)
    have htb : told x v O Wb := hto _ _ _ _ _ _ ht k1b (fun b e ho => (nO ho).2 e)
    have haxb : Ax W1.heap.size x v a' Wb := hAx _ _ _ _ _ _ _ hax kab (fun b e => by subst e; exact hs1)
    have szb : W1.heap.size ≤ Wb.heap.size := k1b.size
    rw [eWb]
    have hlb : Wb.heap[D + 1]? = some (.loop { rec_ .ready none with state := .busy }) := by rw [← eWb]; exact World.putObj_heap_same (Nat.lt_of_lt_of_le hs1 ka.size)
    have hdb : Wb.heap[D]? = some (.deferred (some [])) := (k1b.block D (by omega) (by omega)).trans hk
    refine wpIn_mono (hbody (D + 1) pre x v a' U0 O W1.heap.size Wb hib htb bO (fun b hu => bU' b ((k2 b).2 (.inl hu))) (by rw [hD]; omega) szb (fun b ho hu => hOU b ho ((k2 b).2 (.inl hu))) hpx haxb) ?_
    have fin : ∀ (jump : Option Code) (U1 : Nat → Prop) (W3 : World), KT (fun b => U0 b ∨ (tk ∧ O b) ∨ W1.heap.size ≤ b) Wb W3 → (∀ b, U1 b → U0 b ∨ (tk ∧ O b) ∨ W1.heap.size ≤ b) → Bd U1 W3 →
        (Instr.endRound (D + 1) jump).run P W3 = .ok (.bool jump.isNone) (W3.putObj (D + 1) (.loop (rec_ (if jump.isNone then .ready else .done) jump))) ∧
        Rnd tk U' O (fun b => U1 b ∨ b = D ∨ b = D + 1) W1 (W3.putObj (D + 1) (.loop (rec_ (if jump.isNone then .ready else .done) jump))) ∧
        (W3.putObj (D + 1) (.loop (rec_ (if jump.isNone then .ready else .done) jump))).heap[D + 1]? = some (.loop (rec_ (if jump.isNone then .ready else .done) jump)) ∧
        (W3.putObj (D + 1) (.loop (rec_ (if jump.isNone then .ready else .done) jump))).heap[D]? = some (.deferred (some [])) ∧ ¬ U1 D ∧ ¬ U1 (D + 1) := fun jump U1 W3 hkt hu1 hb1 => by
      have n1 : ¬ (U0 (D + 1) ∨ (tk ∧ O (D + 1)) ∨ W1.heap.size ≤ D + 1) := by
        rintro (h | ⟨_, h⟩ | h)
        · exact k4 h
        · exact (nO h).2 rfl
        · omega
      have n0 : ¬ (U0 D ∨ (tk ∧ O D) ∨ W1.heap.size ≤ D) := by
        rintro (h | ⟨_, h⟩ | h)
        · exact k3 h
        · exact (nO h).1 rfl
        · omega
      have l2 : W3.heap[D + 1]? = some (.loop { rec_ .ready none with state := .busy }) := (hkt.block _ (by omega) n1).trans hlb
      have d2 : W3.heap[D]? = some (.deferred (some [])) := (hkt.block _ (by omega) n0).trans hdb
      have hl3 := (Array.getElem?_eq_some_iff.1 l2).1
      refine ⟨run_endRound (P := P) jump l2, ⟨?_, ?_, ?_⟩, World.putObj_heap_same hl3, (World.putObj_heap_other (by omega)).trans d2, (fun h => n0 (hu1 _ h)), fun h => n1 (hu1 _ h)⟩
      · have q1 : KT (fun b => U' b ∨ (tk ∧ O b)) W1 Wb := k1b.weak fun b _ e => by subst e; exact .inl ((k2 _).2 (.inr (.inr rfl)))
        have q2 : KT (fun b => U' b ∨ (tk ∧ O b) ∨ W1.heap.size ≤ b) Wb W3 := hkt.weak fun b _ h => by
          rcases h with h | h | h
          · exact .inl ((k2 _).2 (.inl h))
          · exact .inr (.inl h)
          · exact .inr (.inr h)
        refine ⟨(show _ = _ from q2.os.trans q1.os), q2.tape.trans q1.tape, q2.output.trans q1.output, by rw [putObj_size]; exact Nat.le_trans q1.size q2.size, fun b hb hn => ?_⟩
        have e1 : b ≠ D + 1 := fun e => hn (.inl ((k2 b).2 (.inr (.inr e))))
        rw [World.putObj_heap_other e1, q2.block b (Nat.lt_of_lt_of_le hb q1.size) (fun h => by rcases h with h | h | h; exact hn (.inl h); exact hn (.inr h); omega), q1.block b hb hn]
      · rintro b (h | rfl | rfl)
        · rcases hu1 b h with h | h | h
          · exact .inl ((k2 _).2 (.inl h))
          · exact .inr (.inl h)
          · exact .inr (.inr h)
        · exact .inl ((k2 _).2 (.inr (.inl rfl)))
        · exact .inl ((k2 _).2 (.inr (.inr rfl)))
      · intro b hb
        rw [putObj_size]
        rcases hb with h | rfl | rfl
        · exact hb1 b h
        · omega
        · exact hl3
    rintro e a3 W3 hp
    cases e with
    | normal =>
      obtain ⟨U1, q1, q2, q3, q4⟩ := hp
      obtain ⟨f1, f2, f3, f4, f5, f6⟩ := fin none U1 W3 q1 q2 q3
      exact ⟨_, _, f1, _, f2, .inl ⟨rfl, U1, hI _ _ _ _ _ q4 (KT.put (T := fun b => b = D + 1) W3 _ _ rfl) (fun b e hu => by subst e; exact f6 hu), fun b => Iff.rfl, f5, f6, f3, f4⟩⟩
    | ret =>
      obtain ⟨U1, q1, q2, q3, q4⟩ := hp
      obtain ⟨f1, f2, f3, f4, f5, f6⟩ := fin (some .ret) U1 W3 q1 q2 q3
      exact ⟨_, _, f1, _, f2, .inr ⟨rfl, U1, .ret, hIx _ _ _ _ _ _ q4 (KT.put (T := fun b => b = D + 1) W3 _ _ rfl) (fun b e hu => by subst e; exact f6 hu), fun b => Iff.rfl, f5, f6, f3, f4⟩⟩
    | exit id =>
      obtain ⟨U1, q1, q2, q3, q4⟩ := hp
      obtain ⟨f1, f2, f3, f4, f5, f6⟩ := fin (some (.exit id)) U1 W3 q1 q2 q3
      exact ⟨_, _, f1, _, f2, .inr ⟨rfl, U1, .exit id, hIx _ _ _ _ _ _ q4 (KT.put (T := fun b => b = D + 1) W3 _ _ rfl) (fun b e hu => by subst e; exact f6 hu), fun b => Iff.rfl, f5, f6, f3, f4⟩⟩
    | goto t =>
      obtain ⟨U1, q1, q2, q3, q4⟩ := hp
      obtain ⟨f1, f2, f3, f4, f5, f6⟩ := fin (some (.goto t)) U1 W3 q1 q2 q3
      exact ⟨_, _, f1, _, f2, .inr ⟨rfl, U1, .goto t, hIx _ _ _ _ _ _ q4 (KT.put (T := fun b => b = D + 1) W3 _ _ rfl) (fun b e hu => by subst e; exact f6 hu), fun b => Iff.rfl, f5, f6, f3, f4⟩⟩
    | panic ch => exact hp.elim
    | outgrown => exact hp.elim
  · exact ⟨U, hI _ _ _ _ _ h0 (kX (fun _ => False)) (fun _ h => h.elim), fun b => Iff.rfl, (nU bU).1, (nU bU).2, hXl, hXd⟩
  · rintro e W2 ⟨⟨v, rfl⟩, U', V', s1, sC, s2, s3, s4, s5, s6, h⟩
    have s3' : ∀ b, V' b → V b ∨ w.heap.size ≤ b := fun b hb => (s3 b hb).imp id fun h => by omega
    have fin2 : ∀ (U0 : Nat → Prop) (o : Obj), (∀ b, U' b ↔ U0 b ∨ b = D ∨ b = D + 1) → W2.heap[D]? = some (.deferred (some [])) → ¬ U0 D →
        (Sr V' (W2.putObj (D + 1) o) ∧ (∀ b, V b → ¬ Mt b → (W2.putObj (D + 1) o).heap[b]? = w.heap[b]?)) ∧ Bd V' (W2.putObj (D + 1) o) ∧ Bd U0 (W2.putObj (D + 1) o) ∧ Ap V' U0 ∧ ¬ U0 w.heap.size ∧ ¬ V' w.heap.size ∧ (W2.putObj (D + 1) o).heap[w.heap.size]? = some (.deferred (some [])) := fun U0 o k2 hd hu => by
      have v1 : ¬ V' (D + 1) := fun h => s6 _ h ((k2 _).2 (.inr (.inr rfl)))
      refine ⟨⟨hSs _ _ _ _ s1 (KT.put (T := fun b => b = D + 1) W2 _ _ rfl) (fun b e hv => by subst e; exact v1 hv), (fun b hb hm => by
        have hbl := bV b hb
        rw [World.putObj_heap_other (by omega), sC b hb hm]
        exact (kX (fun _ => False)).block b (by omega) (fun h => h))⟩, (fun b hb => by rw [putObj_size]; exact s4 b hb), (fun b hb => by rw [putObj_size]; exact s5 b ((k2 b).2 (.inl hb))), (fun b hv hu => s6 b hv ((k2 b).2 (.inl hu))), by rw [hD]; exact hu, (by rw [hD]; exact fun h => s6 _ h ((k2 _).2 (.inr (.inl rfl)))), ?_⟩
      rw [hD, World.putObj_heap_other (by omega)]; exact hd
    rcases h with ⟨U0, hi, k2, k3, k4, hl, hk⟩ | ⟨pre, hpx, U0, c, hi, k2, k3, k4, hl, hk⟩
    · obtain ⟨t1, t2, t3, t4, t5, t6, t7⟩ := fin2 U0 (.loop { rec_ .ready none with state := .exhausted }) k2 hk k3
      have hq := hdone U0 V' _ t1.1 t1.2 s2 s3' t2 t3 t4 t5 t6 (hI _ _ _ _ _ hi (KT.put (T := fun b => b = D + 1) W2 _ _ rfl) (fun b e hu => by subst e; exact k4 hu)) t7
      rw [hD] at hq
      exact ⟨none, _, run_endLoop (P := P) hl (by simp [rec_]), hq⟩
    · obtain ⟨t1, t2, t3, t4, t5, t6, t7⟩ := fin2 U0 (.loop { rec_ .done (some c) with state := .exhausted }) k2 hk k3
      have hq := hstop c pre U0 V' _ hpx t1.1 t1.2 s2 s3' t2 t3 t4 t5 t6 (hIx c _ _ _ _ _ hi (KT.put (T := fun b => b = D + 1) W2 _ _ rfl) (fun b e hu => by subst e; exact k4 hu)) t7
      rw [hD] at hq
      exact ⟨some c, _, run_endLoop (P := P) hl (by simp [rec_]), hq⟩
end Go.Proofs.YtoaccmblaifnmaaDoor
namespace Go.Proofs.YtoaccmblaifnmaaDoor
open Flo Go.RowKit Go.Lib

def dr (hi lo y : Nat) : Nat := (hi * 18446744073709551616 + lo) % y
end Go.Proofs.YtoaccmblaifnmaaDoor
namespace Go.Proofs.YtoaccmblaifnmaaDoor.Cr
/-- one step of Euclid's way with its factors -/
theorem step {m : Nat} {a s0 s1 s2 r0 r1 r2 q t : Int} (h0 : (m : Int) ∣ s0 * a - r0) (h1 : (m : Int) ∣ s1 * a - r1) (hr : r0 = q * r1 + r2) (hs : s2 + q * s1 = s0 + t * m) : (m : Int) ∣ s2 * a - r2 := by
  have e : s2 * a - r2 = (s0 * a - r0) - q * (s1 * a - r1) + t * a * m := by
    have : s2 = s0 + t * m - q * s1 := by omega
    rw [this, hr, Int.sub_mul, Int.add_mul, Int.mul_sub, Int.mul_assoc q s1 a, Int.mul_right_comm t m a]
    omega
  rw [e]
  exact Int.dvd_add (Int.dvd_sub h0 (Int.dvd_mul_of_dvd_right h1)) (Int.dvd_mul_left _ _)

def ls (a b m : Nat) : Nat := if b ≤ a then a - b else m - (b - a)
end Go.Proofs.YtoaccmblaifnmaaDoor.Cr
namespace Go.Proofs.YtoaccmblaifnmaaDoor
open Flo Go.RowKit Go.Lib

/-- the product modulo m; 0 modulo 0 -/
def mm (a b m : Nat) : Nat := if m = 0 then 0 else a * b % m
end Go.Proofs.YtoaccmblaifnmaaDoor
