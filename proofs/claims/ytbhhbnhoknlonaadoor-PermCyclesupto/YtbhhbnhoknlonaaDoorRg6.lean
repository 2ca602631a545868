/-
  A loop over an iterator that has blocks of its own (a row that it writes between two rounds, a loop within it): what its contract says, and the law for the caller.
-/
import Derived.Test.YtbhhbnhoknlonaaDoorOwn5
import Derived.RangeFuncNested
import Derived.RangeFuncBound
import Derived.RangeFuncCalls
import Derived.RangeFuncLeaves
import Derived.RangeFuncBox
import Derived.Shelf.Abstract
import Derived.Shelf.RegionOpen
import Derived.WalkKit
import Derived.OwnWalkIn
import Derived.TacticsInMore
import Derived.LoopNIn
import Derived.LoopIn
import Derived.Maps.AppendAt
namespace Go.Proofs.YtbhhbnhoknlonaaDoor
open Flo Go.RowKit Go.Shelf

/-- it abides new blocks, and whatever becomes of the blocks from B to C -/
def AbX {β : Type} (B C : Nat) (J : β → World → Prop) : Prop := ∀ s W W' row, J s W → W.grownBy W' row → (∀ r, row = some r → B ≤ r ∧ r ≤ C) → J s W'
theorem AbX.alloc {β : Type} {B C : Nat} {J : β → World → Prop} (h : AbX B C J) {s : β} {W : World} (hs : J s W) (o : Obj) : J s (W.alloc o) := h s W _ none hs (World.grownBy_alloc W o none) (fun _ e => by cases e)
theorem AbX.put {β : Type} {B C : Nat} {J : β → World → Prop} (h : AbX B C J) {s : β} {W : World} (hs : J s W) {l : Nat} (o : Obj) (h1 : B ≤ l) (h2 : l ≤ C) : J s (W.putObj l o) := h s W _ (some l) hs (grownBy_putObj' W l o) (fun r e => by cases e; exact ⟨h1, h2⟩)
theorem AbX.narrow {β : Type} {B C B' C' : Nat} {J : β → World → Prop} (h : AbX B C J) (h1 : B ≤ B') (h2 : C' ≤ C) : AbX B' C' J := fun s W W' row hs hg hr => h s W W' row hs hg fun r e => by have := hr r e; omega
/-- the blocks from B to C lie as they lay -/
def KB (B C : Nat) (W W' : World) : Prop := ∀ b, B ≤ b → b ≤ C → b < W.heap.size → W'.heap[b]? = W.heap[b]?
theorem KT.kb {T : Nat → Prop} {B C : Nat} {W W' : World} (h : KT T W W') (hT : ∀ b, B ≤ b → b ≤ C → ¬ T b) : KB B C W W' := fun b h1 h2 h3 => h.block b h3 (hT b h1 h2)
/-- the contract of an iterator that is entered with B blocks and has the blocks from B to C for its own; T: what a round may touch; R x W0 W1: x is handed over in W1, W0 being the world in which the rounds' word held last -/
def SeqX {α : Type} (F : Fence) (n : Nat) (P : Program) (g : Nat) (lb : Array Value) (encs : α → Array Value) (B C : Nat) (T : Nat → Prop) (R : α → World → World → Prop) (Pp : List α → α → Prop) (S Sp : List α → Prop) (w : World) : Prop :=
  ∀ (l : Nat) (J Jx : List α → World → Prop) (W : World), Below w.heap.size w W → W.heap.size = B → AbX B C J → AbX B C Jx →
    (∀ pre x W0 W1, J pre W0 → C < W0.heap.size → R x W0 W1 → Pp pre x → YieldAt F (n - 1) P l (encs x) W1 fun e W' =>
      (e = .returned (.bool true) ∧ J (pre ++ [x]) W' ∧ KT T W1 W') ∨ (e = .returned (.bool false) ∧ Jx (pre ++ [x]) W' ∧ KB B C W1 W')) →
    J [] W →
    CallsIn F n P g (#[.func (.yield l) #[] #[]] ++ lb) W fun e W' => (∃ v, e = .returned v) ∧ ((∃ xs, S xs ∧ J xs W') ∨ (∃ pre, Sp pre ∧ Jx pre W'))
/-- how a round may be left -/
def xPost {α : Type} (T : Nat → Prop) (D C : Nat) (I : List α → World → Prop) (Ix : Code → List α → World → Prop) (xs : List α) (W : World) : Exit → Act → World → Prop
  | .normal, _, W' => KT T W W' ∧ I xs W'
  | .ret, _, W' => KB D C W W' ∧ Ix .ret xs W'
  | .exit id, _, W' => KB D C W W' ∧ Ix (.exit id) xs W'
  | .goto t, _, W' => KB D C W W' ∧ Ix (.goto t) xs W'
  | .panic _, _, _ => False
  | .outgrown, _, _ => False
theorem putObj_size (W : World) (l : Nat) (o : Obj) : (W.putObj l o).heap.size = W.heap.size := by simp [World.putObj]
/-- a block is turned, and turned back behind a round -/
theorem KT.round {T : Nat → Prop} {W1 W3 : World} {l : Nat} {o1 o2 : Obj} (hl : W1.heap[l]? = some o1) (h : KT T (W1.putObj l o2) W3) : KT T W1 (W3.putObj l o1) := by
  have hlt := (Array.getElem?_eq_some_iff.1 hl).1
  have hs := h.size
  rw [putObj_size] at hs
  refine ⟨h.os, h.tape, h.output, by rw [putObj_size]; exact hs, fun k hk hT => ?_⟩
  by_cases e : k = l
  · subst e
    rw [World.putObj_heap_same (by omega), hl]
  · rw [World.putObj_heap_other e, h.block k (by rw [putObj_size]; exact hk) hT, World.putObj_heap_other e]
variable {F : Fence} {n : Nat} {P : Program}
/-- the law for the caller -/
theorem range_own {α : Type} {g : Operand} {ps : Array Tmp} {assign body : Code} {Q : Exit → Act → World → Prop} {a : Act} {w : World}
    (hro : F.round = none) (h1 : 1 ≤ n) {gf : Nat} {lb : Array Value} (hg : a.eval g = .func (.func gf) #[] lb) (hFg : F.fn gf) (eg : ∀ args w, (callFunc gf args).run P w = .ok (.enter gf args) w)
    {encs : α → Array Value} {C : Nat} {T : Nat → Prop} {R : α → World → World → Prop} {Pp : List α → α → Prop} {S Sp : List α → Prop} {w0 : World}
    (hseq : SeqX F (n - 1) P gf lb encs (w.heap.size + 2) C T R Pp S Sp w0) (hb0 : Below w0.heap.size w0 w) (hps : ∀ x, (encs x).size = ps.size)
    (hC : w.heap.size + 2 ≤ C) (hT : ∀ b, w.heap.size ≤ b → b ≤ C → ¬ T b)
    (hR : ∀ x W0 W1 l o, R x W0 W1 → l < W0.heap.size → R x (W0.putObj l o) (W1.putObj l o)) (hRl : ∀ x W0 W1 l, R x W0 W1 → l < W0.heap.size → W1.heap[l]? = W0.heap[l]?)
    (I : List α → World → Prop) (Ix : Code → List α → World → Prop) (hI : AbX w.heap.size C I) (hIx : ∀ c, AbX w.heap.size C (Ix c)) (h0 : I [] w) (a₁ : α → Act)
    (hassign : ∀ (l : Nat) (x : α) (W : World) (K : Act → World → Prop), K (a₁ x) W →
      assign.wpIn (F.inRound l) (n - 1 - 1) P (Exit.then K (fun _ _ _ => False)) { tmps := (ps.zip (encs x)).foldl (fun t (p, v) => t.setIfInBounds p v) a.tmps, defers := [] } W)
    (hbody : ∀ (l : Nat) (pre : List α) (x : α) (W0 W : World), I pre W0 → C < W0.heap.size → R x W0 W → Pp pre x → body.wpIn (F.inRound l) (n - 1 - 1) P (xPost T w.heap.size C I Ix (pre ++ [x]) W) (a₁ x) W)
    (hdone : ∀ (xs : List α) (W : World), S xs → I xs W → W.heap[w.heap.size]? = some (.deferred (some [])) → Q .normal { a with defers := { target := .collected w.heap.size, args := #[] } :: a.defers } W)
    (hstop : ∀ (c : Code) (pre : List α) (W : World), Sp pre → Ix c pre W → W.heap[w.heap.size]? = some (.deferred (some [])) → c.wpIn F n P Q { a with defers := { target := .collected w.heap.size, args := #[] } :: a.defers } W) :
    (Code.rangeFunc g ps assign body).wpIn F n P Q a w := by
  obtain ⟨D, hD⟩ : ∃ D, w.heap.size = D := ⟨_, rfl⟩
  refine wpIn_rangeFunc fun fn hfn => ?_
  rw [hro]
  let rec_ : LoopState → Option Code → Loop := fun st pe => { state := st, pending := pe, fn, tmps := a.tmps, params := ps, assign, body, defers := D }
  obtain ⟨V, hV⟩ : ∃ V, (w.alloc (.deferred (some []))).alloc (.loop (rec_ .ready none)) = V := ⟨_, rfl⟩
  have hVs : V.heap.size = D + 2 := by rw [← hV, World.size_alloc, World.size_alloc, hD]
  have hVl : V.heap[D + 1]? = some (.loop (rec_ .ready none)) := by
    have := World.alloc_heap_new (w.alloc (.deferred (some []))) (.loop (rec_ .ready none))
    rw [World.size_alloc, hD, hV] at this; exact this
  have hVd : V.heap[D]? = some (.deferred (some [])) := by
    have := World.alloc_heap_new w (.deferred (some []))
    rw [hD] at this
    rw [← hV, Below.heap_alloc _ _ _ (by rw [World.size_alloc]; omega)]; exact this
  have hVI : I [] V := by rw [← hV]; exact hI.alloc (hI.alloc h0 _) _
  have hVb : Below w0.heap.size w0 V := by
    rw [← hV]; exact (hb0.alloc hb0.size _).alloc (by rw [World.size_alloc]; have := hb0.size; omega) _
  rw [hD] at hseq hC hT hI hIx hbody
  refine ⟨D + 1, [{ target := .collected D, args := #[] }], V, { target := .fn (.func gf) lb, args := #[.func (.yield (D + 1)) #[] #[]] }, V, gf, #[.func (.yield (D + 1)) #[] #[]] ++ lb, V, ?_, ?_, ?_, ?_, fun _ => h1, ?_⟩
  · rw [run_enterLoop_outer, ← hV, hD]
  · simp only [resolve, hg]; simp [go_sem]
  · intro f' hf'; simp [Target.leads] at hf'; subst hf'; exact hFg
  · simp [invoke, go_sem, eg]
  have keep : ∀ {s : List α} {A A' : World} {row : Option Nat} {r : Loop}, A.grownBy A' row → (∀ r, row = some r → D + 2 ≤ r ∧ r ≤ C) → A.heap[D + 1]? = some (.loop r) ∧ A.heap[D]? = some (.deferred (some [])) → A'.heap[D + 1]? = some (.loop r) ∧ A'.heap[D]? = some (.deferred (some [])) := by
    intro s A A' row r hgr hr ⟨e1, e2⟩
    exact ⟨(hgr.block _ (Array.getElem?_eq_some_iff.1 e1).1 fun e => by have := hr _ e.symm; omega).trans e1, (hgr.block _ (Array.getElem?_eq_some_iff.1 e2).1 fun e => by have := hr _ e.symm; omega).trans e2⟩
  refine (hseq (D + 1) (fun pre W => I pre W ∧ W.heap[D + 1]? = some (.loop (rec_ .ready none)) ∧ W.heap[D]? = some (.deferred (some [])))
    (fun pre W => ∃ c, Ix c pre W ∧ W.heap[D + 1]? = some (.loop (rec_ .done (some c))) ∧ W.heap[D]? = some (.deferred (some [])))
    V hVb hVs (fun s A A' row hs hgr hr => ⟨hI s A A' row hs.1 hgr fun r e => by have := hr r e; omega, keep (s := s) hgr hr hs.2⟩)
    (fun s A A' row hs hgr hr => by
      obtain ⟨c, hc, hk⟩ := hs
      exact ⟨c, hIx c s A A' row hc hgr fun r e => by have := hr r e; omega, keep (s := s) hgr hr hk⟩) ?_ ⟨hVI, hVl, hVd⟩).mono ?_
  · rintro pre x W0 W1 ⟨hi, hl0, hk0⟩ hCs hRx hlen
    have hs0 : D + 1 < W0.heap.size := by omega
    have hl : W1.heap[D + 1]? = some (.loop (rec_ .ready none)) := (hRl x W0 W1 _ hRx hs0).trans hl0
    have hk : W1.heap[D]? = some (.deferred (some [])) := (hRl x W0 W1 _ hRx (by omega)).trans hk0
    have hs1 : D + 1 < W1.heap.size := (Array.getElem?_eq_some_iff.1 hl).1
    refine ⟨fn, _, assign, body, run_yield (P := P) (args := encs x) hl (hps x), roundIn_of_wpIn hfn (hassign _ x W1 _ ⟨_, run_beginRound hl rfl, ?_⟩)⟩
    have hi2 : I pre (W0.putObj (D + 1) (.loop { rec_ .ready none with state := .busy })) := hI.put hi _ (by omega) (by omega)
    refine wpIn_mono (hbody (D + 1) pre x _ _ hi2 (by rw [putObj_size]; exact hCs) (hR x W0 W1 _ _ hRx hs0) hlen) ?_
    have fin : ∀ (jump : Option Code) (W3 : World), KB D C (W1.putObj (D + 1) (.loop { rec_ .ready none with state := .busy })) W3 →
        (Instr.endRound (D + 1) jump).run P W3 = .ok (.bool jump.isNone) (W3.putObj (D + 1) (.loop (rec_ (if jump.isNone then .ready else .done) jump))) ∧
        (W3.putObj (D + 1) (.loop (rec_ (if jump.isNone then .ready else .done) jump))).heap[D + 1]? = some (.loop (rec_ (if jump.isNone then .ready else .done) jump)) ∧
        (W3.putObj (D + 1) (.loop (rec_ (if jump.isNone then .ready else .done) jump))).heap[D]? = some (.deferred (some [])) := fun jump W3 hkt => by
      have l2 : W3.heap[D + 1]? = some (.loop { rec_ .ready none with state := .busy }) := (hkt _ (by omega) (by omega) (by rw [putObj_size]; exact hs1)).trans (World.putObj_heap_same hs1)
      have k2 : W3.heap[D]? = some (.deferred (some [])) := (hkt _ (by omega) (by omega) (by rw [putObj_size]; omega)).trans ((World.putObj_heap_other (by omega)).trans hk)
      exact ⟨run_endRound (P := P) jump l2, World.putObj_heap_same (Array.getElem?_eq_some_iff.1 l2).1, (World.putObj_heap_other (by omega)).trans k2⟩
    have kbb : ∀ (W3 : World) (o : Obj), KB D C (W1.putObj (D + 1) (.loop { rec_ .ready none with state := .busy })) W3 → KB (D + 2) C W1 (W3.putObj (D + 1) o) := fun W3 o hk3 b h1 h2 h3 => by
      rw [World.putObj_heap_other (by omega), hk3 b (by omega) h2 (by rw [putObj_size]; exact h3), World.putObj_heap_other (by omega)]
    rintro e a3 W3 hp
    cases e with
    | normal =>
      obtain ⟨hkt, hi3⟩ := hp
      obtain ⟨f1, f2, f3⟩ := fin none W3 (hkt.kb hT)
      exact ⟨_, _, f1, .inl ⟨rfl, ⟨hI.put hi3 _ (by omega) (by omega), f2, f3⟩, hkt.round hl⟩⟩
    | ret =>
      obtain ⟨hkt, hi3⟩ := hp
      obtain ⟨f1, f2, f3⟩ := fin (some .ret) W3 hkt
      exact ⟨_, _, f1, .inr ⟨rfl, ⟨.ret, (hIx _).put hi3 _ (by omega) (by omega), f2, f3⟩, kbb W3 _ hkt⟩⟩
    | exit id =>
      obtain ⟨hkt, hi3⟩ := hp
      obtain ⟨f1, f2, f3⟩ := fin (some (.exit id)) W3 hkt
      exact ⟨_, _, f1, .inr ⟨rfl, ⟨.exit id, (hIx _).put hi3 _ (by omega) (by omega), f2, f3⟩, kbb W3 _ hkt⟩⟩
    | goto t =>
      obtain ⟨hkt, hi3⟩ := hp
      obtain ⟨f1, f2, f3⟩ := fin (some (.goto t)) W3 hkt
      exact ⟨_, _, f1, .inr ⟨rfl, ⟨.goto t, (hIx _).put hi3 _ (by omega) (by omega), f2, f3⟩, kbb W3 _ hkt⟩⟩
    | panic ch => exact hp.elim
    | outgrown => exact hp.elim
  · rintro e W2 ⟨⟨v, rfl⟩, (⟨xs, hS, hi, hl, hk⟩ | ⟨pre, hSp, c, hi, hl, hk⟩)⟩
    · have hq := hdone xs (W2.putObj (D + 1) (.loop { rec_ .ready none with state := .exhausted })) hS (hI.put hi _ (by omega) (by omega)) (by rw [hD, World.putObj_heap_other (by omega)]; exact hk)
      rw [hD] at hq
      exact ⟨none, _, run_endLoop (P := P) hl (by simp [rec_]), hq⟩
    · have hq := hstop c pre (W2.putObj (D + 1) (.loop { rec_ .done (some c) with state := .exhausted })) hSp ((hIx c).put hi _ (by omega) (by omega)) (by rw [hD, World.putObj_heap_other (by omega)]; exact hk)
      rw [hD] at hq
      exact ⟨some c, _, run_endLoop (P := P) hl (by simp [rec_]), hq⟩
/-- a round is what it is, however deep -/
theorem yield_any (hd : F.depth = none) {m : Nat} (m' : Nat) {l : Nat} {args : Array Value} {W : World} {R : Ending → World → Prop} (h : YieldAt F m P l args W R) : YieldAt F m' P l args W R := by
  obtain ⟨fn, tmps, assign, body, hy, hF, hr⟩ := h
  refine ⟨fn, tmps, assign, body, hy, hF, fun c cs _ => hr c cs ?_⟩
  intro d e
  rw [hd] at e
  cases e
end Go.Proofs.YtbhhbnhoknlonaaDoor
