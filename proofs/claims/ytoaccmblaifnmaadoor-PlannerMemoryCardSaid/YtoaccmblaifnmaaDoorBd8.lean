/-
  The document's planner: all: the state while orders are gathered.
-/
import Derived.WalkKit
import Ieee.Arith
import Derived.WalkLawsBesides
import Derived.Laws.FloatArith
import Derived.Test.YtoaccmblaifnmaaDoorProg
import Derived.RegionTactic
import Derived.Outline
import Derived.Lib.Mul64
import Derived.Laws.Bits64b
import Derived.Deep.QuietTactic
import Derived.BigQuiet
import Derived.WalkSmall
import Derived.Deep.CutBlock
import Derived.Deep.DeepCutAuto
import Derived.Laws.Rows
import Derived.Lib.ItoaNum
import Derived.Laws.IdiomStrings
import Derived.Deep.RegionHeld3
import Derived.Lib.SmallJoins
import Derived.Lib.HexFns
import Derived.Test.YtoaccmblaifnmaaDoorRows
import Derived.LaidEql
import Derived.LaidLaws
import Derived.LaidHandle
import Derived.Stop.Joined
import Derived.Deep.RegionWith
import Derived.Recover
import Derived.RegionDies
import Derived.Laws.CopyOwn
import Derived.Lib.AppendIntMem
import Derived.Deep.RegionHeldLaw
import Derived.Maps.AppendAt
import Derived.Laws.OwnMore
import Derived.RangeFuncNested
import Derived.RangeFuncBound
import Derived.RangeFuncCalls
import Derived.RangeFuncLeaves
import Derived.RangeFuncBox
import Derived.Shelf.Abstract
import Derived.Shelf.RegionOpen
import Derived.OwnWalkIn
import Derived.TacticsInMore
import Derived.LoopNIn
import Derived.LoopIn
import Derived.Laws.AppendOwn
import Derived.OwnWalk
import Derived.BigCall
import Derived.Laws.ComplexArith
import Derived.Laws.MakeOwn
import Derived.MapKept
import Derived.Carry
import Derived.ChangeAlike
import Derived.Deep.RegionLaw
import Derived.Defers
import Derived.Test.YtoaccmblaifnmaaDoorBd7
import Derived.Test.YtoaccmblaifnmaaDoorBd4
namespace Go.Proofs.YtoaccmblaifnmaaDoor
open Flo Go.RowKit Tr
/-- the state while orders are gathered; the policy's box is g -/
structure SA (D p : Int) (F : List Int) (fv : Value) (B kb g : Nat) (T U : Nat → Prop) (W : World) (H' : List Nat) (T' U' : Nat → Prop) (P : List Tr) (ss : List Value) (kv : Value) (w : World) : Prop where
  ks : KS D p F B kb H' T' U' w
  mv : Mv T U W T' U' w
  bp : Bp w g D fv p
  lo : Lrw (g + 1) U' w kv P ss
  nt : ∀ b, kv.ownBlock = some b → ¬ T' b
  lc : ∀ b, T' b ∨ U' b → b ≠ g
  hg : W.heap.size = g
/-- what the document's all answers -/
def DaE (D p : Int) (F : List Int) (B kb n top : Nat) (T U : Nat → Prop) (W : World) (e : Ending) (W' : World) : Prop :=
  ∃ kv ss H' T' U', e = .returned kv ∧ KS D p F B kb H' T' U' W' ∧ Mv T U W T' U' W' ∧ Lrw W.heap.size U' W' kv ((Pl.als D F p n).take top) ss ∧ (∀ b, kv.ownBlock = some b → ¬ T' b)
def DAL (D p : Int) (F : List Int) (fv : Value) (B kb : Nat) (V : Nat → Prop) (n : Nat) : Prop :=
  ∀ (top : Nat) (H : List Nat) (T U : Nat → Prop) (W : World), 1 ≤ top → top ≤ 4096 → KS D p F B kb H T U W → FlR V W fv F →
    Calls Tryd.prog 51 #[.pointer (some ⟨kb, 0, none⟩), .int .i64 (n : Int), .agg #[.int .i64 D, fv, .int .i64 p], .int .i64 (top : Int)] W (DaE D p F B kb n top T U W)
section
variable {D p : Int} {F : List Int} {fv kv kv' : Value} {B kb g : Nat} {T U : Nat → Prop} {W w w' : World} {H' : List Nat} {T' U' : Nat → Prop} {P : List Tr} {ss : List Value}
theorem SA.lt (h : SA D p F fv B kb g T U W H' T' U' P ss kv w) : g < w.heap.size := h.bp.lt
theorem SA.ktn {X : Nat → Prop} (h : SA D p F fv B kb g T U W H' T' U' P ss kv w) (k : KT X w w') (hX : ∀ b, X b → w.heap.size ≤ b) : SA D p F fv B kb g T U W H' T' U' P ss kv w' := by
  have hT : ∀ b, T' b → ¬ X b := fun b hb hx => by have := (h.ks.tlt hb).2; have := hX b hx; omega
  have hU : ∀ b, U' b → ¬ X b := fun b hb hx => by have := (h.ks.ult hb).2.1; have := hX b hx; omega
  refine ⟨h.ks.kt k (fun b hx => ⟨fun t => hT b t hx, fun t => hU b t hx⟩), h.mv.trans ⟨⟨k.os, k.tape, k.output, k.size, fun b hb _ => k.block b hb (fun hx => by have := hX b hx; omega)⟩, fun _ q => .inl q, fun _ q => q, fun _ q => .inl q⟩, h.bp.kt k (fun hx => by have := hX g hx; have := h.lt; omega), h.lo.kt k (fun b hx => ⟨fun e => by have := (h.lo.ge e).2; have := hX b hx; omega, fun t => hU b t hx⟩), h.nt, h.lc, h.hg⟩
theorem SA.bel (h : SA D p F fv B kb g T U W H' T' U' P ss kv w) (k : Below w.heap.size w w') : SA D p F fv B kb g T U W H' T' U' P ss kv w' := h.ktn (X := fun _ => False) (KT.of_below k) (fun _ h => h.elim)
/-- behind a call that changes what is known -/
theorem SA.call {H2 : List Nat} {T2 U2 : Nat → Prop} (h : SA D p F fv B kb g T U W H' T' U' P ss kv w) (k2 : KS D p F B kb H2 T2 U2 w') (m2 : Mv T' U' w T2 U2 w') : SA D p F fv B kb g T U W H2 T2 U2 P ss kv w' := by
  have hgl := h.lt
  refine ⟨k2, h.mv.trans m2, h.bp.kt m2.kt (fun t => h.lc g (.inl t) rfl), (h.lo.kt m2.kt fun b t => ⟨fun e => h.nt b e t, fun u => (h.ks.ult u).2.2 t⟩).wid m2.uu (fun b e u => ?_), fun b e t => ?_, fun b hb => ?_, h.hg⟩
  · rcases m2.un b u with q | q
    · exact h.lo.nu b e q
    · have := (h.lo.ge e).2; omega
  · rcases m2.tn b t with q | q
    · exact h.nt b e q
    · have := (h.lo.ge e).2; omega
  · rcases hb with q | q
    · rcases m2.tn b q with q | q
      · exact h.lc b (.inl q)
      · omega
    · rcases m2.un b q with q | q
      · exact h.lc b (.inr q)
      · omega
/-- the policy's list, as it came -/
theorem SA.fl {V : Nat → Prop} (h : SA D p F fv B kb g T U W H' T' U' P ss kv w) (hF : FlR V W fv F) (hV : ∀ b, V b → b < B) (hT : ∀ b, T b → B ≤ b) : FlR V w fv F :=
  hF.kt h.mv.kt (fun b t v => by have := hV b v; have := hT b t; omega)
/-- one order more, which lies in blocks of the known or in new ones -/
theorem SA.push {w6 w8 : World} {t : Tr} {s : Value} {o : Obj} (h : SA D p F fv B kb g T U W H' T' U' P ss kv w) (B1 : Below w.heap.size w w6) (hs : ∃ a l c, s = .slice a l c)
    (ho : Os (fun b => (U' b ∧ b < w.heap.size) ∨ w.heap.size ≤ b) w6 t (.agg #[.int .i64 t.k, .int .i64 t.n, s]))
    (hown : w8.ownsRow (g + 1) 24 3 kv' (P.length + 1) (cso P ss ++ [.int .i64 t.k, .int .i64 t.n, s])) (hg : (w6.alloc o).grownBy w8 kv.ownBlock) (hn : ∀ b, kv'.ownBlock = some b → kv.ownBlock = some b ∨ (w6.alloc o).heap.size ≤ b) :
    ∃ U2, SA D p F fv B kb g T U W H' T' U2 (P ++ [t]) (ss ++ [s]) kv' w8 ∧ KT (fun b => kv.ownBlock = some b) w w8 ∧ (∀ b, U' b → U2 b) ∧ (∀ b, U2 b → U' b ∨ w.heap.size ≤ b) := by
  have BA : Below w6.heap.size w6 (w6.alloc o) := (Below.refl _ _).alloc (Nat.le_refl _) _
  have B6 : Below w.heap.size w (w6.alloc o) := btr B1 BA
  have hA : SA D p F fv B kb g T U W H' T' U' P ss kv (w6.alloc o) := h.bel B6
  have hsz := B1.size
  have hU2 : ∀ b, (U' b ∨ (w.heap.size ≤ b ∧ b < w6.heap.size)) → b < w6.heap.size := fun b hb => by
    rcases hb with q | q
    · have := (h.ks.ult q).2.1; omega
    · exact q.2
  have hlo2 : Lrw (g + 1) (fun b => U' b ∨ (w.heap.size ≤ b ∧ b < w6.heap.size)) (w6.alloc o) kv P ss := hA.lo.wid (fun _ q => .inl q) (fun b e q => by
    rcases q with q | q
    · exact h.lo.nu b e q
    · have := (h.lo.ge e).2; omega)
  have ho2 : Os (fun b => U' b ∨ (w.heap.size ≤ b ∧ b < w6.heap.size)) (w6.alloc o) t (.agg #[.int .i64 t.k, .int .i64 t.n, s]) := by
    refine Os.keep2 (fun b hb hl => ?_) (fun b hb hl => BA.block b hl) _ _ ho
    rcases hb with q | q
    · exact .inl q.1
    · exact .inr ⟨q, hl⟩
  have hlo3 := hlo2.snoc hs ho2 (fun b hb => Nat.lt_of_lt_of_le (hU2 b hb) BA.size) hown hg hn
  have ktA : KT (fun b => kv.ownBlock = some b) (w6.alloc o) w8 := KT.grown hg (fun b e => e.symm ▸ rfl)
  have kt8 : KT (fun b => kv.ownBlock = some b) w w8 := (KT.of_below B6).trans ktA
  have hgl := h.lt
  refine ⟨fun b => U' b ∨ (w.heap.size ≤ b ∧ b < w6.heap.size), ⟨?_, ?_, ?_, hlo3, fun b e t => ?_, fun b hb => ?_, h.hg⟩, kt8, fun _ q => .inl q, fun b q => ?_⟩
  · refine (hA.ks.kt ktA fun b e => ⟨hA.nt b e, hA.lo.nu b e⟩).wid (fun _ q => .inl q) (fun b q => ?_)
    rcases q with q | q
    · have := hA.ks.ult q
      exact ⟨this.1, Nat.lt_of_lt_of_le this.2.1 ktA.size, this.2.2⟩
    · have h2 := h.ks.size
      have h3 := ktA.size
      have h4 := BA.size
      exact ⟨by omega, by omega, fun t => by have := (h.ks.tlt t).2; omega⟩
  · refine ⟨⟨kt8.os.trans h.mv.kt.os, kt8.tape.trans h.mv.kt.tape, kt8.output.trans h.mv.kt.output, Nat.le_trans h.mv.kt.size kt8.size, fun b hb hn2 => (kt8.block b (Nat.lt_of_lt_of_le hb h.mv.kt.size) (fun e => by have := (h.lo.ge e).1; have := h.hg; omega)).trans (h.mv.kt.block b hb hn2)⟩, h.mv.tn, fun b q => .inl (h.mv.uu b q), fun b q => ?_⟩
    rcases q with q | q
    · exact h.mv.un b q
    · exact .inr (Nat.le_trans h.mv.kt.size q.1)
  · exact hA.bp.kt ktA (fun e => by have := (h.lo.ge e).1; omega)
  · rcases hn b e with q | q
    · exact h.nt b q t
    · have := (h.ks.tlt t).2; have := B6.size; omega
  · rcases hb with q | q | q
    · exact h.lc b (.inl q)
    · exact h.lc b (.inr q)
    · omega
  · rcases q with q | q
    · exact .inl q
    · exact .inr q.1
end
end Go.Proofs.YtoaccmblaifnmaaDoor
