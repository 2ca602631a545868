/-
  The document's planner: what a call may change; what its cheapest is asked.
-/
import Derived.WalkKit
import Ieee.Arith
import Derived.WalkLawsBesides
import Derived.Laws.FloatArith
import Derived.Test.YtoaccmblaifnmaaDoorProg
import Derived.RegionTactic
import Derived.Outline
import Derived.Lib.Mul64
import Derived.Laws.Bits64b
import Derived.Deep.QuietTactic
import Derived.BigQuiet
import Derived.WalkSmall
import Derived.Deep.CutBlock
import Derived.Deep.DeepCutAuto
import Derived.Laws.Rows
import Derived.Lib.ItoaNum
import Derived.Laws.IdiomStrings
import Derived.Deep.RegionHeld3
import Derived.Lib.SmallJoins
import Derived.Lib.HexFns
import Derived.Test.YtoaccmblaifnmaaDoorRows
import Derived.LaidEql
import Derived.LaidLaws
import Derived.LaidHandle
import Derived.Stop.Joined
import Derived.Deep.RegionWith
import Derived.Recover
import Derived.RegionDies
import Derived.Laws.CopyOwn
import Derived.Lib.AppendIntMem
import Derived.Deep.RegionHeldLaw
import Derived.Maps.AppendAt
import Derived.Laws.OwnMore
import Derived.RangeFuncNested
import Derived.RangeFuncBound
import Derived.RangeFuncCalls
import Derived.RangeFuncLeaves
import Derived.RangeFuncBox
import Derived.Shelf.Abstract
import Derived.Shelf.RegionOpen
import Derived.OwnWalkIn
import Derived.TacticsInMore
import Derived.LoopNIn
import Derived.LoopIn
import Derived.Laws.AppendOwn
import Derived.OwnWalk
import Derived.BigCall
import Derived.Laws.ComplexArith
import Derived.Laws.MakeOwn
import Derived.MapKept
import Derived.Carry
import Derived.ChangeAlike
import Derived.Deep.RegionLaw
import Derived.Test.YtoaccmblaifnmaaDoorBd5
namespace Go.Proofs.YtoaccmblaifnmaaDoor
open Flo Go.RowKit Tr
/-- what became of the known, of the orders' blocks and of the world since W -/
structure Mv (T U : Nat → Prop) (W : World) (T' U' : Nat → Prop) (W' : World) : Prop where
  kt : KT T W W'
  tn : ∀ b, T' b → T b ∨ W.heap.size ≤ b
  uu : ∀ b, U b → U' b
  un : ∀ b, U' b → U b ∨ W.heap.size ≤ b
theorem Mv.refl (T U : Nat → Prop) (W : World) : Mv T U W T U W := ⟨KT.refl _ _, fun _ h => .inl h, fun _ h => h, fun _ h => .inl h⟩
theorem Mv.trans {T U T1 U1 T2 U2 : Nat → Prop} {W W1 W2 : World} (h : Mv T U W T1 U1 W1) (k : Mv T1 U1 W1 T2 U2 W2) : Mv T U W T2 U2 W2 :=
  ⟨⟨k.kt.os.trans h.kt.os, k.kt.tape.trans h.kt.tape, k.kt.output.trans h.kt.output, Nat.le_trans h.kt.size k.kt.size, fun b hb hn => (k.kt.block b (Nat.lt_of_lt_of_le hb h.kt.size) (fun t => by
      rcases h.tn b t with t | t
      · exact hn t
      · omega)).trans (h.kt.block b hb hn)⟩, fun b hb => by
    rcases k.tn b hb with t | t
    · exact h.tn b t
    · exact .inr (Nat.le_trans h.kt.size t), fun b hb => k.uu b (h.uu b hb), fun b hb => by
    rcases k.un b hb with t | t
    · exact h.un b t
    · exact .inr (Nat.le_trans h.kt.size t)⟩
theorem Mv.bel {T U T1 U1 : Nat → Prop} {W W1 W2 : World} (h : Mv T U W T1 U1 W1) (k : Below W1.heap.size W1 W2) : Mv T U W T1 U1 W2 := h.trans ⟨KT.of_below k, fun _ h => .inl h, fun _ h => h, fun _ h => .inl h⟩
/-- a change of a block that is new -/
theorem Mv.loc {T U T1 U1 : Nat → Prop} {W W1 W2 : World} {b : Nat} (h : Mv T U W T1 U1 W1) (k : KT (fun x => x = b) W1 W2) (hb : W.heap.size ≤ b) : Mv T U W T1 U1 W2 :=
  ⟨⟨k.os.trans h.kt.os, k.tape.trans h.kt.tape, k.output.trans h.kt.output, Nat.le_trans h.kt.size k.size, fun x hx hn => (k.block x (Nat.lt_of_lt_of_le hx h.kt.size) (by omega)).trans (h.kt.block x hx hn)⟩, h.tn, h.uu, h.un⟩
/-- more blocks for the orders: new ones -/
theorem Mv.wid {T U T1 U1 U2 : Nat → Prop} {W W1 : World} (h : Mv T U W T1 U1 W1) (h1 : ∀ b, U1 b → U2 b) (h2 : ∀ b, U2 b → U1 b ∨ W.heap.size ≤ b) : Mv T U W T1 U2 W1 := ⟨h.kt, h.tn, fun b hb => h1 b (h.uu b hb), fun b hb => by
    rcases h2 b hb with t | t
    · exact h.un b t
    · exact .inr t⟩
def tc (D : Int) (F : List Int) (p : Int) (m : Nat) : Nat := Pl.tcs (Pl.ch D F p m)
/-- what is known: right, each length once -/
structure KS (D p : Int) (F : List Int) (B kb : Nat) (H : List Nat) (T U : Nat → Prop) (W : World) : Prop where
  kg : ∃ vN vO vC ss, Kg B kb vN vO vC H (H.map (Pl.ch D F p)) ss (H.map (tc D F p)) U W ∧ T = Tk kb vN vO vC
  nd : H.Nodup
  dm : ∀ m ∈ H, Pl.Dm p m
section
variable {D p : Int} {F : List Int} {B kb : Nat} {H : List Nat} {T U : Nat → Prop} {W W' : World}
theorem KS.kt {T' : Nat → Prop} (h : KS D p F B kb H T U W) (k : KT T' W W') (hT : ∀ b, T' b → ¬ T b ∧ ¬ U b) : KS D p F B kb H T U W' := by
  obtain ⟨vN, vO, vC, ss, h1, rfl⟩ := h.kg
  exact ⟨⟨vN, vO, vC, ss, h1.kt k hT, rfl⟩, h.nd, h.dm⟩
theorem KS.bel (h : KS D p F B kb H T U W) (k : Below W.heap.size W W') : KS D p F B kb H T U W' := h.kt (T' := fun _ => False) (KT.of_below k) (fun _ h => h.elim)
theorem KS.loc {b : Nat} (h : KS D p F B kb H T U W) (k : KT (fun x => x = b) W W') (hT : ¬ T b) (hU : ¬ U b) : KS D p F B kb H T U W' := h.kt k (fun x e => by cases e; exact ⟨hT, hU⟩)
theorem KS.tlt (h : KS D p F B kb H T U W) {b : Nat} (hb : T b) : B ≤ b ∧ b < W.heap.size := by
  obtain ⟨vN, vO, vC, ss, h1, rfl⟩ := h.kg
  exact h1.tk hb
theorem KS.ult (h : KS D p F B kb H T U W) {b : Nat} (hb : U b) : B ≤ b ∧ b < W.heap.size ∧ ¬ T b := by
  obtain ⟨vN, vO, vC, ss, h1, rfl⟩ := h.kg
  exact h1.ub b hb
theorem KS.size (h : KS D p F B kb H T U W) : B < W.heap.size := by
  obtain ⟨vN, vO, vC, ss, h1, rfl⟩ := h.kg
  have := h1.kB
  have := h1.lt
  omega
theorem KS.wid {U' : Nat → Prop} (h : KS D p F B kb H T U W) (hU : ∀ b, U b → U' b) (ub : ∀ b, U' b → B ≤ b ∧ b < W.heap.size ∧ ¬ T b) : KS D p F B kb H T U' W := by
  obtain ⟨vN, vO, vC, ss, h1, rfl⟩ := h.kg
  exact ⟨⟨vN, vO, vC, ss, h1.wid hU ub, rfl⟩, h.nd, h.dm⟩
/-- few are known -/
theorem KS.few (h : KS D p F B kb H T U W) : H.length ≤ 16385 := by
  have h1 : H ⊆ List.range 16385 := fun m hm => by
    have := (h.dm m hm).2.1
    rw [List.mem_range]; omega
  have := List.Nodup.length_le_of_subset h.nd h1
  simpa using this
end
/-- an order among the known, read -/
theorem Kg.atO {B kb : Nat} {vN vO vC : Value} {lN lC : List Nat} {tO : List Tr} {ss : List Value} {U : Nat → Prop} {w : World} (h : Kg B kb vN vO vC lN tO ss lC U w) {j : Nat} {t : Tr} (hj : tO[j]? = some t) :
    ∃ g cap a c, vO = .slice (some ⟨g, 0, none⟩) tO.length cap ∧ w.cell? ⟨g, j * 3, none⟩ = some (.int .i64 t.k) ∧ w.cell? ⟨g, j * 3 + 1, none⟩ = some (.int .i64 t.n) ∧ w.cell? ⟨g, j * 3 + 2, none⟩ = some (.slice a t.ks.length c) ∧ Os U w t (.agg #[.int .i64 t.k, .int .i64 t.n, .slice a t.ks.length c]) := by
  have hl : j < tO.length := by
    by_cases h1 : j < tO.length
    · exact h1
    · rw [List.getElem?_eq_none (by omega)] at hj; cases hj
  have hs : ss[j]? = some (ss[j]'(by rw [h.len]; exact hl)) := List.getElem?_eq_getElem _
  have hk := h.kid j t _ hj hs
  obtain ⟨a, c, e⟩ := hk.shape
  have es : ss[j]'(by rw [h.len]; exact hl) = .slice a t.ks.length c := by injection e with e; simpa using e
  rw [es] at hs hk
  rcases h.oO.2 with ⟨_, e0⟩ | ⟨g, cap, cur, e', hbg, hh, hnc, _, hsz, htk⟩
  · omega
  · have hc : ∀ i, i < 3 → w.cell? ⟨g, j * 3 + i, none⟩ = [Value.int .i64 t.k, .int .i64 t.n, .slice a t.ks.length c][i]? := fun i hi => by
      rw [← cso_at tO ss j i _ _ h.len hj hs hi, ← htk, List.getElem?_take, if_pos (by omega), Joins.cell_of_block hh]; simp
    exact ⟨g, cap, a, c, e', by have := hc 0 (by decide); rw [Nat.add_zero] at this; exact this, hc 1 (by decide), hc 2 (by decide), hk⟩
theorem st3_kt (w : World) (b : Nat) (k n : Int) (s : Value) : KT (fun x => x = b) w (st3 w b k n s) := KT.grown (st3_own w b k n s) (fun _ e => (Option.some.inj e).symm)
theorem Bo.kt {T : Nat → Prop} {w w' : World} {b : Nat} {k n : Int} {s : Value} (h : Bo w b k n s) (hk : KT T w w') (hT : ¬ T b) : Bo w' b k n s := ⟨(hk.block b h.lt hT).trans h.b⟩
theorem Bp.kt {T : Nat → Prop} {w w' : World} {b : Nat} {D p : Int} {f : Value} (h : Bp w b D f p) (hk : KT T w w') (hT : ¬ T b) : Bp w' b D f p := ⟨(hk.block b h.lt hT).trans h.b⟩
/-- a list of orders of one's own, read -/
theorem Gr.at {B : Nat} {w : World} {kv : Value} {ks : List Tr} {ss : List Value} (h : Gr B w kv ks ss) {j : Nat} {t : Tr} (hj : ks[j]? = some t) :
    ∃ g cap a c, kv = .slice (some ⟨g, 0, none⟩) ks.length cap ∧ w.cell? ⟨g, j * 3, none⟩ = some (.int .i64 t.k) ∧ w.cell? ⟨g, j * 3 + 1, none⟩ = some (.int .i64 t.n) ∧ w.cell? ⟨g, j * 3 + 2, none⟩ = some (.slice a t.ks.length c) ∧ Os (fun b => B ≤ b) w t (.agg #[.int .i64 t.k, .int .i64 t.n, .slice a t.ks.length c]) := by
  have hl : j < ks.length := by
    by_cases h1 : j < ks.length
    · exact h1
    · rw [List.getElem?_eq_none (by omega)] at hj; cases hj
  have hs : ss[j]? = some (ss[j]'(by rw [h.len]; exact hl)) := List.getElem?_eq_getElem _
  have hk := h.kid j t _ hj hs
  obtain ⟨a, c, e⟩ := hk.shape
  have es : ss[j]'(by rw [h.len]; exact hl) = .slice a t.ks.length c := by injection e with e; simpa using e
  rw [es] at hs hk
  rcases h.own.2 with ⟨_, e0⟩ | ⟨g, cap, cur, e', hbg, hh, hnc, _, hsz, htk⟩
  · omega
  · have hc : ∀ i, i < 3 → w.cell? ⟨g, j * 3 + i, none⟩ = [Value.int .i64 t.k, .int .i64 t.n, .slice a t.ks.length c][i]? := fun i hi => by
      rw [← cso_at ks ss j i _ _ h.len hj hs hi, ← htk, List.getElem?_take, if_pos (by omega), Joins.cell_of_block hh]; simp
    exact ⟨g, cap, a, c, e', by have := hc 0 (by decide); rw [Nat.add_zero] at this; exact this, hc 1 (by decide), hc 2 (by decide), Os.keep (fun b hb => hb.1) (fun _ _ _ => rfl) _ _ hk⟩
theorem Gr.shape {B : Nat} {w : World} {kv : Value} {ks : List Tr} {ss : List Value} (h : Gr B w kv ks ss) : ∃ a c, kv = .slice a ks.length c := by
  rcases h.own.2 with ⟨e, e0⟩ | ⟨g, cap, cur, e, _⟩
  · exact ⟨none, 0, by rw [e, e0]⟩
  · exact ⟨_, _, e⟩
theorem Gr.kt {B : Nat} {T : Nat → Prop} {w w' : World} {kv : Value} {ks : List Tr} {ss : List Value} (h : Gr B w kv ks ss) (k : KT T w w') (hT : ∀ b, T b → b < B) : Gr B w' kv ks ss :=
  ⟨own_keep h.own fun b e => k.block b (own_ty h.own e).2.1 (fun t => by have := hT b t; have := (own_ty h.own e).1; omega), h.len, h.sl, fun j t s h1 h2 => Os.keep (fun _ hb => hb) (fun b hb hl => k.block b hl (fun t => by have := hT b t; have := hb.1; omega)) _ _ (h.kid j t s h1 h2)⟩
theorem Gr.kt2 {B : Nat} {T : Nat → Prop} {w w' : World} {kv : Value} {ks : List Tr} {ss : List Value} (h : Gr B w kv ks ss) (k : KT T w w') (hk : ∀ b, kv.ownBlock = some b → ¬ T b) (hl : ∀ (j : Nat) t s, ks[j]? = some t → ss[j]? = some s → Os (fun _ => False) w t (.agg #[.int .i64 t.k, .int .i64 t.n, s])) : Gr B w' kv ks ss :=
  ⟨own_keep h.own fun b e => k.block b (own_ty h.own e).2.1 (hk b e), h.len, h.sl, fun j t s h1 h2 => Os.keep (fun _ (f : False) => f.elim) (fun _ (f : False) _ => f.elim) _ _ (hl j t s h1 h2)⟩
/-- the best so far, in its box -/
structure BI (b : Nat) (l : List Tr) (U : Nat → Prop) (w : World) : Prop where
  ex : ∃ a c, Bo w b (Pl.bst l).k (Pl.bst l).n (.slice a (Pl.bst l).ks.length c) ∧ Os U w (Pl.bst l) (.agg #[.int .i64 (Pl.bst l).k, .int .i64 (Pl.bst l).n, .slice a (Pl.bst l).ks.length c])
theorem BI.kt {T : Nat → Prop} {b : Nat} {l : List Tr} {U U' : Nat → Prop} {w w' : World} (h : BI b l U w) (k : KT T w w') (hb : ¬ T b) (hU : ∀ x, U x → ¬ T x) (hU' : ∀ x, U x → U' x) : BI b l U' w' := by
  obtain ⟨a, c, h1, h2⟩ := h.ex
  exact ⟨a, c, h1.kt k hb, Os.keep hU' (fun x hx hl => k.block x hl (hU x hx)) _ _ h2⟩
/-- another best -/
theorem BI.put {b : Nat} {l l0 : List Tr} {U : Nat → Prop} {w : World} (h : BI b l0 U w) {t : Tr} {a : Option Addr} {c : Nat} (ht : Pl.bst l = t) (ho : Os U w t (.agg #[.int .i64 t.k, .int .i64 t.n, .slice a t.ks.length c])) (hU : ¬ U b) : BI b l U (st3 w b t.k t.n (.slice a t.ks.length c)) := by
  obtain ⟨a0, c0, h1, _⟩ := h.ex
  refine ⟨a, c, ?_, ?_⟩
  · rw [ht]; exact st3_bo h1 _ _ _
  · rw [ht]; exact Os.keep (fun _ hx => hx) (fun x hx _ => st3_blk _ _ _ _ _ (show x ≠ b from fun e => hU (by rw [← e]; exact hx))) _ _ ho
/-- the state of cheapest: the policy at g, the result at g + 1, the best at g + 2 -/
structure S5 (D p : Int) (F : List Int) (fv : Value) (B kb n g : Nat) (H : List Nat) (T U : Nat → Prop) (W : World) (H' : List Nat) (T' U' : Nat → Prop) (l : List Tr) (w : World) : Prop where
  ks : KS D p F B kb H' T' U' w
  mv : Mv T U W T' U' w
  bp : Bp w g D fv p
  br : Bo w (g + 1) 0 0 (.slice none 0 0)
  bi : BI (g + 2) l U' w
  lc : ∀ b, T' b ∨ U' b → b < g ∨ g + 2 < b
  hh : ∀ m ∈ H', m ∈ H ∨ Pl.mu p m < Pl.mu p n
  sz : W.heap.size = g
section
variable {D p : Int} {F : List Int} {fv : Value} {B kb n g : Nat} {H H' : List Nat} {T U T' U' : Nat → Prop} {W w w' : World} {l l' : List Tr}
theorem S5.lt (h : S5 D p F fv B kb n g H T U W H' T' U' l w) : g + 2 < w.heap.size := by
  obtain ⟨a, c, h1, _⟩ := h.bi.ex
  exact h1.lt
theorem S5.kt {T2 : Nat → Prop} (h : S5 D p F fv B kb n g H T U W H' T' U' l w) (k : KT T2 w w') (h1 : ∀ b, T2 b → g + 2 < b ∧ ¬ T' b ∧ ¬ U' b) : S5 D p F fv B kb n g H T U W H' T' U' l w' := by
  have hs := h.sz
  refine ⟨h.ks.kt k fun b hb => (h1 b hb).2, ?_, h.bp.kt k fun t => ?_, h.br.kt k fun t => ?_, h.bi.kt k (fun t => ?_) (fun x hx t => (h1 x t).2.2 hx) (fun _ hx => hx), h.lc, h.hh, hs⟩
  · exact ⟨⟨k.os.trans h.mv.kt.os, k.tape.trans h.mv.kt.tape, k.output.trans h.mv.kt.output, Nat.le_trans h.mv.kt.size k.size, fun x hx hn => (k.block x (Nat.lt_of_lt_of_le hx h.mv.kt.size) (fun t => by have := (h1 x t).1; omega)).trans (h.mv.kt.block x hx hn)⟩, h.mv.tn, h.mv.uu, h.mv.un⟩
  · have := (h1 _ t).1; omega
  · have := (h1 _ t).1; omega
  · have := (h1 _ t).1; omega
theorem S5.bel (h : S5 D p F fv B kb n g H T U W H' T' U' l w) (k : Below w.heap.size w w') : S5 D p F fv B kb n g H T U W H' T' U' l w' := h.kt (T2 := fun _ => False) (KT.of_below k) (fun _ h => h.elim)
theorem S5.eqv (h : S5 D p F fv B kb n g H T U W H' T' U' l w) (e : Pl.bst l' = Pl.bst l) : S5 D p F fv B kb n g H T U W H' T' U' l' w :=
  ⟨h.ks, h.mv, h.bp, h.br, ⟨by rw [e]; exact h.bi.ex⟩, h.lc, h.hh, h.sz⟩
theorem S5.fl {V : Nat → Prop} (h : S5 D p F fv B kb n g H T U W H' T' U' l w) (hf : FlR V W fv F) (hV : ∀ b, V b → b < B) (hT : ∀ b, T b → B ≤ b) : FlR V w fv F := hf.kt h.mv.kt (fun b t v => by have := hV b v; have := hT b t; omega)
theorem S5.put (h : S5 D p F fv B kb n g H T U W H' T' U' l w) {t : Tr} {a : Option Addr} {c : Nat} (ht : Pl.bst l' = t) (ho : Os U' w t (.agg #[.int .i64 t.k, .int .i64 t.n, .slice a t.ks.length c])) :
    S5 D p F fv B kb n g H T U W H' T' U' l' (st3 w (g + 2) t.k t.n (.slice a t.ks.length c)) := by
  have k := st3_kt w (g + 2) t.k t.n (.slice a t.ks.length c)
  have hU : ¬ U' (g + 2) := fun u => by have := h.lc _ (.inr u); omega
  have hT : ¬ T' (g + 2) := fun u => by have := h.lc _ (.inl u); omega
  have hs := h.sz
  exact ⟨h.ks.loc k hT hU, h.mv.loc k (by omega), h.bp.kt k (by omega), h.br.kt k (by omega), h.bi.put ht ho hU, h.lc, h.hh, hs⟩
/-- a call of its own -/
theorem S5.call {H2 : List Nat} {T2 U2 : Nat → Prop} (h : S5 D p F fv B kb n g H T U W H' T' U' l w) (hk : KS D p F B kb H2 T2 U2 w') (hm : Mv T' U' w T2 U2 w') (hh : ∀ m ∈ H2, m ∈ H' ∨ Pl.mu p m < Pl.mu p n) : S5 D p F fv B kb n g H T U W H2 T2 U2 l w' := by
  have hs := h.lt
  have hT : ∀ b, b = g ∨ b = g + 1 ∨ b = g + 2 → ¬ T' b := fun b hb t => by have := h.lc b (.inl t); omega
  refine ⟨hk, h.mv.trans hm, h.bp.kt hm.kt (hT _ (.inl rfl)), h.br.kt hm.kt (hT _ (.inr (.inl rfl))), h.bi.kt hm.kt (hT _ (.inr (.inr rfl))) (fun x hx t => (h.ks.ult hx).2.2 t) hm.uu, fun b hb => ?_, fun m hmm => ?_, h.sz⟩
  · rcases hb with t | t
    · rcases hm.tn b t with q | q
      · exact h.lc b (.inl q)
      · omega
    · rcases hm.un b t with q | q
      · exact h.lc b (.inr q)
      · omega
  · rcases hh m hmm with q | q
    · exact h.hh m q
    · exact .inr q
/-- more blocks for the orders, all of them new -/
theorem S5.wid {U2 : Nat → Prop} {lo : Nat} (h : S5 D p F fv B kb n g H T U W H' T' U' l w) (hlo : g + 2 < lo) (hB : B ≤ lo) (hT : ∀ b, T' b → b < lo) (h1 : ∀ b, U' b → U2 b) (h2 : ∀ b, U2 b → U' b ∨ (lo ≤ b ∧ b < w.heap.size)) : S5 D p F fv B kb n g H T U W H' T' U2 l w := by
  have hs := h.sz
  refine ⟨h.ks.wid h1 fun b hb => ?_, h.mv.wid h1 fun b hb => ?_, h.bp, h.br, h.bi.kt (KT.refl (fun _ => False) _) (fun f => f) (fun _ _ f => f) h1, fun b hb => ?_, h.hh, hs⟩
  · rcases h2 b hb with q | q
    · exact h.ks.ult q
    · exact ⟨by omega, q.2, fun t => by have := hT b t; omega⟩
  · rcases h2 b hb with q | q
    · exact .inl q
    · exact .inr (by omega)
  · rcases hb with t | t
    · exact h.lc b (.inl t)
    · rcases h2 b t with q | q
      · exact h.lc b (.inr q)
      · omega
end
theorem S5.put2 {D p : Int} {F : List Int} {fv : Value} {B kb n g : Nat} {H H' : List Nat} {T U T' U' : Nat → Prop} {W w : World} {l l' : List Tr} (h : S5 D p F fv B kb n g H T U W H' T' U' l w) {t : Tr} {a : Option Addr} {c : Nat} (ht : Pl.bst l' = t) {k m : Int} {L : Nat} (h1 : t.k = k) (h2 : t.n = m) (h3 : t.ks.length = L) (ho : Os U' w t (.agg #[.int .i64 k, .int .i64 m, .slice a L c])) :
    S5 D p F fv B kb n g H T U W H' T' U' l' (st3 w (g + 2) k m (.slice a L c)) := by
  subst h1 h2 h3
  exact h.put ht ho
/-- a product of a leaf and an order that is known: the best now -/
theorem S5.both {D p : Int} {F : List Int} {fv : Value} {B kb n g gq lo2 : Nat} {H H' : List Nat} {T U T' U' : Nat → Prop} {W w w' : World} {l l' la : List Tr} {t cm : Tr} {ck cn : Int} {cs kv : Value} {ss2 : List Value} {ba : Option Addr} {bc : Nat}
    (h : S5 D p F fv B kb n g H T U W H' T' U' l w) (hG : Gr lo2 w kv la ss2) (hQ : Bo w gq ck cn cs) (ho : Os U' w cm (.agg #[.int .i64 ck, .int .i64 cn, cs])) (hu : ¬ U' gq) (hgq : g + 2 < gq) (hlo : g + 2 < lo2) (hl : Pl.bst l' = ⟨3, 0, [t, cm]⟩)
    (hb : Below w.heap.size w w') (hn : Os (fun b => (U' b ∧ b < w.heap.size) ∨ w.heap.size ≤ b) w' ⟨3, 0, [t, cm]⟩ (.agg #[.int .i64 3, .int .i64 0, .slice ba 2 bc])) :
    ∃ U4 : Nat → Prop, S5 D p F fv B kb n g H T U W H' T' U4 l' (st3 w' (g + 2) 3 0 (.slice ba 2 bc)) ∧ Gr lo2 (st3 w' (g + 2) 3 0 (.slice ba 2 bc)) kv la ss2 ∧ Bo (st3 w' (g + 2) 3 0 (.slice ba 2 bc)) gq ck cn cs ∧ Os U4 (st3 w' (g + 2) 3 0 (.slice ba 2 bc)) cm (.agg #[.int .i64 ck, .int .i64 cn, cs]) ∧ ¬ U4 gq := by
  have hgl := h.lt
  have S7 := h.bel hb
  have hsB := h.ks.size
  have S8 := S7.wid (U2 := fun b => U' b ∨ (w.heap.size ≤ b ∧ b < w'.heap.size)) (lo := w.heap.size) hgl (by omega) (fun b h2 => (h.ks.tlt h2).2) (fun b h2 => .inl h2) (fun b h2 => h2)
  have hnU : ¬ (U' (g + 2) ∨ (w.heap.size ≤ g + 2 ∧ g + 2 < w'.heap.size)) := fun h2 => by
    have := S8.lc (g + 2) (.inr h2); omega
  have ho7 : Os (fun b => U' b ∨ (w.heap.size ≤ b ∧ b < w'.heap.size)) w' ⟨3, 0, [t, cm]⟩ (.agg #[.int .i64 3, .int .i64 0, .slice ba 2 bc]) := Os.keep2 (fun b h2 hl2 => by
    rcases h2 with h2 | h2
    · exact .inl h2.1
    · exact .inr ⟨h2, hl2⟩) (fun _ _ _ => rfl) _ _ hn
  have hkt := st3_kt w' (g + 2) 3 0 (.slice ba 2 bc)
  have o7 : Os (fun b => U' b ∨ (w.heap.size ≤ b ∧ b < w'.heap.size)) w' cm (.agg #[.int .i64 ck, .int .i64 cn, cs]) := Os.keep (fun _ h2 => Or.inl h2) (fun _ _ _ => rfl) cm _ (ho.bel hb)
  have o8 : Os (fun b => U' b ∨ (w.heap.size ≤ b ∧ b < w'.heap.size)) (st3 w' (g + 2) 3 0 (.slice ba 2 bc)) cm (.agg #[.int .i64 ck, .int .i64 cn, cs]) := Os.keep (fun _ hx => hx) (fun x hx hl2 => hkt.block x hl2 (fun e => by rw [e] at hx; exact hnU hx)) cm _ o7
  have s8 : S5 D p F fv B kb n g H T U W H' T' (fun b => U' b ∨ (w.heap.size ≤ b ∧ b < w'.heap.size)) l' (st3 w' (g + 2) 3 0 (.slice ba 2 bc)) := S8.put2 hl rfl rfl rfl ho7
  refine ⟨_, s8, (hG.bel hb).kt hkt (fun b e => by omega), (hQ.bel hb).kt hkt (by omega), o8, fun h2 => ?_⟩
  rcases h2 with h2 | h2
  · exact hu h2
  · have := hQ.lt; omega
theorem dboth2_c {S : Nat → Prop} (x y : Tr) (v u : Value) (w : World) (ox : Os S w x v) (oy : Os S w y u) : Calls Tryd.prog 75 #[v, u] w.drew fun e w' => ∃ ba bc, e = .returned (.agg #[.int .i64 3, .int .i64 0, .slice ba 2 bc]) ∧ Os (fun b => (S b ∧ b < w.heap.size) ∨ w.heap.size ≤ b) w' ⟨3, 0, [x, y]⟩ (.agg #[.int .i64 3, .int .i64 0, .slice ba 2 bc]) ∧ Below w.heap.size w w' := by
  refine (dboth_c (S := S) x y v u w.drew (ox.bel (Below.refl _ _).drew) (oy.bel (Below.refl _ _).drew)).mono ?_
  rintro e w' ⟨z, rfl, ho, hb⟩
  obtain ⟨ba, bc, e⟩ := ho.shape
  have e2 : z = .agg #[.int .i64 3, .int .i64 0, .slice ba 2 bc] := by simpa using e
  subst e2
  exact ⟨ba, bc, rfl, ho, (Below.refl _ _).drew.trans hb⟩
/-- Bluestein's way over an order that is known: the best now -/
theorem S5.blue {D p : Int} {F : List Int} {fv : Value} {B kb n g : Nat} {H H' : List Nat} {T U T' U' : Nat → Prop} {W w : World} {l l' : List Tr} {cm : Tr} {ck cn : Int} {cs : Value} {N : Int}
    (h : S5 D p F fv B kb n g H T U W H' T' U' l w) (ho : Os U' w cm (.agg #[.int .i64 ck, .int .i64 cn, cs])) (h1 : cm.k = ck) (h2 : cm.n = cn) (hf : fit 4 N) (hl : Pl.bst l' = ⟨4, N, [cm]⟩) :
    ∃ U4 : Nat → Prop, S5 D p F fv B kb n g H T U W H' T' U4 l' ((st3 w (g + 2) 4 N (.slice (some ⟨w.heap.size, 0, none⟩) 1 1)).alloc (.cells #[.int .i64 ck, .int .i64 cn, cs] 24)) := by
  subst h1 h2
  obtain ⟨w', hw'⟩ : ∃ w', w' = (st3 w (g + 2) 4 N (.slice (some ⟨w.heap.size, 0, none⟩) 1 1)).alloc (.cells #[.int .i64 cm.k, .int .i64 cm.n, cs] 24) := ⟨_, rfl⟩
  rw [← hw']
  have hkt : KT (fun x => x = g + 2) w w' := by rw [hw']; exact (st3_kt w (g + 2) 4 N _).alloc _
  have hnew : w'.heap[w.heap.size]? = some (.cells #[.int .i64 cm.k, .int .i64 cm.n, cs] 24 (0, 0)) := by
    have := heap_alloc_new (st3 w (g + 2) 4 N (.slice (some ⟨w.heap.size, 0, none⟩) 1 1)) (.cells #[.int .i64 cm.k, .int .i64 cm.n, cs] 24)
    rw [st3_size] at this
    rw [hw']; exact this
  have hsz : w'.heap.size = w.heap.size + 1 := by rw [hw']; simp [st3_size]
  have hU : ¬ U' (g + 2) := fun u => by have := h.lc _ (.inr u); omega
  have hT : ¬ T' (g + 2) := fun u => by have := h.lc _ (.inl u); omega
  have hs := h.sz
  have hgl := h.lt
  have hsB := h.ks.size
  obtain ⟨xa, xc, hbo, -⟩ := h.bi.ex
  have hB2 : Bo w' (g + 2) 4 N (.slice (some ⟨w.heap.size, 0, none⟩) 1 1) := by rw [hw']; exact (st3_bo hbo 4 N _).bel ((Below.refl _ _).alloc (Nat.le_refl _) _)
  have o1 : Os (fun b => U' b ∨ b = w.heap.size) w' cm (.agg #[.int .i64 cm.k, .int .i64 cm.n, cs]) := Os.keep (fun _ hx => Or.inl hx) (fun x hx hl2 => hkt.block x hl2 (fun e => by rw [e] at hx; exact hU hx)) cm _ ho
  have o2 : Os (fun b => U' b ∨ b = w.heap.size) w' ⟨4, N, [cm]⟩ (.agg #[.int .i64 4, .int .i64 N, .slice (some ⟨w.heap.size, 0, none⟩) 1 1]) := Os.one hf (.inr rfl) o1 hnew
  refine ⟨fun b => U' b ∨ b = w.heap.size, (h.ks.loc hkt hT hU).wid (fun _ hx => .inl hx) (fun b hb => ?_), (h.mv.loc hkt (by omega)).wid (fun _ hx => .inl hx) (fun b hb => ?_), h.bp.kt hkt (by omega), h.br.kt hkt (by omega), ⟨some ⟨w.heap.size, 0, none⟩, 1, ?_, ?_⟩, fun b hb => ?_, h.hh, hs⟩
  · rcases hb with q | q
    · exact (h.ks.loc hkt hT hU).ult q
    · rw [q]
      exact ⟨by omega, by omega, fun t => by have := (h.ks.tlt t).2; omega⟩
  · rcases hb with q | q
    · exact .inl q
    · exact .inr (by omega)
  · rw [hl]; exact hB2
  · rw [hl]; exact o2
  · rcases hb with q | q | q
    · exact h.lc b (.inl q)
    · exact h.lc b (.inr q)
    · omega
/-- what the document's cheapest answers -/
def DcE (D p : Int) (F : List Int) (B kb n : Nat) (H : List Nat) (T U : Nat → Prop) (W : World) (e : Ending) (W' : World) : Prop :=
  ∃ v H' T' U', e = .returned (.tuple #[v, .int .i64 (tc D F p n : Int)]) ∧ KS D p F B kb H' T' U' W' ∧ Os U' W' (Pl.ch D F p n) v ∧ Mv T U W T' U' W' ∧ (∀ m ∈ H', m ∈ H ∨ Pl.mu p m ≤ Pl.mu p n)
def DCH (D p : Int) (F : List Int) (fv : Value) (B kb : Nat) (V : Nat → Prop) (n : Nat) : Prop :=
  ∀ (H : List Nat) (T U : Nat → Prop) (W : World), KS D p F B kb H T U W → FlR V W fv F →
    Calls Tryd.prog 48 #[.pointer (some ⟨kb, 0, none⟩), .int .i64 (n : Int), .agg #[.int .i64 D, fv, .int .i64 p]] W (DcE D p F B kb n H T U W)
end Go.Proofs.YtoaccmblaifnmaaDoor
