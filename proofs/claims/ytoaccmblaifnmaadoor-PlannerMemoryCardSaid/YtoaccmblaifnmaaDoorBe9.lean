/-
  The statements' gone: one order more on its list; the orders that it hands back.
-/
import Derived.WalkKit
import Ieee.Arith
import Derived.WalkLawsBesides
import Derived.Test.YtoaccmblaifnmaaDoorProg
import Derived.Outline
import Derived.Deep.QuietTactic
import Derived.BigQuiet
import Derived.WalkSmall
import Derived.RegionTactic
import Derived.Lib.Mul64
import Derived.Laws.Bits64b
import Derived.Deep.CutBlock
import Derived.Deep.DeepCutAuto
import Derived.Maps.AppendAt
import Derived.Deep.RegionHeld3
import Derived.Deep.RegionWith
import Derived.Laws.OwnMore
import Derived.RangeFuncNested
import Derived.RangeFuncBound
import Derived.RangeFuncCalls
import Derived.RangeFuncLeaves
import Derived.RangeFuncBox
import Derived.Shelf.Abstract
import Derived.Shelf.RegionOpen
import Derived.OwnWalkIn
import Derived.TacticsInMore
import Derived.LoopNIn
import Derived.LoopIn
import Derived.Laws.Rows
import Derived.Lib.ItoaNum
import Derived.Laws.IdiomStrings
import Derived.Lib.SmallJoins
import Derived.Lib.HexFns
import Derived.Test.YtoaccmblaifnmaaDoorRows
import Derived.LaidEql
import Derived.LaidLaws
import Derived.LaidHandle
import Derived.Stop.Joined
import Derived.Recover
import Derived.RegionDies
import Derived.Laws.CopyOwn
import Derived.Lib.AppendIntMem
import Derived.Laws.AppendOwn
import Derived.OwnWalk
import Derived.BigCall
import Derived.Deep.RegionHeldLaw
import Derived.Laws.FloatArith
import Derived.Laws.ComplexArith
import Derived.Laws.MakeOwn
import Derived.MapKept
import Derived.Carry
import Derived.ChangeAlike
import Derived.Deep.RegionLaw
import Derived.Defers
import Derived.Deep.AppendSrc
import Derived.Test.YtoaccmblaifnmaaDoorBe8
import Derived.Test.YtoaccmblaifnmaaDoorBd7
namespace Go.Proofs.YtoaccmblaifnmaaDoor
open Flo Go.RowKit Go.Shelf Tr
attribute [local go_sem] Oper.semAt_some
theorem HIn.two {F : Fence} {n : Nat} {P : Program} {ops : Array Oper} {Q : Exit → Act → World → Prop} {md : Region.Mode} {S : World → Prop} {i j : Nat} {o o' : Oper} {m : Nat} {ls : Array Bool} {a : Act} {w : World} (hi : ops[i]? = some o) (hj : ops[j]? = some o') (hr : Region.ready md ops ls = [i, j])
    (h : ∀ K : Act → World → Prop, (∀ a w, S w → HIn F n P md ops Q S m (ls.setIfInBounds i true) a w → K a w) → if Region.wanted o (yielded ops a.tmps) = true then Oper.wpIn F n P o a w K Q else (∀ f, o.about P w a.eval = some f → F.fn f) ∧ K (a.put o.dst undef) w)
    (h' : ∀ K : Act → World → Prop, (∀ a w, S w → HIn F n P md ops Q S m (ls.setIfInBounds j true) a w → K a w) → if Region.wanted o' (yielded ops a.tmps) = true then Oper.wpIn F n P o' a w K Q else (∀ f, o'.about P w a.eval = some f → F.fn f) ∧ K (a.put o'.dst undef) w) : HIn F n P md ops Q S (m + 1) ls a w := by
  refine ⟨(fun e => by rw [hr] at e; cases e), fun k hk => ?_⟩
  rw [hr, List.mem_cons, List.mem_singleton] at hk
  rcases hk with rfl | rfl
  · unfold wpOpIn
    rw [hi]
    exact h _ fun a w h1 h2 => ⟨h1, h2⟩
  · unfold wpOpIn
    rw [hj]
    exact h' _ fun a w h1 h2 => ⟨h1, h2⟩
theorem stepIn_ord {F : Fence} {m : Nat} {ops : Array Oper} {o : Oper} {a : Act} {w : World} {K : Act → World → Prop} {Q : Exit → Act → World → Prop} {E : Prop} (hro : F.round = none) (hF : ∀ f, F.fn f)
    (hg : o.guard = none) (s x : Operand) (hop : o.op = Op.call { callee := Callee.builtin Builtin.append, args := #[s, x], argTypes := #[22, 22] })
    (B n : Nat) (v : Value) (xs : List Value) (hs : a.eval s = v) (hown : w.ownsRow B 24 3 v n xs)
    (fb fc : Nat) (hx : a.eval x = .slice (some ⟨fb, 0, none⟩) 1 fc) (hf : w.heap[fb]? = some (.cells #[.int .i64 0, .int .i64 0, .slice none 0 0] 24 (0, 0))) (hn : n ≤ 20000) (hB : B ≤ w.heap.size)
    (hK : ∀ r c w', w'.ownsRow B 24 3 (.slice (some ⟨r, 0, none⟩) (n + 1) c) (n + 1) (xs ++ [.int .i64 0, .int .i64 0, .slice none 0 0]) → w.grownBy w' v.ownBlock → (v.ownBlock = some r ∨ w.heap.size ≤ r) → K (a.put o.dst (.slice (some ⟨r, 0, none⟩) (n + 1) c)) w') :
    if Region.wanted o (yielded ops a.tmps) = true then Oper.wpIn F m Tryd.prog o a w K Q else E := by
  obtain ⟨i0, hi0, iz0, iz1, iz2⟩ := info_o
  have hw : Region.wanted o (yielded ops a.tmps) = true := by simp [Region.wanted, hg]
  rw [if_pos hw]
  obtain ⟨v', w', hrun, r1, r2, r3⟩ := append_fr (P := Tryd.prog) w B 22 o.type 24 i0 (.agg #[.int .i64 0, .int .i64 0, .slice none 0 0]) 3 40 Tryd.underlying22 hi0 iz0 iz1 iz2 rfl (by decide) v n xs hown ⟨fb, 0, none⟩ 1 fc [.int .i64 0, .int .i64 0, .slice none 0 0] rfl (fun j u hj => by
    rw [add_pl, Joins.cell_of_block hf]
    match j, hj with
    | 0, hj => simpa using hj
    | 1, hj => simpa using hj
    | 2, hj => simpa using hj) (fun u hu => by simp at hu; rcases hu with rfl | rfl | rfl <;> rfl) (by unfold maxLen; omega) (by omega) hB
  unfold Oper.wpIn
  refine ⟨fun f _ => hF f, ?_⟩
  rw [hro, Oper.semAt_none]
  simp [execOp, hop, resolve, invoke, builtin, hs, hx, hrun, Result.andThen]
  rcases r1.2 with ⟨e, e0⟩ | ⟨r, cap, cur, e, q⟩
  · omega
  · subst e
    exact hK r cap w' r1 r2 (r3 r rfl)
def qG (V1 : Nat → Nat → World → Prop) (mk : Nat → Nat → Act) : Exit → Act → World → Prop
  | .normal, a, w => ∃ r c, a = mk r c ∧ V1 r c w
  | _, _, _ => False
/-- the list's new row and what became of the world -/
def GnE (B L lb : Nat) (lv : Value) (xs : List Value) (xk xn : Int) (xs' : Value) (W : World) (r c : Nat) (W2 : World) : Prop :=
  ∃ w1, w1.ownsRow B 24 3 (.slice (some ⟨r, 0, none⟩) (L + 1) c) (L + 1) (xs ++ [.int .i64 0, .int .i64 0, .slice none 0 0]) ∧ (W.alloc (.cells #[.int .i64 0, .int .i64 0, .slice none 0 0] 24)).grownBy w1 lv.ownBlock ∧ (lv.ownBlock = some r ∨ (W.alloc (.cells #[.int .i64 0, .int .i64 0, .slice none 0 0] 24)).heap.size ≤ r) ∧
    (W2 = (s3 w1 r (L * 3) xk xn xs').setCell ⟨lb, 0, none⟩ (.slice (some ⟨r, 0, none⟩) (L + 1) c) ∨ W2 = s3 (w1.setCell ⟨lb, 0, none⟩ (.slice (some ⟨r, 0, none⟩) (L + 1) c)) r (L * 3) xk xn xs')
set_option maxRecDepth 100000 in
set_option maxHeartbeats 8000000 in
theorem gn7_reg {m l lb Bx B L cp xl xc : Nat} {xk xn : Int} {ao xa : Option Addr} {xs : List Value} {s0 s1 s2 s3 s4 s5 s6 s7 s8 s11 s12 s13 s14 s15 s16 s17 s18 s19 s20 s21 s22 s23 s24 s25 s26 s27 s28 s29 s30 s31 : Value} {W : World} {Q : Exit → Act → World → Prop}
    (hbx : W.heap[Bx]? = some (.cells #[.int .i64 xk, .int .i64 xn, .slice xa xl xc] 24 (0, 0))) (hlb : W.heap[lb]? = some (.cells #[.slice ao L cp] 22 (0, 0)))
    (hown : W.ownsRow B 24 3 (.slice ao L cp) L xs) (hlen : xs.length = L * 3) (hL : L ≤ 20000) (hB : B ≤ W.heap.size) (n1 : (Value.slice ao L cp).ownBlock ≠ some Bx)
    (hQ : ∀ r c W2, GnE B L lb (.slice ao L cp) xs xk xn (.slice xa xl xc) W.drew r c W2 → Q .normal { tmps := #[s0, s1, s2, s3, s4, s5, s6, s7, s8, .pointer (some ⟨lb, 0, none⟩), .pointer (some ⟨Bx, 0, none⟩), s11, s12, s13, s14, s15, s16, s17, .slice ao L cp, .agg #[.int .i64 xk, .int .i64 xn, .slice xa xl xc], .int .i64 (L : Int), .slice (some ⟨W.heap.size, 0, none⟩) 1 1, .slice (some ⟨r, 0, none⟩) (L + 1) c, .pointer (some ⟨r, L * 3, none⟩), s24, s25, s26, s27, s28, s29, s30, s31], defers := [] } W2) :
    (Code.region 7 #[{ dst := some 18, op := Go.Op.load 22 (Go.Operand.tmp 9), type := 22, pos := "law.go:45", after := #[], guard := none },
      { dst := some 19, op := Go.Op.load 24 (Go.Operand.tmp 10), type := 24, pos := "law.go:45", after := #[], guard := none },
      { dst := some 20, op := Go.Op.call { callee := Go.Callee.builtin Go.Builtin.len, args := #[Go.Operand.tmp 18], argTypes := #[22] }, type := 3, pos := "law.go:45", after := #[{ on := 0, ground := Go.Ground.data }], guard := none },
      { dst := some 21, op := Go.Op.buildSlice 22 1 #[(0, Go.Operand.const (Go.Value.agg #[Go.Value.int Go.IntKind.i64 0, Go.Value.int Go.IntKind.i64 0, Go.Value.slice none 0 0]))], type := 22, pos := "law.go:45", after := #[], guard := none },
      { dst := some 22, op := Go.Op.call { callee := Go.Callee.builtin Go.Builtin.append, args := #[Go.Operand.tmp 18, Go.Operand.tmp 21], argTypes := #[22, 22] }, type := 22, pos := "law.go:45", after := #[{ on := 0, ground := Go.Ground.data }, { on := 3, ground := Go.Ground.data }, { on := 0, ground := Go.Ground.phase }, { on := 1, ground := Go.Ground.phase }, { on := 2, ground := Go.Ground.phase }, { on := 3, ground := Go.Ground.phase }], guard := none },
      { dst := some 23, op := Go.Op.indexAddr 22 (Go.Operand.tmp 22) (Go.Operand.tmp 20), type := 0, pos := "law.go:45", after := #[{ on := 4, ground := Go.Ground.data }, { on := 2, ground := Go.Ground.data }, { on := 0, ground := Go.Ground.phase }, { on := 1, ground := Go.Ground.phase }, { on := 2, ground := Go.Ground.phase }, { on := 3, ground := Go.Ground.phase }, { on := 4, ground := Go.Ground.phase }, { on := 7, ground := Go.Ground.gcOnly Go.Departure.appendInPlace }], guard := none },
      { dst := none, op := Go.Op.store 24 (Go.Operand.tmp 23) (Go.Operand.tmp 19), type := 0, pos := "law.go:45", after := #[{ on := 5, ground := Go.Ground.data }, { on := 1, ground := Go.Ground.data }, { on := 4, ground := Go.Ground.chain }, { on := 0, ground := Go.Ground.phase }, { on := 1, ground := Go.Ground.phase }, { on := 2, ground := Go.Ground.phase }, { on := 3, ground := Go.Ground.phase }, { on := 4, ground := Go.Ground.phase }, { on := 7, ground := Go.Ground.gcOnly Go.Departure.appendInPlace }], guard := none },
      { dst := none, op := Go.Op.store 22 (Go.Operand.tmp 9) (Go.Operand.tmp 22), type := 0, pos := "law.go:45", after := #[{ on := 4, ground := Go.Ground.data }, { on := 4, ground := Go.Ground.chain }, { on := 6, ground := Go.Ground.textOnly Go.Departure.appendInPlace }, { on := 0, ground := Go.Ground.phase }, { on := 1, ground := Go.Ground.phase }, { on := 2, ground := Go.Ground.phase }, { on := 3, ground := Go.Ground.phase }, { on := 4, ground := Go.Ground.phase }, { on := 5, ground := Go.Ground.textOnly Go.Departure.appendInPlace }, { on := 6, ground := Go.Ground.textOnly Go.Departure.appendInPlace }], guard := none }] true).wpIn (Fence.wide.inRound l) m Tryd.prog Q { tmps := #[s0, s1, s2, s3, s4, s5, s6, s7, s8, .pointer (some ⟨lb, 0, none⟩), .pointer (some ⟨Bx, 0, none⟩), s11, s12, s13, s14, s15, s16, s17, s18, s19, s20, s21, s22, s23, s24, s25, s26, s27, s28, s29, s30, s31], defers := [] } W := by
  have hmix : Tryd.prog.follows .mixedOrders = true := by kernel_rfl
  have n2 : (Value.slice ao L cp).ownBlock ≠ some lb := fun e => by
    obtain ⟨_, _, cs, h2⟩ := own_ty hown e
    rw [hlb] at h2; injection h2 with h2; injection h2 with _ h2; exact absurd h2 (by decide)
  have n3 : Bx ≠ lb := fun e => by
    rw [e, hlb] at hbx; injection hbx with h2; injection h2 with _ h2; exact absurd h2 (by decide)
  have hS : (fun X : World => X.cell? ⟨Bx, 0, none⟩ = some (.int .i64 xk) ∧ X.cell? ⟨Bx, 1, none⟩ = some (.int .i64 xn) ∧ X.cell? ⟨Bx, 2, none⟩ = some (.slice xa xl xc)) W.drew := ⟨(Joins.cell_of_block hbx 0), (Joins.cell_of_block hbx 1), (Joins.cell_of_block hbx 2)⟩
  have hlc : W.drew.cell? ⟨lb, 0, none⟩ = some (.slice ao L cp) := Joins.cell_of_block hlb 0
  have hbxA : (W.drew.alloc (.cells #[.int .i64 0, .int .i64 0, .slice none 0 0] 24)).heap[Bx]? = some (.cells #[.int .i64 xk, .int .i64 xn, .slice xa xl xc] 24 (0, 0)) := (Below.heap_alloc _ _ _ (blk_lt hbx)).trans hbx
  have hlbA : (W.drew.alloc (.cells #[.int .i64 0, .int .i64 0, .slice none 0 0] 24)).heap[lb]? = some (.cells #[.slice ao L cp] 22 (0, 0)) := (Below.heap_alloc _ _ _ (blk_lt hlb)).trans hlb
  have hSA : (fun X : World => X.cell? ⟨Bx, 0, none⟩ = some (.int .i64 xk) ∧ X.cell? ⟨Bx, 1, none⟩ = some (.int .i64 xn) ∧ X.cell? ⟨Bx, 2, none⟩ = some (.slice xa xl xc)) (W.drew.alloc (.cells #[.int .i64 0, .int .i64 0, .slice none 0 0] 24)) := ⟨(Joins.cell_of_block hbxA 0), (Joins.cell_of_block hbxA 1), (Joins.cell_of_block hbxA 2)⟩
  have hlcA : (W.drew.alloc (.cells #[.int .i64 0, .int .i64 0, .slice none 0 0] 24)).cell? ⟨lb, 0, none⟩ = some (.slice ao L cp) := Joins.cell_of_block hlbA 0
  have hlcB : (W.alloc (.cells #[.int .i64 0, .int .i64 0, .slice none 0 0] 24)).cell? ⟨lb, 0, none⟩ = some (.slice ao L cp) := hlcA
  have hownA : (W.drew.alloc (.cells #[.int .i64 0, .int .i64 0, .slice none 0 0] 24)).ownsRow B 24 3 (.slice ao L cp) L xs := own_keep hown fun b e => Below.heap_alloc _ _ _ (own_ty hown e).2.1
  have hzA : (W.drew.alloc (.cells #[.int .i64 0, .int .i64 0, .slice none 0 0] 24)).heap[W.heap.size]? = some (.cells #[.int .i64 0, .int .i64 0, .slice none 0 0] 24 (0, 0)) := heap_alloc_new W.drew _
  have hBA : B ≤ (W.drew.alloc (.cells #[.int .i64 0, .int .i64 0, .slice none 0 0] 24)).heap.size := Nat.le_trans hB (Nat.le_of_lt (Nat.lt_of_lt_of_eq (Nat.lt_succ_self _) (World.size_alloc W.drew _).symm))
  have hfac : ∀ r c w1, w1.ownsRow B 24 3 (.slice (some ⟨r, 0, none⟩) (L + 1) c) (L + 1) (xs ++ [.int .i64 0, .int .i64 0, .slice none 0 0]) → (W.drew.alloc (.cells #[.int .i64 0, .int .i64 0, .slice none 0 0] 24)).grownBy w1 (Value.slice ao L cp).ownBlock → ((Value.slice ao L cp).ownBlock = some r ∨ (W.drew.alloc (.cells #[.int .i64 0, .int .i64 0, .slice none 0 0] 24)).heap.size ≤ r) →
      (fun X : World => X.cell? ⟨Bx, 0, none⟩ = some (.int .i64 xk) ∧ X.cell? ⟨Bx, 1, none⟩ = some (.int .i64 xn) ∧ X.cell? ⟨Bx, 2, none⟩ = some (.slice xa xl xc)) w1 ∧ w1.frozen? ⟨lb, 0, none⟩ = false ∧ w1.cell? ⟨lb, 0, none⟩ = some (.slice ao L cp) ∧ (∀ i, w1.frozen? ⟨r, i, none⟩ = false) ∧ w1.cell? ⟨r, L * 3, none⟩ = some (.int .i64 0) ∧ w1.cell? ⟨r, L * 3 + 1, none⟩ = some (.int .i64 0) ∧ w1.cell? ⟨r, L * 3 + 2, none⟩ = some (.slice none 0 0) ∧ r ≠ lb ∧ lb ≠ r ∧
      (fun X : World => X.cell? ⟨Bx, 0, none⟩ = some (.int .i64 xk) ∧ X.cell? ⟨Bx, 1, none⟩ = some (.int .i64 xn) ∧ X.cell? ⟨Bx, 2, none⟩ = some (.slice xa xl xc)) (((w1.setCell ⟨r, L * 3, none⟩ (.int .i64 xk)).setCell ⟨r, L * 3 + 1, none⟩ (.int .i64 xn)).setCell ⟨r, L * 3 + 2, none⟩ (.slice xa xl xc)) ∧ (fun X : World => X.cell? ⟨Bx, 0, none⟩ = some (.int .i64 xk) ∧ X.cell? ⟨Bx, 1, none⟩ = some (.int .i64 xn) ∧ X.cell? ⟨Bx, 2, none⟩ = some (.slice xa xl xc)) (w1.setCell ⟨lb, 0, none⟩ (.slice (some ⟨r, 0, none⟩) (L + 1) c)) ∧ (fun X : World => X.cell? ⟨Bx, 0, none⟩ = some (.int .i64 xk) ∧ X.cell? ⟨Bx, 1, none⟩ = some (.int .i64 xn) ∧ X.cell? ⟨Bx, 2, none⟩ = some (.slice xa xl xc)) ((((w1.setCell ⟨r, L * 3, none⟩ (.int .i64 xk)).setCell ⟨r, L * 3 + 1, none⟩ (.int .i64 xn)).setCell ⟨r, L * 3 + 2, none⟩ (.slice xa xl xc)).setCell ⟨lb, 0, none⟩ (.slice (some ⟨r, 0, none⟩) (L + 1) c)) ∧ (fun X : World => X.cell? ⟨Bx, 0, none⟩ = some (.int .i64 xk) ∧ X.cell? ⟨Bx, 1, none⟩ = some (.int .i64 xn) ∧ X.cell? ⟨Bx, 2, none⟩ = some (.slice xa xl xc)) ((((w1.setCell ⟨lb, 0, none⟩ (.slice (some ⟨r, 0, none⟩) (L + 1) c)).setCell ⟨r, L * 3, none⟩ (.int .i64 xk)).setCell ⟨r, L * 3 + 1, none⟩ (.int .i64 xn)).setCell ⟨r, L * 3 + 2, none⟩ (.slice xa xl xc)) ∧ ((((w1.setCell ⟨r, L * 3, none⟩ (.int .i64 xk)).setCell ⟨r, L * 3 + 1, none⟩ (.int .i64 xn)).setCell ⟨r, L * 3 + 2, none⟩ (.slice xa xl xc)).cell? ⟨lb, 0, none⟩ = some (.slice ao L cp) ∧ (((w1.setCell ⟨r, L * 3, none⟩ (.int .i64 xk)).setCell ⟨r, L * 3 + 1, none⟩ (.int .i64 xn)).setCell ⟨r, L * 3 + 2, none⟩ (.slice xa xl xc)).frozen? ⟨lb, 0, none⟩ = false) ∧
      (((w1.setCell ⟨lb, 0, none⟩ (.slice (some ⟨r, 0, none⟩) (L + 1) c)).cell? ⟨r, L * 3, none⟩ = some (.int .i64 0) ∧ (w1.setCell ⟨lb, 0, none⟩ (.slice (some ⟨r, 0, none⟩) (L + 1) c)).cell? ⟨r, L * 3 + 1, none⟩ = some (.int .i64 0) ∧ (w1.setCell ⟨lb, 0, none⟩ (.slice (some ⟨r, 0, none⟩) (L + 1) c)).cell? ⟨r, L * 3 + 2, none⟩ = some (.slice none 0 0)) ∧ ∀ i, (w1.setCell ⟨lb, 0, none⟩ (.slice (some ⟨r, 0, none⟩) (L + 1) c)).frozen? ⟨r, i, none⟩ = false) := by
    intro r c w1 hown1 hg1 hr1
    have hl1 : w1.heap[lb]? = some (.cells #[.slice ao L cp] 22 (0, 0)) := (hg1.block lb (blk_lt hlbA) (fun e => n2 e.symm)).trans hlbA
    have hx1 : w1.heap[Bx]? = some (.cells #[.int .i64 xk, .int .i64 xn, .slice xa xl xc] 24 (0, 0)) := (hg1.block Bx (blk_lt hbxA) (fun e => n1 e.symm)).trans hbxA
    have hrl : r ≠ lb := fun e => by
      rcases hr1 with h | h
      · exact n2 (e ▸ h)
      · have := blk_lt hlbA; omega
    have hrx : r ≠ Bx := fun e => by
      rcases hr1 with h | h
      · exact n1 (e ▸ h)
      · have := blk_lt hbxA; omega
    obtain ⟨z0, z1, z2, z3⟩ := own_zero hown1 hlen
    have hSx : ∀ X : World, X.heap[Bx]? = w1.heap[Bx]? → (fun X : World => X.cell? ⟨Bx, 0, none⟩ = some (.int .i64 xk) ∧ X.cell? ⟨Bx, 1, none⟩ = some (.int .i64 xn) ∧ X.cell? ⟨Bx, 2, none⟩ = some (.slice xa xl xc)) X := fun X h => ⟨(Joins.cell_of_block (h.trans hx1) 0), (Joins.cell_of_block (h.trans hx1) 1), (Joins.cell_of_block (h.trans hx1) 2)⟩
    have eA : (((w1.setCell ⟨r, L * 3, none⟩ (.int .i64 xk)).setCell ⟨r, L * 3 + 1, none⟩ (.int .i64 xn)).setCell ⟨r, L * 3 + 2, none⟩ (.slice xa xl xc)).heap[lb]? = w1.heap[lb]? := s3_blk w1 r (L * 3) xk xn (.slice xa xl xc) (Ne.symm hrl)
    have eB : ∀ b, b ≠ lb → (w1.setCell ⟨lb, 0, none⟩ (.slice (some ⟨r, 0, none⟩) (L + 1) c)).heap[b]? = w1.heap[b]? := fun b hb => sc_blk _ _ _ hb
    have fr : ∀ X Y : World, X.heap[r]? = Y.heap[r]? → ∀ i, X.frozen? ⟨r, i, none⟩ = Y.frozen? ⟨r, i, none⟩ := fun X Y h i => by unfold World.frozen?; rw [h]
    refine ⟨hSx _ rfl, Joins.unfrozen_of_block hl1 0, Joins.cell_of_block hl1 0, z0, z1, z2, z3, hrl, Ne.symm hrl, hSx _ (s3_blk w1 r (L * 3) xk xn (.slice xa xl xc) (Ne.symm hrx)), hSx _ (eB Bx n3), hSx _ ((sc_blk _ _ _ n3).trans (s3_blk w1 r (L * 3) xk xn (.slice xa xl xc) (Ne.symm hrx))), hSx _ ((s3_blk _ r (L * 3) xk xn (.slice xa xl xc) (Ne.symm hrx)).trans (eB Bx n3)), ⟨Joins.cell_of_block (eA.trans hl1) 0, Joins.unfrozen_of_block (eA.trans hl1) 0⟩, ⟨?_, ?_, ?_⟩, fun i => (fr _ _ (eB r hrl) i).trans (z0 i)⟩
    · rw [World.cell?_of_block (a := ⟨r, L * 3, none⟩) (eB r hrl)]; exact z1
    · rw [World.cell?_of_block (a := ⟨r, L * 3 + 1, none⟩) (eB r hrl)]; exact z2
    · rw [World.cell?_of_block (a := ⟨r, L * 3 + 2, none⟩) (eB r hrl)]; exact z3
  have hLL : (L : Int) < (L : Int) + 1 := by omega
  clear hbx hlb hown hB n1 n2 n3 hbxA hlbA
  refine wpIn_mono (Q := qG (GnE B L lb (.slice ao L cp) xs xk xn (.slice xa xl xc) W.drew) fun r c => { tmps := #[s0, s1, s2, s3, s4, s5, s6, s7, s8, .pointer (some ⟨lb, 0, none⟩), .pointer (some ⟨Bx, 0, none⟩), s11, s12, s13, s14, s15, s16, s17, .slice ao L cp, .agg #[.int .i64 xk, .int .i64 xn, .slice xa xl xc], .int .i64 (L : Int), .slice (some ⟨W.heap.size, 0, none⟩) 1 1, .slice (some ⟨r, 0, none⟩) (L + 1) c, .pointer (some ⟨r, L * 3, none⟩), s24, s25, s26, s27, s28, s29, s30, s31], defers := [] }) ?_ ?_
  · refine HIn.round (S := fun X : World => X.cell? ⟨Bx, 0, none⟩ = some (.int .i64 xk) ∧ X.cell? ⟨Bx, 1, none⟩ = some (.int .i64 xn) ∧ X.cell? ⟨Bx, 2, none⟩ = some (.slice xa xl xc)) l rfl (by kernel_rfl) hmix ?_
    clear hQ
    refine HIn.take (i := 1) (v := .agg #[.int .i64 xk, .int .i64 xn, .slice xa xl xc]) rfl rfl (by kernel_rfl) (by kernel_rfl) (by kernel_rfl) (fun _ _ _ h => h) ⟨fun _ => rfl, Or.inl ⟨by kernel_rfl, fun w hw => by obtain ⟨e0, e1, e2⟩ := hw; go_simp⟩⟩ hS ?_
    refine HIn.two (i := 0) (j := 3) rfl rfl (by kernel_rfl) (fun K hK => ?_) (fun K hK => ?_)
    · go_simp
      refine hK _ _ hS ?_
      clear hK K
      refine HIn.take (i := 2) (v := .int .i64 (L : Int)) rfl rfl (by kernel_rfl) (by kernel_rfl) (by kernel_rfl) (fun _ _ _ h => h) ⟨fun _ => rfl, Or.inl ⟨by kernel_rfl, fun w hw => by obtain ⟨e0, e1, e2⟩ := hw; go_simp⟩⟩ hS ?_
      refine HIn.one (i := 3) rfl (by kernel_rfl) (fun K hK => ?_)
      go_simp
      refine hK _ _ hSA ?_
      clear hK K
      refine HIn.one (i := 4) rfl (by kernel_rfl) (fun K hK => ?_)
      refine stepIn_ord rfl (fun _ => trivial) rfl (.tmp 18) (.tmp 21) rfl B L (.slice ao L cp) xs (by simp [Act.eval]) hownA W.heap.size 1 (by simp [Act.eval]) hzA hL hBA ?_
      intro r c w1 hown1 hg1 hr1
      obtain ⟨a1, a2, a3, a4, a5, a6, a7, a8, a9, b1, b2, b3, b4, b5, b6⟩ := hfac r c w1 hown1 hg1 hr1
      refine hK _ _ a1 ?_
      clear hK K
      refine HIn.take (i := 5) (v := .pointer (some ⟨r, L * 3, none⟩)) rfl rfl (by kernel_rfl) (by kernel_rfl) (by kernel_rfl) (fun _ _ _ h => h) ⟨fun _ => rfl, Or.inl ⟨by kernel_rfl, fun w hw => by obtain ⟨e0, e1, e2⟩ := hw; go_simp⟩⟩ a1 ?_
      refine HIn.two (i := 6) (j := 7) rfl rfl (by kernel_rfl) (fun K hK => ?_) (fun K hK => ?_)
      · go_simp
        refine hK _ _ b1 ?_
        clear hK K
        refine HIn.one (i := 7) rfl (by kernel_rfl) (fun K hK => ?_)
        go_simp
        refine hK _ _ b3 ?_
        clear hK K
        refine HIn.done (by kernel_rfl) ?_ _
        exact ⟨r, c, rfl, w1, hown1, hg1, hr1, .inl rfl⟩
      · go_simp
        refine hK _ _ b2 ?_
        clear hK K
        obtain ⟨⟨c1, c2, c3⟩, cf⟩ := b6
        refine HIn.one (i := 6) rfl (by kernel_rfl) (fun K hK => ?_)
        go_simp
        refine hK _ _ b4 ?_
        clear hK K
        refine HIn.done (by kernel_rfl) ?_ _
        exact ⟨r, c, rfl, w1, hown1, hg1, hr1, .inr rfl⟩
    · go_simp
      refine hK _ _ hSA ?_
      clear hK K
      refine HIn.one (i := 0) rfl (by kernel_rfl) (fun K hK => ?_)
      go_simp
      refine hK _ _ hSA ?_
      clear hK K
      refine HIn.take (i := 2) (v := .int .i64 (L : Int)) rfl rfl (by kernel_rfl) (by kernel_rfl) (by kernel_rfl) (fun _ _ _ h => h) ⟨fun _ => rfl, Or.inl ⟨by kernel_rfl, fun w hw => by obtain ⟨e0, e1, e2⟩ := hw; go_simp⟩⟩ hSA ?_
      refine HIn.one (i := 4) rfl (by kernel_rfl) (fun K hK => ?_)
      refine stepIn_ord rfl (fun _ => trivial) rfl (.tmp 18) (.tmp 21) rfl B L (.slice ao L cp) xs (by simp [Act.eval, Act.put]) hownA W.heap.size 1 (by simp [Act.eval, Act.put]) hzA hL hBA ?_
      intro r c w1 hown1 hg1 hr1
      obtain ⟨a1, a2, a3, a4, a5, a6, a7, a8, a9, b1, b2, b3, b4, b5, b6⟩ := hfac r c w1 hown1 hg1 hr1
      refine hK _ _ a1 ?_
      clear hK K
      refine HIn.take (i := 5) (v := .pointer (some ⟨r, L * 3, none⟩)) rfl rfl (by kernel_rfl) (by kernel_rfl) (by kernel_rfl) (fun _ _ _ h => h) ⟨fun _ => rfl, Or.inl ⟨by kernel_rfl, fun w hw => by obtain ⟨e0, e1, e2⟩ := hw; go_simp⟩⟩ a1 ?_
      refine HIn.two (i := 6) (j := 7) rfl rfl (by kernel_rfl) (fun K hK => ?_) (fun K hK => ?_)
      · go_simp
        refine hK _ _ b1 ?_
        clear hK K
        refine HIn.one (i := 7) rfl (by kernel_rfl) (fun K hK => ?_)
        go_simp
        refine hK _ _ b3 ?_
        clear hK K
        refine HIn.done (by kernel_rfl) ?_ _
        exact ⟨r, c, rfl, w1, hown1, hg1, hr1, .inl rfl⟩
      · go_simp
        refine hK _ _ b2 ?_
        clear hK K
        obtain ⟨⟨c1, c2, c3⟩, cf⟩ := b6
        refine HIn.one (i := 6) rfl (by kernel_rfl) (fun K hK => ?_)
        go_simp
        refine hK _ _ b4 ?_
        clear hK K
        refine HIn.done (by kernel_rfl) ?_ _
        exact ⟨r, c, rfl, w1, hown1, hg1, hr1, .inr rfl⟩
  · intro e a w h
    cases e <;> first | exact h.elim | (obtain ⟨r, c, rfl, h⟩ := h; exact hQ r c w h)
/-- while gone gathers: its list at lv, the orders in UU; from g on its boxes lie, at lb the list's -/
structure GP4 (g lb : Nat) (top : Int) (W0 : World) (pre : List Tr) (Ui : Nat → Prop) (W : World) (lv : Value) (ss : List Value) (UU : Nat → Prop) : Prop where
  lo : Lrw (g + 4) UU W lv pre ss
  bl : W.heap[lb]? = some (.cells #[lv] 22 (0, 0))
  b1 : W.heap[g + 1]? = some (.cells #[.int .i64 top] 3 (0, 0))
  b2 : W.heap[g + 2]? = some (.cells #[.slice none 0 0] 22 (0, 0))
  b3 : W.heap[g + 3]? = some (.cells #[.bool false] 4 (0, 0))
  uu : ∀ b, UU b → g + 4 ≤ b ∧ b ≠ lb ∧ b < W.heap.size
  kt : KT (fun b => g ≤ b) W0 W
  sz : W0.heap.size = g
  gl : g + 4 ≤ lb
  ui : ∀ b, UU b ∨ lv.ownBlock = some b ∨ b = lb ∨ b < g + 4 → Ui b
def GI (g lb : Nat) (top : Int) (W0 : World) (pre : List Tr) (Ui : Nat → Prop) (W : World) : Prop := ∃ lv ss UU, GP4 g lb top W0 pre Ui W lv ss UU
theorem GI.stb {g lb : Nat} {top : Int} {W0 : World} : Stb (GI g lb top W0) := by
  rintro s U W W' T ⟨lv, ss, UU, h⟩ hk ha
  have hT : ∀ b, U b → ¬ T b := fun b hu ht => ha b ht hu
  have nT : ∀ b, b < g + 4 → ¬ T b := fun b hb => hT b (h.ui b (.inr (.inr (.inr hb))))
  refine ⟨lv, ss, UU, h.lo.kt hk (fun b ht => ⟨fun e => ha b ht (h.ui b (.inr (.inl e))), fun u => ha b ht (h.ui b (.inl u))⟩), (hk.block _ (blk_lt h.bl) (hT _ (h.ui _ (.inr (.inr (.inl rfl)))))).trans h.bl, (hk.block _ (blk_lt h.b1) (nT _ (by omega))).trans h.b1, (hk.block _ (blk_lt h.b2) (nT _ (by omega))).trans h.b2, (hk.block _ (blk_lt h.b3) (nT _ (by omega))).trans h.b3, fun b hb => ⟨(h.uu b hb).1, (h.uu b hb).2.1, Nat.lt_of_lt_of_le (h.uu b hb).2.2 hk.size⟩, ⟨hk.os.trans h.kt.os, hk.tape.trans h.kt.tape, hk.output.trans h.kt.output, Nat.le_trans h.kt.size hk.size, fun b hb hn => (hk.block b (Nat.lt_of_lt_of_le hb h.kt.size) (nT b (by have := h.sz; omega))).trans (h.kt.block b hb hn)⟩, h.sz, h.gl, h.ui⟩
/-- one more is gathered -/
theorem GP4.push {g lb : Nat} {top : Int} {W0 : World} {pre : List Tr} {Ui O : Nat → Prop} {W W2 : World} {ao : Option Addr} {cp : Nat} {ss : List Value} {UU : Nat → Prop} {x : Tr} {xa : Option Addr} {xc r c lo : Nat}
    (h : GP4 g lb top W0 pre Ui W (.slice ao pre.length cp) ss UU) (ho : Os O W x (.agg #[.int .i64 x.k, .int .i64 x.n, .slice xa x.ks.length xc])) (hOl : ∀ b, O b → b < lo) (hlo : lo ≤ W.heap.size) (hOU : Ap O Ui) (hg : GnE (g + 4) pre.length lb (.slice ao pre.length cp) (cso pre ss) x.k x.n (.slice xa x.ks.length xc) W.drew r c W2) :
    GP4 g lb top W0 (pre ++ [x]) (fun b => Ui b ∨ O b ∨ b = r) W2 (.slice (some ⟨r, 0, none⟩) (pre.length + 1) c) (ss ++ [.slice xa x.ks.length xc]) (fun b => UU b ∨ O b) ∧ KT (fun b => Ui b ∨ W.heap.size ≤ b) W W2 ∧ (Ui r ∨ W.heap.size ≤ r) ∧ r < W2.heap.size := by
  obtain ⟨w1, q1, q2, q3, q4⟩ := hg
  have hlen : (cso pre ss).length = pre.length * 3 := cso_len _ _ h.lo.len
  have es : W.drew.heap.size = W.heap.size := rfl
  have hsA : (W.drew.alloc (.cells #[.int .i64 0, .int .i64 0, .slice none 0 0] 24)).heap.size = W.heap.size + 1 := World.size_alloc W.drew _
  have hblk : ∀ b, b < W.heap.size → (Value.slice ao pre.length cp).ownBlock ≠ some b → w1.heap[b]? = W.heap[b]? := fun b hb hn => (q2.block b (by omega) (fun e => hn e.symm)).trans (Below.heap_alloc W.drew _ b hb)
  have hnl : (Value.slice ao pre.length cp).ownBlock ≠ some lb := fun e => by
    obtain ⟨_, _, cs, h2⟩ := own_ty h.lo.own e
    rw [h.bl] at h2; injection h2 with h2; injection h2 with _ h2; exact absurd h2 (by decide)
  have hrl : r ≠ lb := fun e => by
    rcases q3 with q | q
    · exact hnl (e ▸ q)
    · have := blk_lt h.bl; omega
  have hrU : Ui r ∨ W.heap.size ≤ r := by
    rcases q3 with q | q
    · exact .inl (h.ui r (.inr (.inl q)))
    · exact .inr (by omega)
  have hrg : g + 4 ≤ r := (own_ty q1 rfl).1
  have hrs : r < w1.heap.size := (own_ty q1 rfl).2.1
  have k1 : KT (fun b => (Value.slice ao pre.length cp).ownBlock = some b ∨ W.heap.size ≤ b) W w1 := ⟨q2.os, q2.tape, q2.output, by have := q2.size; omega, fun b hb hn => hblk b hb (fun e => hn (.inl e))⟩
  have k2 : KT (fun b => b = r ∨ b = lb) w1 W2 ∧ W2.ownsRow (g + 4) 24 3 (.slice (some ⟨r, 0, none⟩) (pre.length + 1) c) (pre.length + 1) (cso pre ss ++ [.int .i64 x.k, .int .i64 x.n, .slice xa x.ks.length xc]) ∧ W2.heap[lb]? = some (.cells #[.slice (some ⟨r, 0, none⟩) (pre.length + 1) c] 22 (0, 0)) := by
    have hl1 : w1.heap[lb]? = some (.cells #[.slice ao pre.length cp] 22 (0, 0)) := (hblk lb (blk_lt h.bl) hnl).trans h.bl
    rcases q4 with rfl | rfl
    · refine ⟨((((KT.refl _ w1).sc _ (.inl rfl)).sc _ (.inl rfl)).sc _ (.inl rfl)).sc _ (.inr rfl), own_keep (own_set3 q1 hlen _ _ _) (fun b e => sc_blk _ _ _ (by cases e; exact hrl)), ?_⟩
      rw [hsc ((s3_blk _ _ _ _ _ _ (Ne.symm hrl)).trans hl1)]; rfl
    · refine ⟨((((KT.refl _ w1).sc _ (.inr rfl)).sc _ (.inl rfl)).sc _ (.inl rfl)).sc _ (.inl rfl), own_set3 (own_keep q1 fun b e => sc_blk _ _ _ (by cases e; exact hrl)) hlen _ _ _, ?_⟩
      rw [s3_blk _ _ _ _ _ _ (Ne.symm hrl), hsc hl1]; rfl
  obtain ⟨k2, k3, k4⟩ := k2
  have k5 : KT (fun b => (Value.slice ao pre.length cp).ownBlock = some b ∨ W.heap.size ≤ b ∨ b = r ∨ b = lb) W W2 := (k1.weak fun b _ e => by rcases e with e | e; exact .inl e; exact .inr (.inl e)).trans (k2.weak fun b _ e => .inr (.inr e))
  have k6 : ∀ b, b < W.heap.size → (Value.slice ao pre.length cp).ownBlock ≠ some b → b ≠ lb → W2.heap[b]? = W.heap[b]? := fun b hb h1 h2 => k5.block b hb (by
    rintro (e | e | e | e)
    · exact h1 e
    · omega
    · rcases q3 with q | q
      · exact h1 (e ▸ q)
      · omega
    · exact h2 e)
  have kU : ∀ b, (UU b ∨ O b) → b < W.heap.size → W2.heap[b]? = W.heap[b]? := fun b hb hl => by
    rcases hb with hb | hb
    · exact k6 b hl (fun e => h.lo.nu b e hb) (h.uu b hb).2.1
    · exact k6 b hl (fun e => hOU b hb (h.ui b (.inr (.inl e)))) (fun e => hOU b hb (h.ui b (.inr (.inr (.inl e)))))
  have nG : ∀ b, b < g + 4 → W2.heap[b]? = W.heap[b]? := fun b hb => k6 b (by have := blk_lt h.bl; have := h.gl; omega) (fun e => by have := (h.lo.ge e).1; omega) (by have := h.gl; omega)
  refine ⟨⟨⟨?_, by simp [h.lo.len], fun s hs => ?_, fun j t s h1 h2 => ?_, fun b e hb => ?_⟩, k4, (nG _ (by omega)).trans h.b1, (nG _ (by omega)).trans h.b2, (nG _ (by omega)).trans h.b3, fun b hb => ?_, ⟨k5.os.trans h.kt.os, k5.tape.trans h.kt.tape, k5.output.trans h.kt.output, Nat.le_trans h.kt.size k5.size, fun b hb hn => (nG b (by have := h.sz; omega)).trans (h.kt.block b hb hn)⟩, h.sz, h.gl, fun b hb => ?_⟩, k5.weak fun b _ e => ?_, hrU, Nat.lt_of_lt_of_le hrs k2.size⟩
  · rw [cso_snoc _ _ _ _ h.lo.len, List.length_append]; exact k3
  · rcases List.mem_append.1 hs with e | e
    · exact h.lo.sl s e
    · rw [List.mem_singleton] at e; subst e; exact ⟨_, _, _, rfl⟩
  · by_cases hj : j < pre.length
    · rw [List.getElem?_append_left hj] at h1
      rw [List.getElem?_append_left (by rw [h.lo.len]; exact hj)] at h2
      exact Os.keep (fun _ hb => .inl hb) (fun b hb hl => kU b (.inl hb) hl) _ _ (h.lo.kid j t s h1 h2)
    · rw [List.getElem?_append_right (by omega)] at h1
      rw [List.getElem?_append_right (by rw [h.lo.len]; omega), h.lo.len] at h2
      match hd : j - pre.length, h1, h2 with
      | 0, h1, h2 =>
        simp at h1 h2
        subst h1 h2
        exact Os.keep (fun _ hb => .inr hb) (fun b hb hl => kU b (.inr hb) hl) _ _ ho
      | n + 1, h1, h2 => simp at h1
  · cases e
    rcases q3 with q | q
    · rcases hb with hb | hb
      · exact h.lo.nu r q hb
      · exact hOU r hb (h.ui r (.inr (.inl q)))
    · rcases hb with hb | hb
      · have := (h.uu r hb).2.2; omega
      · have := hOl r hb; omega
  · rcases hb with hb | hb
    · exact ⟨(h.uu b hb).1, (h.uu b hb).2.1, Nat.lt_of_lt_of_le (h.uu b hb).2.2 k5.size⟩
    · refine ⟨?_, fun e => hOU b hb (h.ui b (.inr (.inr (.inl e)))), by have := hOl b hb; have := k5.size; omega⟩
      apply Nat.le_of_not_lt
      intro hl
      exact hOU b hb (h.ui b (.inr (.inr (.inr hl))))
  · rcases hb with (hb | hb) | hb | hb | hb
    · exact .inl (h.ui b (.inl hb))
    · exact .inr (.inl hb)
    · cases hb; exact .inr (.inr rfl)
    · exact .inl (h.ui b (.inr (.inr (.inl hb))))
    · exact .inl (h.ui b (.inr (.inr (.inr hb))))
  · rcases e with e | e | e | e
    · exact .inl (h.ui b (.inr (.inl e)))
    · exact .inr e
    · rw [e]; exact hrU
    · exact .inl (h.ui b (.inr (.inr (.inl e))))
end Go.Proofs.YtoaccmblaifnmaaDoor
