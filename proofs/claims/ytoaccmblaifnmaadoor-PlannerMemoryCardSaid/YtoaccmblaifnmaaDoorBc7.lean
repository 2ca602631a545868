/-
  Package planner's orders: the regions that draw their order: one in a round, one behind the loop.
-/
import Derived.Test.YtoaccmblaifnmaaDoorProg
import Derived.WalkKit
import Ieee.Arith
import Derived.WalkLawsBesides
import Derived.Outline
import Derived.Deep.QuietTactic
import Derived.BigQuiet
import Derived.WalkSmall
import Derived.RegionTactic
import Derived.Lib.Mul64
import Derived.Laws.Bits64b
import Derived.Deep.CutBlock
import Derived.Deep.DeepCutAuto
import Derived.Maps.AppendAt
import Derived.Deep.RegionHeld3
import Derived.Deep.RegionWith
import Derived.Laws.OwnMore
import Derived.RangeFuncNested
import Derived.RangeFuncBound
import Derived.RangeFuncCalls
import Derived.RangeFuncLeaves
import Derived.RangeFuncBox
import Derived.Shelf.Abstract
import Derived.Shelf.RegionOpen
import Derived.OwnWalkIn
import Derived.TacticsInMore
import Derived.LoopNIn
import Derived.LoopIn
import Derived.Laws.Rows
import Derived.Lib.ItoaNum
import Derived.Laws.IdiomStrings
import Derived.Lib.SmallJoins
import Derived.Lib.HexFns
import Derived.Test.YtoaccmblaifnmaaDoorRows
import Derived.LaidEql
import Derived.LaidLaws
import Derived.LaidHandle
import Derived.Stop.Joined
import Derived.Recover
import Derived.RegionDies
import Derived.Laws.CopyOwn
import Derived.Lib.AppendIntMem
import Derived.Laws.AppendOwn
import Derived.OwnWalk
import Derived.BigCall
import Derived.Deep.RegionHeldLaw
import Derived.Laws.FloatArith
import Derived.Laws.ComplexArith
import Derived.Laws.MakeOwn
import Derived.MapKept
import Derived.Carry
import Derived.Test.YtoaccmblaifnmaaDoorBc6
namespace Go.Proofs.YtoaccmblaifnmaaDoor
open Flo Go.RowKit Go.Shelf
/-- a call that is passed over -/
theorem HIn.pass {F : Fence} {n : Nat} {P : Program} {ops : Array Oper} {Q : Exit → Act → World → Prop} {md : Region.Mode} {S : World → Prop} {i : Nat} {o : Oper} {m : Nat} {ls : Array Bool} {a : Act} {w : World} (hi : ops[i]? = some o) (hr : Region.ready md ops ls = [i])
    (hw : Region.wanted o (yielded ops a.tmps) = false) (hF : ∀ f, F.fn f) (hS : S w) (h : HIn F n P md ops Q S m (ls.setIfInBounds i true) (a.put o.dst undef) w) : HIn F n P md ops Q S (m + 1) ls a w :=
  HIn.one hi hr fun K hK => by
    rw [if_neg (by rw [hw]; decide)]
    exact ⟨fun f _ => hF f, hK _ _ hS h⟩
def qO (V1 V2 : World → Prop) (mk : Value → Value → Bool → Act) : Exit → Act → World → Prop
  | .normal, a, w => (∃ kv f, a = mk kv f true ∧ V1 w) ∨ (∃ kv f, a = mk kv f false ∧ V2 w)
  | _, _, _ => False
def qS (V1 : World → Prop) (A : Act) : Exit → Act → World → Prop
  | .normal, a, w => a = A ∧ V1 w
  | _, _, _ => False
set_option maxRecDepth 100000 in
set_option maxHeartbeats 8000000 in
theorem ordG_reg {m l l0 g B1 B2 B3 h n a q gs : Nat} {s0 s5 s6 s8 s9 s10 s11 s12 s13 s14 s15 s16 s17 s18 s19 s20 s21 s22 s23 s24 s25 s26 s27 s28 s29 s30 s31 s32 s33 s34 s35 s36 s37 s38 s39 s40 s41 s42 s43 s44 s45 s46 s47 s48 s49 s50 s51 s52 s53 s54 s55 s56 : Value} {W : World} {Q : Exit → Act → World → Prop} {Z1 : Value → World → Prop} {Z2 : Value → Nat → Array Value → World → Prop} {V1 V2 : World → Prop}
    (hS : (fun X : World => X.cell? ⟨B1, 0, none⟩ = some (.pointer (some ⟨h, 0, none⟩)) ∧ X.cell? ⟨B2, 0, none⟩ = some (.int .i64 (n : Int)) ∧ X.cell? ⟨B3, 0, none⟩ = some (.func (.func gs) #[.pointer (some ⟨h, 0, none⟩)] #[]) ∧ X.cell? ⟨g, 0, none⟩ = some (.func (.yield l0) #[] #[])) W.drew) (egs : ∀ args w, (callFunc gs args).run Tryd.prog w = .ok (.enter gs args) w) (ha1 : (a : Int) > 1) (ha2 : (a : Int) < (n : Int)) (hq : (n : Int) / (a : Int) = (q : Int)) (hwq : IntKind.i64.wrap (q : Int) = (q : Int))
    (hc1 : Calls Tryd.prog 93 #[.pointer (some ⟨h, 0, none⟩), .int .i64 (a : Int)] W.drew fun e W1 => ∃ kv, e = .returned kv ∧ (fun X : World => X.cell? ⟨B1, 0, none⟩ = some (.pointer (some ⟨h, 0, none⟩)) ∧ X.cell? ⟨B2, 0, none⟩ = some (.int .i64 (n : Int)) ∧ X.cell? ⟨B3, 0, none⟩ = some (.func (.func gs) #[.pointer (some ⟨h, 0, none⟩)] #[]) ∧ X.cell? ⟨g, 0, none⟩ = some (.func (.yield l0) #[] #[])) W1 ∧ Z1 kv W1)
    (hc2 : ∀ kv W1, Z1 kv W1 → Calls Tryd.prog gs #[.pointer (some ⟨h, 0, none⟩), .int .i64 (q : Int)] W1 fun e W2 => ∃ g2 lb2, e = .returned (.func (.func g2) #[] lb2) ∧ (fun X : World => X.cell? ⟨B1, 0, none⟩ = some (.pointer (some ⟨h, 0, none⟩)) ∧ X.cell? ⟨B2, 0, none⟩ = some (.int .i64 (n : Int)) ∧ X.cell? ⟨B3, 0, none⟩ = some (.func (.func gs) #[.pointer (some ⟨h, 0, none⟩)] #[]) ∧ X.cell? ⟨g, 0, none⟩ = some (.func (.yield l0) #[] #[])) W2 ∧ Z2 kv g2 lb2 W2)
    (hc3 : ∀ kv g2 lb2 W2, Z2 kv g2 lb2 W2 → Calls Tryd.prog 95 #[kv, .func (.func g2) #[] lb2, .func (.yield l0) #[] #[]] W2 fun e W3 => ((e = .returned (.bool true) ∧ V1 W3) ∨ (e = .returned (.bool false) ∧ V2 W3)) ∧ (fun X : World => X.cell? ⟨B1, 0, none⟩ = some (.pointer (some ⟨h, 0, none⟩)) ∧ X.cell? ⟨B2, 0, none⟩ = some (.int .i64 (n : Int)) ∧ X.cell? ⟨B3, 0, none⟩ = some (.func (.func gs) #[.pointer (some ⟨h, 0, none⟩)] #[]) ∧ X.cell? ⟨g, 0, none⟩ = some (.func (.yield l0) #[] #[])) W3)
    (hQ : ∀ kv f b W', (b = true ∧ V1 W') ∨ (b = false ∧ V2 W') → Q .normal { tmps := #[s0, .pointer (some ⟨B1, 0, none⟩), .pointer (some ⟨B2, 0, none⟩), .pointer (some ⟨B3, 0, none⟩), .pointer (some ⟨g, 0, none⟩), s5, s6, .int .i64 (a : Int), s8, s9, s10, s11, s12, s13, s14, s15, s16, s17, s18, s19, s20, s21, s22, s23, s24, .int .i64 (a : Int), .bool true, .bool true, .int .i64 (a : Int), .int .i64 (n : Int), .bool true, .bool true, .bool true, .pointer (some ⟨h, 0, none⟩), .int .i64 (a : Int), kv, .func (.func gs) #[.pointer (some ⟨h, 0, none⟩)] #[], .int .i64 (n : Int), .int .i64 (a : Int), .int .i64 (q : Int), f, .func (.yield l0) #[] #[], .bool b, .bool (!b), .bool (!b), s45, s46, s47, s48, s49, s50, s51, s52, s53, s54, s55, s56], defers := [] } W') :
    (Code.region 8 #[{ dst := some 25, op := Go.Op.move (Go.Operand.tmp 7), type := 3, pos := "search.go:57", after := #[], guard := none },
      { dst := some 26, op := Go.Op.binOp Go.BinOp.gtr 3 (Go.Operand.tmp 25) (Go.Operand.const (Go.Value.int Go.IntKind.i64 1)) 3, type := 4, pos := "search.go:57", after := #[{ on := 0, ground := Go.Ground.data }], guard := none },
      { dst := some 27, op := Go.Op.move (Go.Operand.tmp 26), type := 4, pos := "search.go:57", after := #[{ on := 1, ground := Go.Ground.data }], guard := none },
      { dst := some 28, op := Go.Op.move (Go.Operand.tmp 7), type := 3, pos := "search.go:57", after := #[{ on := 2, ground := Go.Ground.guard }], guard := some (2, true) },
      { dst := some 29, op := Go.Op.load 3 (Go.Operand.tmp 2), type := 3, pos := "search.go:57", after := #[{ on := 2, ground := Go.Ground.guard }], guard := some (2, true) },
      { dst := some 30, op := Go.Op.binOp Go.BinOp.lss 3 (Go.Operand.tmp 28) (Go.Operand.tmp 29) 3, type := 4, pos := "search.go:57", after := #[{ on := 3, ground := Go.Ground.data }, { on := 4, ground := Go.Ground.data }, { on := 2, ground := Go.Ground.guard }], guard := some (2, true) },
      { dst := some 31, op := Go.Op.pick (Go.Operand.tmp 27) (Go.Operand.tmp 30) (Go.Operand.const (Go.Value.bool false)), type := 4, pos := "search.go:57", after := #[{ on := 2, ground := Go.Ground.data }, { on := 5, ground := Go.Ground.data }], guard := none },
      { dst := some 32, op := Go.Op.move (Go.Operand.tmp 31), type := 4, pos := "search.go:57", after := #[{ on := 6, ground := Go.Ground.data }, { on := 2, ground := Go.Ground.chain }], guard := none },
      { dst := some 33, op := Go.Op.load 74 (Go.Operand.tmp 1), type := 74, pos := "search.go:57", after := #[{ on := 7, ground := Go.Ground.guard }], guard := some (7, true) },
      { dst := some 34, op := Go.Op.move (Go.Operand.tmp 7), type := 3, pos := "search.go:57", after := #[{ on := 7, ground := Go.Ground.guard }], guard := some (7, true) },
      { dst := some 35, op := Go.Op.call { callee := Go.Callee.value (Go.Operand.func 93), args := #[Go.Operand.tmp 33, Go.Operand.tmp 34], argTypes := #[74, 3] }, type := 22, pos := "search.go:57", after := #[{ on := 8, ground := Go.Ground.data }, { on := 9, ground := Go.Ground.data }, { on := 7, ground := Go.Ground.chain }, { on := 7, ground := Go.Ground.guard }], guard := some (7, true) },
      { dst := some 36, op := Go.Op.load 93 (Go.Operand.tmp 3), type := 93, pos := "search.go:57", after := #[{ on := 7, ground := Go.Ground.guard }], guard := some (7, true) },
      { dst := some 37, op := Go.Op.load 3 (Go.Operand.tmp 2), type := 3, pos := "search.go:57", after := #[{ on := 7, ground := Go.Ground.guard }], guard := some (7, true) },
      { dst := some 38, op := Go.Op.move (Go.Operand.tmp 7), type := 3, pos := "search.go:57", after := #[{ on := 7, ground := Go.Ground.guard }], guard := some (7, true) },
      { dst := some 39, op := Go.Op.binOp Go.BinOp.quo 3 (Go.Operand.tmp 37) (Go.Operand.tmp 38) 3, type := 3, pos := "search.go:57", after := #[{ on := 12, ground := Go.Ground.data }, { on := 13, ground := Go.Ground.data }, { on := 7, ground := Go.Ground.guard }], guard := some (7, true) },
      { dst := some 40, op := Go.Op.call { callee := Go.Callee.value (Go.Operand.tmp 36), args := #[Go.Operand.tmp 39], argTypes := #[3] }, type := 63, pos := "search.go:57", after := #[{ on := 11, ground := Go.Ground.data }, { on := 14, ground := Go.Ground.data }, { on := 10, ground := Go.Ground.chain }, { on := 7, ground := Go.Ground.guard }], guard := some (7, true) },
      { dst := some 41, op := Go.Op.load 26 (Go.Operand.tmp 4), type := 26, pos := "search.go:57", after := #[{ on := 7, ground := Go.Ground.guard }], guard := some (7, true) },
      { dst := some 42, op := Go.Op.call { callee := Go.Callee.value (Go.Operand.func 95), args := #[Go.Operand.tmp 35, Go.Operand.tmp 40, Go.Operand.tmp 41], argTypes := #[22, 63, 26] }, type := 4, pos := "search.go:57", after := #[{ on := 10, ground := Go.Ground.data }, { on := 15, ground := Go.Ground.data }, { on := 16, ground := Go.Ground.data }, { on := 15, ground := Go.Ground.chain }, { on := 7, ground := Go.Ground.guard }], guard := some (7, true) },
      { dst := some 43, op := Go.Op.unOp Go.UnOp.not 4 (Go.Operand.tmp 42), type := 4, pos := "search.go:57", after := #[{ on := 17, ground := Go.Ground.data }, { on := 7, ground := Go.Ground.guard }], guard := some (7, true) },
      { dst := some 44, op := Go.Op.pick (Go.Operand.tmp 32) (Go.Operand.tmp 43) (Go.Operand.const (Go.Value.bool false)), type := 4, pos := "search.go:57", after := #[{ on := 7, ground := Go.Ground.data }, { on := 18, ground := Go.Ground.data }], guard := none }] true).wpIn (Fence.wide.inRound l) m Tryd.prog Q { tmps := #[s0, .pointer (some ⟨B1, 0, none⟩), .pointer (some ⟨B2, 0, none⟩), .pointer (some ⟨B3, 0, none⟩), .pointer (some ⟨g, 0, none⟩), s5, s6, .int .i64 (a : Int), s8, s9, s10, s11, s12, s13, s14, s15, s16, s17, s18, s19, s20, s21, s22, s23, s24, s25, s26, s27, s28, s29, s30, s31, s32, s33, s34, s35, s36, s37, s38, s39, s40, s41, s42, s43, s44, s45, s46, s47, s48, s49, s50, s51, s52, s53, s54, s55, s56], defers := [] } W := by
  have hmix : Tryd.prog.follows .mixedOrders = true := by kernel_rfl
  refine wpIn_mono (Q := qO V1 V2 fun kv f b => { tmps := #[s0, .pointer (some ⟨B1, 0, none⟩), .pointer (some ⟨B2, 0, none⟩), .pointer (some ⟨B3, 0, none⟩), .pointer (some ⟨g, 0, none⟩), s5, s6, .int .i64 (a : Int), s8, s9, s10, s11, s12, s13, s14, s15, s16, s17, s18, s19, s20, s21, s22, s23, s24, .int .i64 (a : Int), .bool true, .bool true, .int .i64 (a : Int), .int .i64 (n : Int), .bool true, .bool true, .bool true, .pointer (some ⟨h, 0, none⟩), .int .i64 (a : Int), kv, .func (.func gs) #[.pointer (some ⟨h, 0, none⟩)] #[], .int .i64 (n : Int), .int .i64 (a : Int), .int .i64 (q : Int), f, .func (.yield l0) #[] #[], .bool b, .bool (!b), .bool (!b), s45, s46, s47, s48, s49, s50, s51, s52, s53, s54, s55, s56], defers := [] }) ?_ ?_
  · refine HIn.round (S := fun X : World => X.cell? ⟨B1, 0, none⟩ = some (.pointer (some ⟨h, 0, none⟩)) ∧ X.cell? ⟨B2, 0, none⟩ = some (.int .i64 (n : Int)) ∧ X.cell? ⟨B3, 0, none⟩ = some (.func (.func gs) #[.pointer (some ⟨h, 0, none⟩)] #[]) ∧ X.cell? ⟨g, 0, none⟩ = some (.func (.yield l0) #[] #[])) l rfl (by kernel_rfl) hmix ?_
    clear hQ
    refine HIn.take (i := 0) (v := .int .i64 (a : Int)) rfl rfl (by kernel_rfl) (by kernel_rfl) (by kernel_rfl) (fun _ _ _ h => h) ⟨fun _ => rfl, Or.inl ⟨by kernel_rfl, fun w hw => by obtain ⟨e0, e1, e2, e3⟩ := hw; go_simp⟩⟩ hS ?_
    refine HIn.take (i := 1) (v := .bool true) rfl rfl (by kernel_rfl) (by kernel_rfl) (by kernel_rfl) (fun _ _ _ h => h) ⟨fun _ => rfl, Or.inl ⟨by kernel_rfl, fun w hw => by obtain ⟨e0, e1, e2, e3⟩ := hw; first | (go_simp; done) | (go_simp; omega)⟩⟩ hS ?_
    refine HIn.take (i := 2) (v := .bool true) rfl rfl (by kernel_rfl) (by kernel_rfl) (by kernel_rfl) (fun _ _ _ h => h) ⟨fun _ => rfl, Or.inl ⟨by kernel_rfl, fun w hw => by obtain ⟨e0, e1, e2, e3⟩ := hw; go_simp⟩⟩ hS ?_
    refine HIn.take (i := 3) (v := .int .i64 (a : Int)) rfl rfl (by kernel_rfl) (by kernel_rfl) (by kernel_rfl) (fun _ _ _ h => h) ⟨fun _ => rfl, Or.inl ⟨by kernel_rfl, fun w hw => by obtain ⟨e0, e1, e2, e3⟩ := hw; go_simp⟩⟩ hS ?_
    refine HIn.take (i := 4) (v := .int .i64 (n : Int)) rfl rfl (by kernel_rfl) (by kernel_rfl) (by kernel_rfl) (fun _ _ _ h => h) ⟨fun _ => rfl, Or.inl ⟨by kernel_rfl, fun w hw => by obtain ⟨e0, e1, e2, e3⟩ := hw; go_simp⟩⟩ hS ?_
    refine HIn.take (i := 5) (v := .bool true) rfl rfl (by kernel_rfl) (by kernel_rfl) (by kernel_rfl) (fun _ _ _ h => h) ⟨fun _ => rfl, Or.inl ⟨by kernel_rfl, fun w hw => by obtain ⟨e0, e1, e2, e3⟩ := hw; first | (go_simp; done) | (go_simp; omega)⟩⟩ hS ?_
    refine HIn.take (i := 6) (v := .bool true) rfl rfl (by kernel_rfl) (by kernel_rfl) (by kernel_rfl) (fun _ _ _ h => h) ⟨fun _ => rfl, Or.inl ⟨by kernel_rfl, fun w hw => by obtain ⟨e0, e1, e2, e3⟩ := hw; go_simp⟩⟩ hS ?_
    refine HIn.take (i := 7) (v := .bool true) rfl rfl (by kernel_rfl) (by kernel_rfl) (by kernel_rfl) (fun _ _ _ h => h) ⟨fun _ => rfl, Or.inl ⟨by kernel_rfl, fun w hw => by obtain ⟨e0, e1, e2, e3⟩ := hw; go_simp⟩⟩ hS ?_
    refine HIn.take (i := 8) (v := .pointer (some ⟨h, 0, none⟩)) rfl rfl (by kernel_rfl) (by kernel_rfl) (by kernel_rfl) (fun _ _ _ h => h) ⟨fun _ => rfl, Or.inl ⟨by kernel_rfl, fun w hw => by obtain ⟨e0, e1, e2, e3⟩ := hw; go_simp⟩⟩ hS ?_
    refine HIn.take (i := 9) (v := .int .i64 (a : Int)) rfl rfl (by kernel_rfl) (by kernel_rfl) (by kernel_rfl) (fun _ _ _ h => h) ⟨fun _ => rfl, Or.inl ⟨by kernel_rfl, fun w hw => by obtain ⟨e0, e1, e2, e3⟩ := hw; go_simp⟩⟩ hS ?_
    refine HIn.take (i := 11) (v := .func (.func gs) #[.pointer (some ⟨h, 0, none⟩)] #[]) rfl rfl (by kernel_rfl) (by kernel_rfl) (by kernel_rfl) (fun _ _ _ h => h) ⟨fun _ => rfl, Or.inl ⟨by kernel_rfl, fun w hw => by obtain ⟨e0, e1, e2, e3⟩ := hw; go_simp⟩⟩ hS ?_
    refine HIn.take (i := 12) (v := .int .i64 (n : Int)) rfl rfl (by kernel_rfl) (by kernel_rfl) (by kernel_rfl) (fun _ _ _ h => h) ⟨fun _ => rfl, Or.inl ⟨by kernel_rfl, fun w hw => by obtain ⟨e0, e1, e2, e3⟩ := hw; go_simp⟩⟩ hS ?_
    refine HIn.take (i := 13) (v := .int .i64 (a : Int)) rfl rfl (by kernel_rfl) (by kernel_rfl) (by kernel_rfl) (fun _ _ _ h => h) ⟨fun _ => rfl, Or.inl ⟨by kernel_rfl, fun w hw => by obtain ⟨e0, e1, e2, e3⟩ := hw; go_simp⟩⟩ hS ?_
    refine HIn.take (i := 14) (v := .int .i64 (q : Int)) rfl rfl (by kernel_rfl) (by kernel_rfl) (by kernel_rfl) (fun _ _ _ h => h) ⟨fun _ => rfl, Or.inl ⟨by kernel_rfl, fun w hw => by obtain ⟨e0, e1, e2, e3⟩ := hw; first | (go_simp; done) | (go_simp; omega)⟩⟩ hS ?_
    refine HIn.take (i := 16) (v := .func (.yield l0) #[] #[]) rfl rfl (by kernel_rfl) (by kernel_rfl) (by kernel_rfl) (fun _ _ _ h => h) ⟨fun _ => rfl, Or.inl ⟨by kernel_rfl, fun w hw => by obtain ⟨e0, e1, e2, e3⟩ := hw; go_simp⟩⟩ hS ?_
    refine HIn.one (i := 10) rfl (by kernel_rfl) (fun K hK => ?_)
    go_simp
    refine ⟨trivial, fun h => (by cases h), (callsIn_wide.2 hc1).mono ?_⟩
    rintro e W1 ⟨kv, rfl, hS1, z1⟩
    refine hK _ _ hS1 ?_
    clear hK K
    refine HIn.one (i := 15) rfl (by kernel_rfl) (fun K hK => ?_)
    have egs1 := egs
    go_simp
    refine ⟨trivial, fun h => (by cases h), (callsIn_wide.2 (hc2 kv W1 z1)).mono ?_⟩
    rintro e W2 ⟨g2, lb2, rfl, hS2, z2⟩
    refine hK _ _ hS2 ?_
    clear hK K
    refine HIn.one (i := 17) rfl (by kernel_rfl) (fun K hK => ?_)
    go_simp
    refine ⟨trivial, fun h => (by cases h), (callsIn_wide.2 (hc3 kv g2 lb2 W2 z2)).mono ?_⟩
    rintro e W3 ⟨(⟨rfl, h1⟩ | ⟨rfl, h1⟩), hS3⟩
    · refine hK _ _ hS3 ?_
      clear hK K
      refine HIn.take (i := 18) (v := .bool false) rfl rfl (by kernel_rfl) (by kernel_rfl) (by kernel_rfl) (fun _ _ _ h => h) ⟨fun _ => rfl, Or.inl ⟨by kernel_rfl, fun w hw => by obtain ⟨e0, e1, e2, e3⟩ := hw; go_simp⟩⟩ hS3 ?_
      refine HIn.take (i := 19) (v := .bool false) rfl rfl (by kernel_rfl) (by kernel_rfl) (by kernel_rfl) (fun _ _ _ h => h) ⟨fun _ => rfl, Or.inl ⟨by kernel_rfl, fun w hw => by obtain ⟨e0, e1, e2, e3⟩ := hw; go_simp⟩⟩ hS3 ?_
      refine HIn.done (by kernel_rfl) ?_ _
      exact .inl ⟨_, _, rfl, h1⟩
    · refine hK _ _ hS3 ?_
      clear hK K
      refine HIn.take (i := 18) (v := .bool true) rfl rfl (by kernel_rfl) (by kernel_rfl) (by kernel_rfl) (fun _ _ _ h => h) ⟨fun _ => rfl, Or.inl ⟨by kernel_rfl, fun w hw => by obtain ⟨e0, e1, e2, e3⟩ := hw; go_simp⟩⟩ hS3 ?_
      refine HIn.take (i := 19) (v := .bool true) rfl rfl (by kernel_rfl) (by kernel_rfl) (by kernel_rfl) (fun _ _ _ h => h) ⟨fun _ => rfl, Or.inl ⟨by kernel_rfl, fun w hw => by obtain ⟨e0, e1, e2, e3⟩ := hw; go_simp⟩⟩ hS3 ?_
      refine HIn.done (by kernel_rfl) ?_ _
      exact .inr ⟨_, _, rfl, h1⟩
  · intro e a w h
    cases e <;> first | exact h.elim | (rcases h with ⟨kv, f, rfl, h⟩ | ⟨kv, f, rfl, h⟩; exact hQ kv f true w (.inl ⟨rfl, h⟩); exact hQ kv f false w (.inr ⟨rfl, h⟩))
set_option maxRecDepth 100000 in
set_option maxHeartbeats 8000000 in
theorem ordA_reg {m l l0 g B1 B2 B3 h n a gs : Nat} {s0 s5 s6 s8 s9 s10 s11 s12 s13 s14 s15 s16 s17 s18 s19 s20 s21 s22 s23 s24 s25 s26 s27 s28 s29 s30 s31 s32 s33 s34 s35 s36 s37 s38 s39 s40 s41 s42 s43 s44 s45 s46 s47 s48 s49 s50 s51 s52 s53 s54 s55 s56 : Value} {W : World} {Q : Exit → Act → World → Prop} {V1 : World → Prop}
    (hS : (fun X : World => X.cell? ⟨B1, 0, none⟩ = some (.pointer (some ⟨h, 0, none⟩)) ∧ X.cell? ⟨B2, 0, none⟩ = some (.int .i64 (n : Int)) ∧ X.cell? ⟨B3, 0, none⟩ = some (.func (.func gs) #[.pointer (some ⟨h, 0, none⟩)] #[]) ∧ X.cell? ⟨g, 0, none⟩ = some (.func (.yield l0) #[] #[])) W.drew) (ha1 : ¬ (1 : Int) < (a : Int)) (h1 : V1 W.drew)
    (hQ : ∀ W', V1 W' → Q .normal { tmps := #[s0, .pointer (some ⟨B1, 0, none⟩), .pointer (some ⟨B2, 0, none⟩), .pointer (some ⟨B3, 0, none⟩), .pointer (some ⟨g, 0, none⟩), s5, s6, .int .i64 (a : Int), s8, s9, s10, s11, s12, s13, s14, s15, s16, s17, s18, s19, s20, s21, s22, s23, s24, .int .i64 (a : Int), .bool false, .bool false, undef, undef, undef, .bool false, .bool false, undef, undef, undef, undef, undef, undef, undef, undef, undef, undef, undef, .bool false, s45, s46, s47, s48, s49, s50, s51, s52, s53, s54, s55, s56], defers := [] } W') :
    (Code.region 8 #[{ dst := some 25, op := Go.Op.move (Go.Operand.tmp 7), type := 3, pos := "search.go:57", after := #[], guard := none },
      { dst := some 26, op := Go.Op.binOp Go.BinOp.gtr 3 (Go.Operand.tmp 25) (Go.Operand.const (Go.Value.int Go.IntKind.i64 1)) 3, type := 4, pos := "search.go:57", after := #[{ on := 0, ground := Go.Ground.data }], guard := none },
      { dst := some 27, op := Go.Op.move (Go.Operand.tmp 26), type := 4, pos := "search.go:57", after := #[{ on := 1, ground := Go.Ground.data }], guard := none },
      { dst := some 28, op := Go.Op.move (Go.Operand.tmp 7), type := 3, pos := "search.go:57", after := #[{ on := 2, ground := Go.Ground.guard }], guard := some (2, true) },
      { dst := some 29, op := Go.Op.load 3 (Go.Operand.tmp 2), type := 3, pos := "search.go:57", after := #[{ on := 2, ground := Go.Ground.guard }], guard := some (2, true) },
      { dst := some 30, op := Go.Op.binOp Go.BinOp.lss 3 (Go.Operand.tmp 28) (Go.Operand.tmp 29) 3, type := 4, pos := "search.go:57", after := #[{ on := 3, ground := Go.Ground.data }, { on := 4, ground := Go.Ground.data }, { on := 2, ground := Go.Ground.guard }], guard := some (2, true) },
      { dst := some 31, op := Go.Op.pick (Go.Operand.tmp 27) (Go.Operand.tmp 30) (Go.Operand.const (Go.Value.bool false)), type := 4, pos := "search.go:57", after := #[{ on := 2, ground := Go.Ground.data }, { on := 5, ground := Go.Ground.data }], guard := none },
      { dst := some 32, op := Go.Op.move (Go.Operand.tmp 31), type := 4, pos := "search.go:57", after := #[{ on := 6, ground := Go.Ground.data }, { on := 2, ground := Go.Ground.chain }], guard := none },
      { dst := some 33, op := Go.Op.load 74 (Go.Operand.tmp 1), type := 74, pos := "search.go:57", after := #[{ on := 7, ground := Go.Ground.guard }], guard := some (7, true) },
      { dst := some 34, op := Go.Op.move (Go.Operand.tmp 7), type := 3, pos := "search.go:57", after := #[{ on := 7, ground := Go.Ground.guard }], guard := some (7, true) },
      { dst := some 35, op := Go.Op.call { callee := Go.Callee.value (Go.Operand.func 93), args := #[Go.Operand.tmp 33, Go.Operand.tmp 34], argTypes := #[74, 3] }, type := 22, pos := "search.go:57", after := #[{ on := 8, ground := Go.Ground.data }, { on := 9, ground := Go.Ground.data }, { on := 7, ground := Go.Ground.chain }, { on := 7, ground := Go.Ground.guard }], guard := some (7, true) },
      { dst := some 36, op := Go.Op.load 93 (Go.Operand.tmp 3), type := 93, pos := "search.go:57", after := #[{ on := 7, ground := Go.Ground.guard }], guard := some (7, true) },
      { dst := some 37, op := Go.Op.load 3 (Go.Operand.tmp 2), type := 3, pos := "search.go:57", after := #[{ on := 7, ground := Go.Ground.guard }], guard := some (7, true) },
      { dst := some 38, op := Go.Op.move (Go.Operand.tmp 7), type := 3, pos := "search.go:57", after := #[{ on := 7, ground := Go.Ground.guard }], guard := some (7, true) },
      { dst := some 39, op := Go.Op.binOp Go.BinOp.quo 3 (Go.Operand.tmp 37) (Go.Operand.tmp 38) 3, type := 3, pos := "search.go:57", after := #[{ on := 12, ground := Go.Ground.data }, { on := 13, ground := Go.Ground.data }, { on := 7, ground := Go.Ground.guard }], guard := some (7, true) },
      { dst := some 40, op := Go.Op.call { callee := Go.Callee.value (Go.Operand.tmp 36), args := #[Go.Operand.tmp 39], argTypes := #[3] }, type := 63, pos := "search.go:57", after := #[{ on := 11, ground := Go.Ground.data }, { on := 14, ground := Go.Ground.data }, { on := 10, ground := Go.Ground.chain }, { on := 7, ground := Go.Ground.guard }], guard := some (7, true) },
      { dst := some 41, op := Go.Op.load 26 (Go.Operand.tmp 4), type := 26, pos := "search.go:57", after := #[{ on := 7, ground := Go.Ground.guard }], guard := some (7, true) },
      { dst := some 42, op := Go.Op.call { callee := Go.Callee.value (Go.Operand.func 95), args := #[Go.Operand.tmp 35, Go.Operand.tmp 40, Go.Operand.tmp 41], argTypes := #[22, 63, 26] }, type := 4, pos := "search.go:57", after := #[{ on := 10, ground := Go.Ground.data }, { on := 15, ground := Go.Ground.data }, { on := 16, ground := Go.Ground.data }, { on := 15, ground := Go.Ground.chain }, { on := 7, ground := Go.Ground.guard }], guard := some (7, true) },
      { dst := some 43, op := Go.Op.unOp Go.UnOp.not 4 (Go.Operand.tmp 42), type := 4, pos := "search.go:57", after := #[{ on := 17, ground := Go.Ground.data }, { on := 7, ground := Go.Ground.guard }], guard := some (7, true) },
      { dst := some 44, op := Go.Op.pick (Go.Operand.tmp 32) (Go.Operand.tmp 43) (Go.Operand.const (Go.Value.bool false)), type := 4, pos := "search.go:57", after := #[{ on := 7, ground := Go.Ground.data }, { on := 18, ground := Go.Ground.data }], guard := none }] true).wpIn (Fence.wide.inRound l) m Tryd.prog Q { tmps := #[s0, .pointer (some ⟨B1, 0, none⟩), .pointer (some ⟨B2, 0, none⟩), .pointer (some ⟨B3, 0, none⟩), .pointer (some ⟨g, 0, none⟩), s5, s6, .int .i64 (a : Int), s8, s9, s10, s11, s12, s13, s14, s15, s16, s17, s18, s19, s20, s21, s22, s23, s24, s25, s26, s27, s28, s29, s30, s31, s32, s33, s34, s35, s36, s37, s38, s39, s40, s41, s42, s43, s44, s45, s46, s47, s48, s49, s50, s51, s52, s53, s54, s55, s56], defers := [] } W := by
  have hmix : Tryd.prog.follows .mixedOrders = true := by kernel_rfl
  refine wpIn_mono (Q := qS V1 { tmps := #[s0, .pointer (some ⟨B1, 0, none⟩), .pointer (some ⟨B2, 0, none⟩), .pointer (some ⟨B3, 0, none⟩), .pointer (some ⟨g, 0, none⟩), s5, s6, .int .i64 (a : Int), s8, s9, s10, s11, s12, s13, s14, s15, s16, s17, s18, s19, s20, s21, s22, s23, s24, .int .i64 (a : Int), .bool false, .bool false, undef, undef, undef, .bool false, .bool false, undef, undef, undef, undef, undef, undef, undef, undef, undef, undef, undef, .bool false, s45, s46, s47, s48, s49, s50, s51, s52, s53, s54, s55, s56], defers := [] }) ?_ ?_
  · refine HIn.round (S := fun X : World => X.cell? ⟨B1, 0, none⟩ = some (.pointer (some ⟨h, 0, none⟩)) ∧ X.cell? ⟨B2, 0, none⟩ = some (.int .i64 (n : Int)) ∧ X.cell? ⟨B3, 0, none⟩ = some (.func (.func gs) #[.pointer (some ⟨h, 0, none⟩)] #[]) ∧ X.cell? ⟨g, 0, none⟩ = some (.func (.yield l0) #[] #[])) l rfl (by kernel_rfl) hmix ?_
    clear hQ
    refine HIn.take (i := 0) (v := .int .i64 (a : Int)) rfl rfl (by kernel_rfl) (by kernel_rfl) (by kernel_rfl) (fun _ _ _ h => h) ⟨fun _ => rfl, Or.inl ⟨by kernel_rfl, fun w hw => by obtain ⟨e0, e1, e2, e3⟩ := hw; go_simp⟩⟩ hS ?_
    refine HIn.take (i := 1) (v := .bool false) rfl rfl (by kernel_rfl) (by kernel_rfl) (by kernel_rfl) (fun _ _ _ h => h) ⟨fun _ => rfl, Or.inl ⟨by kernel_rfl, fun w hw => by obtain ⟨e0, e1, e2, e3⟩ := hw; first | (go_simp; done) | (go_simp; omega)⟩⟩ hS ?_
    refine HIn.take (i := 2) (v := .bool false) rfl rfl (by kernel_rfl) (by kernel_rfl) (by kernel_rfl) (fun _ _ _ h => h) ⟨fun _ => rfl, Or.inl ⟨by kernel_rfl, fun w hw => by obtain ⟨e0, e1, e2, e3⟩ := hw; go_simp⟩⟩ hS ?_
    refine HIn.take (i := 3) (v := undef) rfl rfl (by kernel_rfl) (by kernel_rfl) (by kernel_rfl) (fun _ _ _ h => h) ⟨fun _ => rfl, Or.inr ⟨by kernel_rfl, rfl⟩⟩ hS ?_
    refine HIn.take (i := 4) (v := undef) rfl rfl (by kernel_rfl) (by kernel_rfl) (by kernel_rfl) (fun _ _ _ h => h) ⟨fun _ => rfl, Or.inr ⟨by kernel_rfl, rfl⟩⟩ hS ?_
    refine HIn.take (i := 5) (v := undef) rfl rfl (by kernel_rfl) (by kernel_rfl) (by kernel_rfl) (fun _ _ _ h => h) ⟨fun _ => rfl, Or.inr ⟨by kernel_rfl, rfl⟩⟩ hS ?_
    refine HIn.take (i := 6) (v := .bool false) rfl rfl (by kernel_rfl) (by kernel_rfl) (by kernel_rfl) (fun _ _ _ h => h) ⟨fun _ => rfl, Or.inl ⟨by kernel_rfl, fun w hw => by obtain ⟨e0, e1, e2, e3⟩ := hw; go_simp⟩⟩ hS ?_
    refine HIn.take (i := 7) (v := .bool false) rfl rfl (by kernel_rfl) (by kernel_rfl) (by kernel_rfl) (fun _ _ _ h => h) ⟨fun _ => rfl, Or.inl ⟨by kernel_rfl, fun w hw => by obtain ⟨e0, e1, e2, e3⟩ := hw; go_simp⟩⟩ hS ?_
    refine HIn.take (i := 8) (v := undef) rfl rfl (by kernel_rfl) (by kernel_rfl) (by kernel_rfl) (fun _ _ _ h => h) ⟨fun _ => rfl, Or.inr ⟨by kernel_rfl, rfl⟩⟩ hS ?_
    refine HIn.take (i := 9) (v := undef) rfl rfl (by kernel_rfl) (by kernel_rfl) (by kernel_rfl) (fun _ _ _ h => h) ⟨fun _ => rfl, Or.inr ⟨by kernel_rfl, rfl⟩⟩ hS ?_
    refine HIn.take (i := 11) (v := undef) rfl rfl (by kernel_rfl) (by kernel_rfl) (by kernel_rfl) (fun _ _ _ h => h) ⟨fun _ => rfl, Or.inr ⟨by kernel_rfl, rfl⟩⟩ hS ?_
    refine HIn.take (i := 12) (v := undef) rfl rfl (by kernel_rfl) (by kernel_rfl) (by kernel_rfl) (fun _ _ _ h => h) ⟨fun _ => rfl, Or.inr ⟨by kernel_rfl, rfl⟩⟩ hS ?_
    refine HIn.take (i := 13) (v := undef) rfl rfl (by kernel_rfl) (by kernel_rfl) (by kernel_rfl) (fun _ _ _ h => h) ⟨fun _ => rfl, Or.inr ⟨by kernel_rfl, rfl⟩⟩ hS ?_
    refine HIn.take (i := 14) (v := undef) rfl rfl (by kernel_rfl) (by kernel_rfl) (by kernel_rfl) (fun _ _ _ h => h) ⟨fun _ => rfl, Or.inr ⟨by kernel_rfl, rfl⟩⟩ hS ?_
    refine HIn.take (i := 16) (v := undef) rfl rfl (by kernel_rfl) (by kernel_rfl) (by kernel_rfl) (fun _ _ _ h => h) ⟨fun _ => rfl, Or.inr ⟨by kernel_rfl, rfl⟩⟩ hS ?_
    refine HIn.pass (i := 10) rfl (by kernel_rfl) (by kernel_rfl) (fun _ => trivial) hS ?_
    refine HIn.pass (i := 15) rfl (by kernel_rfl) (by kernel_rfl) (fun _ => trivial) hS ?_
    refine HIn.pass (i := 17) rfl (by kernel_rfl) (by kernel_rfl) (fun _ => trivial) hS ?_
    refine HIn.take (i := 18) (v := undef) rfl rfl (by kernel_rfl) (by kernel_rfl) (by kernel_rfl) (fun _ _ _ h => h) ⟨fun _ => rfl, Or.inr ⟨by kernel_rfl, rfl⟩⟩ hS ?_
    refine HIn.take (i := 19) (v := .bool false) rfl rfl (by kernel_rfl) (by kernel_rfl) (by kernel_rfl) (fun _ _ _ h => h) ⟨fun _ => rfl, Or.inl ⟨by kernel_rfl, fun w hw => by obtain ⟨e0, e1, e2, e3⟩ := hw; go_simp⟩⟩ hS ?_
    refine HIn.done (by kernel_rfl) ?_ _
    exact ⟨by kernel_rfl, h1⟩
  · intro e a w h
    cases e <;> first | exact h.elim | (obtain ⟨rfl, h⟩ := h; exact hQ w h)
set_option maxRecDepth 100000 in
set_option maxHeartbeats 8000000 in
theorem ordB_reg {m l l0 g B1 B2 B3 h n a gs : Nat} {s0 s5 s6 s8 s9 s10 s11 s12 s13 s14 s15 s16 s17 s18 s19 s20 s21 s22 s23 s24 s25 s26 s27 s28 s29 s30 s31 s32 s33 s34 s35 s36 s37 s38 s39 s40 s41 s42 s43 s44 s45 s46 s47 s48 s49 s50 s51 s52 s53 s54 s55 s56 : Value} {W : World} {Q : Exit → Act → World → Prop} {V1 : World → Prop}
    (hS : (fun X : World => X.cell? ⟨B1, 0, none⟩ = some (.pointer (some ⟨h, 0, none⟩)) ∧ X.cell? ⟨B2, 0, none⟩ = some (.int .i64 (n : Int)) ∧ X.cell? ⟨B3, 0, none⟩ = some (.func (.func gs) #[.pointer (some ⟨h, 0, none⟩)] #[]) ∧ X.cell? ⟨g, 0, none⟩ = some (.func (.yield l0) #[] #[])) W.drew) (ha1 : (a : Int) > 1) (ha2 : ¬ (a : Int) < (n : Int)) (h1 : V1 W.drew)
    (hQ : ∀ W', V1 W' → Q .normal { tmps := #[s0, .pointer (some ⟨B1, 0, none⟩), .pointer (some ⟨B2, 0, none⟩), .pointer (some ⟨B3, 0, none⟩), .pointer (some ⟨g, 0, none⟩), s5, s6, .int .i64 (a : Int), s8, s9, s10, s11, s12, s13, s14, s15, s16, s17, s18, s19, s20, s21, s22, s23, s24, .int .i64 (a : Int), .bool true, .bool true, .int .i64 (a : Int), .int .i64 (n : Int), .bool false, .bool false, .bool false, undef, undef, undef, undef, undef, undef, undef, undef, undef, undef, undef, .bool false, s45, s46, s47, s48, s49, s50, s51, s52, s53, s54, s55, s56], defers := [] } W') :
    (Code.region 8 #[{ dst := some 25, op := Go.Op.move (Go.Operand.tmp 7), type := 3, pos := "search.go:57", after := #[], guard := none },
      { dst := some 26, op := Go.Op.binOp Go.BinOp.gtr 3 (Go.Operand.tmp 25) (Go.Operand.const (Go.Value.int Go.IntKind.i64 1)) 3, type := 4, pos := "search.go:57", after := #[{ on := 0, ground := Go.Ground.data }], guard := none },
      { dst := some 27, op := Go.Op.move (Go.Operand.tmp 26), type := 4, pos := "search.go:57", after := #[{ on := 1, ground := Go.Ground.data }], guard := none },
      { dst := some 28, op := Go.Op.move (Go.Operand.tmp 7), type := 3, pos := "search.go:57", after := #[{ on := 2, ground := Go.Ground.guard }], guard := some (2, true) },
      { dst := some 29, op := Go.Op.load 3 (Go.Operand.tmp 2), type := 3, pos := "search.go:57", after := #[{ on := 2, ground := Go.Ground.guard }], guard := some (2, true) },
      { dst := some 30, op := Go.Op.binOp Go.BinOp.lss 3 (Go.Operand.tmp 28) (Go.Operand.tmp 29) 3, type := 4, pos := "search.go:57", after := #[{ on := 3, ground := Go.Ground.data }, { on := 4, ground := Go.Ground.data }, { on := 2, ground := Go.Ground.guard }], guard := some (2, true) },
      { dst := some 31, op := Go.Op.pick (Go.Operand.tmp 27) (Go.Operand.tmp 30) (Go.Operand.const (Go.Value.bool false)), type := 4, pos := "search.go:57", after := #[{ on := 2, ground := Go.Ground.data }, { on := 5, ground := Go.Ground.data }], guard := none },
      { dst := some 32, op := Go.Op.move (Go.Operand.tmp 31), type := 4, pos := "search.go:57", after := #[{ on := 6, ground := Go.Ground.data }, { on := 2, ground := Go.Ground.chain }], guard := none },
      { dst := some 33, op := Go.Op.load 74 (Go.Operand.tmp 1), type := 74, pos := "search.go:57", after := #[{ on := 7, ground := Go.Ground.guard }], guard := some (7, true) },
      { dst := some 34, op := Go.Op.move (Go.Operand.tmp 7), type := 3, pos := "search.go:57", after := #[{ on := 7, ground := Go.Ground.guard }], guard := some (7, true) },
      { dst := some 35, op := Go.Op.call { callee := Go.Callee.value (Go.Operand.func 93), args := #[Go.Operand.tmp 33, Go.Operand.tmp 34], argTypes := #[74, 3] }, type := 22, pos := "search.go:57", after := #[{ on := 8, ground := Go.Ground.data }, { on := 9, ground := Go.Ground.data }, { on := 7, ground := Go.Ground.chain }, { on := 7, ground := Go.Ground.guard }], guard := some (7, true) },
      { dst := some 36, op := Go.Op.load 93 (Go.Operand.tmp 3), type := 93, pos := "search.go:57", after := #[{ on := 7, ground := Go.Ground.guard }], guard := some (7, true) },
      { dst := some 37, op := Go.Op.load 3 (Go.Operand.tmp 2), type := 3, pos := "search.go:57", after := #[{ on := 7, ground := Go.Ground.guard }], guard := some (7, true) },
      { dst := some 38, op := Go.Op.move (Go.Operand.tmp 7), type := 3, pos := "search.go:57", after := #[{ on := 7, ground := Go.Ground.guard }], guard := some (7, true) },
      { dst := some 39, op := Go.Op.binOp Go.BinOp.quo 3 (Go.Operand.tmp 37) (Go.Operand.tmp 38) 3, type := 3, pos := "search.go:57", after := #[{ on := 12, ground := Go.Ground.data }, { on := 13, ground := Go.Ground.data }, { on := 7, ground := Go.Ground.guard }], guard := some (7, true) },
      { dst := some 40, op := Go.Op.call { callee := Go.Callee.value (Go.Operand.tmp 36), args := #[Go.Operand.tmp 39], argTypes := #[3] }, type := 63, pos := "search.go:57", after := #[{ on := 11, ground := Go.Ground.data }, { on := 14, ground := Go.Ground.data }, { on := 10, ground := Go.Ground.chain }, { on := 7, ground := Go.Ground.guard }], guard := some (7, true) },
      { dst := some 41, op := Go.Op.load 26 (Go.Operand.tmp 4), type := 26, pos := "search.go:57", after := #[{ on := 7, ground := Go.Ground.guard }], guard := some (7, true) },
      { dst := some 42, op := Go.Op.call { callee := Go.Callee.value (Go.Operand.func 95), args := #[Go.Operand.tmp 35, Go.Operand.tmp 40, Go.Operand.tmp 41], argTypes := #[22, 63, 26] }, type := 4, pos := "search.go:57", after := #[{ on := 10, ground := Go.Ground.data }, { on := 15, ground := Go.Ground.data }, { on := 16, ground := Go.Ground.data }, { on := 15, ground := Go.Ground.chain }, { on := 7, ground := Go.Ground.guard }], guard := some (7, true) },
      { dst := some 43, op := Go.Op.unOp Go.UnOp.not 4 (Go.Operand.tmp 42), type := 4, pos := "search.go:57", after := #[{ on := 17, ground := Go.Ground.data }, { on := 7, ground := Go.Ground.guard }], guard := some (7, true) },
      { dst := some 44, op := Go.Op.pick (Go.Operand.tmp 32) (Go.Operand.tmp 43) (Go.Operand.const (Go.Value.bool false)), type := 4, pos := "search.go:57", after := #[{ on := 7, ground := Go.Ground.data }, { on := 18, ground := Go.Ground.data }], guard := none }] true).wpIn (Fence.wide.inRound l) m Tryd.prog Q { tmps := #[s0, .pointer (some ⟨B1, 0, none⟩), .pointer (some ⟨B2, 0, none⟩), .pointer (some ⟨B3, 0, none⟩), .pointer (some ⟨g, 0, none⟩), s5, s6, .int .i64 (a : Int), s8, s9, s10, s11, s12, s13, s14, s15, s16, s17, s18, s19, s20, s21, s22, s23, s24, s25, s26, s27, s28, s29, s30, s31, s32, s33, s34, s35, s36, s37, s38, s39, s40, s41, s42, s43, s44, s45, s46, s47, s48, s49, s50, s51, s52, s53, s54, s55, s56], defers := [] } W := by
  have hmix : Tryd.prog.follows .mixedOrders = true := by kernel_rfl
  refine wpIn_mono (Q := qS V1 { tmps := #[s0, .pointer (some ⟨B1, 0, none⟩), .pointer (some ⟨B2, 0, none⟩), .pointer (some ⟨B3, 0, none⟩), .pointer (some ⟨g, 0, none⟩), s5, s6, .int .i64 (a : Int), s8, s9, s10, s11, s12, s13, s14, s15, s16, s17, s18, s19, s20, s21, s22, s23, s24, .int .i64 (a : Int), .bool true, .bool true, .int .i64 (a : Int), .int .i64 (n : Int), .bool false, .bool false, .bool false, undef, undef, undef, undef, undef, undef, undef, undef, undef, undef, undef, .bool false, s45, s46, s47, s48, s49, s50, s51, s52, s53, s54, s55, s56], defers := [] }) ?_ ?_
  · refine HIn.round (S := fun X : World => X.cell? ⟨B1, 0, none⟩ = some (.pointer (some ⟨h, 0, none⟩)) ∧ X.cell? ⟨B2, 0, none⟩ = some (.int .i64 (n : Int)) ∧ X.cell? ⟨B3, 0, none⟩ = some (.func (.func gs) #[.pointer (some ⟨h, 0, none⟩)] #[]) ∧ X.cell? ⟨g, 0, none⟩ = some (.func (.yield l0) #[] #[])) l rfl (by kernel_rfl) hmix ?_
    clear hQ
    refine HIn.take (i := 0) (v := .int .i64 (a : Int)) rfl rfl (by kernel_rfl) (by kernel_rfl) (by kernel_rfl) (fun _ _ _ h => h) ⟨fun _ => rfl, Or.inl ⟨by kernel_rfl, fun w hw => by obtain ⟨e0, e1, e2, e3⟩ := hw; go_simp⟩⟩ hS ?_
    refine HIn.take (i := 1) (v := .bool true) rfl rfl (by kernel_rfl) (by kernel_rfl) (by kernel_rfl) (fun _ _ _ h => h) ⟨fun _ => rfl, Or.inl ⟨by kernel_rfl, fun w hw => by obtain ⟨e0, e1, e2, e3⟩ := hw; first | (go_simp; done) | (go_simp; omega)⟩⟩ hS ?_
    refine HIn.take (i := 2) (v := .bool true) rfl rfl (by kernel_rfl) (by kernel_rfl) (by kernel_rfl) (fun _ _ _ h => h) ⟨fun _ => rfl, Or.inl ⟨by kernel_rfl, fun w hw => by obtain ⟨e0, e1, e2, e3⟩ := hw; go_simp⟩⟩ hS ?_
    refine HIn.take (i := 3) (v := .int .i64 (a : Int)) rfl rfl (by kernel_rfl) (by kernel_rfl) (by kernel_rfl) (fun _ _ _ h => h) ⟨fun _ => rfl, Or.inl ⟨by kernel_rfl, fun w hw => by obtain ⟨e0, e1, e2, e3⟩ := hw; go_simp⟩⟩ hS ?_
    refine HIn.take (i := 4) (v := .int .i64 (n : Int)) rfl rfl (by kernel_rfl) (by kernel_rfl) (by kernel_rfl) (fun _ _ _ h => h) ⟨fun _ => rfl, Or.inl ⟨by kernel_rfl, fun w hw => by obtain ⟨e0, e1, e2, e3⟩ := hw; go_simp⟩⟩ hS ?_
    refine HIn.take (i := 5) (v := .bool false) rfl rfl (by kernel_rfl) (by kernel_rfl) (by kernel_rfl) (fun _ _ _ h => h) ⟨fun _ => rfl, Or.inl ⟨by kernel_rfl, fun w hw => by obtain ⟨e0, e1, e2, e3⟩ := hw; first | (go_simp; done) | (go_simp; omega)⟩⟩ hS ?_
    refine HIn.take (i := 6) (v := .bool false) rfl rfl (by kernel_rfl) (by kernel_rfl) (by kernel_rfl) (fun _ _ _ h => h) ⟨fun _ => rfl, Or.inl ⟨by kernel_rfl, fun w hw => by obtain ⟨e0, e1, e2, e3⟩ := hw; go_simp⟩⟩ hS ?_
    refine HIn.take (i := 7) (v := .bool false) rfl rfl (by kernel_rfl) (by kernel_rfl) (by kernel_rfl) (fun _ _ _ h => h) ⟨fun _ => rfl, Or.inl ⟨by kernel_rfl, fun w hw => by obtain ⟨e0, e1, e2, e3⟩ := hw; go_simp⟩⟩ hS ?_
    refine HIn.take (i := 8) (v := undef) rfl rfl (by kernel_rfl) (by kernel_rfl) (by kernel_rfl) (fun _ _ _ h => h) ⟨fun _ => rfl, Or.inr ⟨by kernel_rfl, rfl⟩⟩ hS ?_
    refine HIn.take (i := 9) (v := undef) rfl rfl (by kernel_rfl) (by kernel_rfl) (by kernel_rfl) (fun _ _ _ h => h) ⟨fun _ => rfl, Or.inr ⟨by kernel_rfl, rfl⟩⟩ hS ?_
    refine HIn.take (i := 11) (v := undef) rfl rfl (by kernel_rfl) (by kernel_rfl) (by kernel_rfl) (fun _ _ _ h => h) ⟨fun _ => rfl, Or.inr ⟨by kernel_rfl, rfl⟩⟩ hS ?_
    refine HIn.take (i := 12) (v := undef) rfl rfl (by kernel_rfl) (by kernel_rfl) (by kernel_rfl) (fun _ _ _ h => h) ⟨fun _ => rfl, Or.inr ⟨by kernel_rfl, rfl⟩⟩ hS ?_
    refine HIn.take (i := 13) (v := undef) rfl rfl (by kernel_rfl) (by kernel_rfl) (by kernel_rfl) (fun _ _ _ h => h) ⟨fun _ => rfl, Or.inr ⟨by kernel_rfl, rfl⟩⟩ hS ?_
    refine HIn.take (i := 14) (v := undef) rfl rfl (by kernel_rfl) (by kernel_rfl) (by kernel_rfl) (fun _ _ _ h => h) ⟨fun _ => rfl, Or.inr ⟨by kernel_rfl, rfl⟩⟩ hS ?_
    refine HIn.take (i := 16) (v := undef) rfl rfl (by kernel_rfl) (by kernel_rfl) (by kernel_rfl) (fun _ _ _ h => h) ⟨fun _ => rfl, Or.inr ⟨by kernel_rfl, rfl⟩⟩ hS ?_
    refine HIn.pass (i := 10) rfl (by kernel_rfl) (by kernel_rfl) (fun _ => trivial) hS ?_
    refine HIn.pass (i := 15) rfl (by kernel_rfl) (by kernel_rfl) (fun _ => trivial) hS ?_
    refine HIn.pass (i := 17) rfl (by kernel_rfl) (by kernel_rfl) (fun _ => trivial) hS ?_
    refine HIn.take (i := 18) (v := undef) rfl rfl (by kernel_rfl) (by kernel_rfl) (by kernel_rfl) (fun _ _ _ h => h) ⟨fun _ => rfl, Or.inr ⟨by kernel_rfl, rfl⟩⟩ hS ?_
    refine HIn.take (i := 19) (v := .bool false) rfl rfl (by kernel_rfl) (by kernel_rfl) (by kernel_rfl) (fun _ _ _ h => h) ⟨fun _ => rfl, Or.inl ⟨by kernel_rfl, fun w hw => by obtain ⟨e0, e1, e2, e3⟩ := hw; go_simp⟩⟩ hS ?_
    refine HIn.done (by kernel_rfl) ?_ _
    exact ⟨by kernel_rfl, h1⟩
  · intro e a w h
    cases e <;> first | exact h.elim | (obtain ⟨rfl, h⟩ := h; exact hQ w h)
set_option maxRecDepth 100000 in
set_option maxHeartbeats 8000000 in
theorem ordC_reg {m l0 g B1 B2 B3 h n mm gs : Nat} {ds : List Deferred} {s0 s5 s6 s7 s9 s10 s11 s12 s13 s14 s15 s16 s17 s18 s19 s20 s21 s22 s23 s24 s25 s26 s27 s28 s29 s30 s31 s32 s33 s34 s35 s36 s37 s38 s39 s40 s41 s42 s43 s44 s45 s46 s47 s48 s49 s50 s51 s52 s53 s54 s55 s56 : Value} {W : World} {Q : Exit → Act → World → Prop} {Z1 Z2 : Value → World → Prop} {V1 V2 : World → Prop}
    (hS : (fun X : World => X.cell? ⟨B1, 0, none⟩ = some (.pointer (some ⟨h, 0, none⟩)) ∧ X.cell? ⟨B2, 0, none⟩ = some (.int .i64 (n : Int)) ∧ X.cell? ⟨B3, 0, none⟩ = some (.func (.func gs) #[.pointer (some ⟨h, 0, none⟩)] #[]) ∧ X.cell? ⟨g, 0, none⟩ = some (.func (.yield l0) #[] #[])) W.drew)
    (hc1 : Calls Tryd.prog 47 #[.pointer (some ⟨h, 0, none⟩), .int .i64 (mm : Int)] W.drew fun e W1 => ∃ cv, e = .returned cv ∧ (fun X : World => X.cell? ⟨B1, 0, none⟩ = some (.pointer (some ⟨h, 0, none⟩)) ∧ X.cell? ⟨B2, 0, none⟩ = some (.int .i64 (n : Int)) ∧ X.cell? ⟨B3, 0, none⟩ = some (.func (.func gs) #[.pointer (some ⟨h, 0, none⟩)] #[]) ∧ X.cell? ⟨g, 0, none⟩ = some (.func (.yield l0) #[] #[])) W1 ∧ Z1 cv W1)
    (hc2 : ∀ cv W1, Z1 cv W1 → Calls Tryd.prog 12 #[.int .i64 (n : Int), cv] W1 fun e W2 => ∃ bv, e = .returned bv ∧ (fun X : World => X.cell? ⟨B1, 0, none⟩ = some (.pointer (some ⟨h, 0, none⟩)) ∧ X.cell? ⟨B2, 0, none⟩ = some (.int .i64 (n : Int)) ∧ X.cell? ⟨B3, 0, none⟩ = some (.func (.func gs) #[.pointer (some ⟨h, 0, none⟩)] #[]) ∧ X.cell? ⟨g, 0, none⟩ = some (.func (.yield l0) #[] #[])) W2 ∧ Z2 bv W2)
    (hy : ∀ v W1, Z2 v W1 → YieldAt Fence.wide (m - 1) Tryd.prog l0 #[v] W1 fun e W' => ((e = .returned (.bool true) ∧ V1 W') ∨ (e = .returned (.bool false) ∧ V2 W')) ∧ (fun X : World => X.cell? ⟨B1, 0, none⟩ = some (.pointer (some ⟨h, 0, none⟩)) ∧ X.cell? ⟨B2, 0, none⟩ = some (.int .i64 (n : Int)) ∧ X.cell? ⟨B3, 0, none⟩ = some (.func (.func gs) #[.pointer (some ⟨h, 0, none⟩)] #[]) ∧ X.cell? ⟨g, 0, none⟩ = some (.func (.yield l0) #[] #[])) W')
    (hQ : ∀ cv bv b W', (b = true ∧ V1 W') ∨ (b = false ∧ V2 W') → Q .normal { tmps := #[s0, .pointer (some ⟨B1, 0, none⟩), .pointer (some ⟨B2, 0, none⟩), .pointer (some ⟨B3, 0, none⟩), .pointer (some ⟨g, 0, none⟩), s5, s6, s7, .int .i64 (mm : Int), s9, s10, s11, s12, s13, s14, s15, s16, s17, s18, s19, s20, s21, s22, s23, s24, s25, s26, s27, s28, s29, s30, s31, s32, s33, s34, s35, s36, s37, s38, s39, s40, s41, s42, s43, s44, s45, s46, s47, s48, s49, .func (.yield l0) #[] #[], .int .i64 (n : Int), .pointer (some ⟨h, 0, none⟩), .int .i64 (mm : Int), cv, bv, .bool b], defers := ds } W') :
    (Code.region 11 #[{ dst := some 50, op := Go.Op.load 26 (Go.Operand.tmp 4), type := 26, pos := "search.go:62", after := #[], guard := none },
      { dst := some 51, op := Go.Op.load 3 (Go.Operand.tmp 2), type := 3, pos := "search.go:62", after := #[], guard := none },
      { dst := some 52, op := Go.Op.load 74 (Go.Operand.tmp 1), type := 74, pos := "search.go:62", after := #[], guard := none },
      { dst := some 53, op := Go.Op.move (Go.Operand.tmp 8), type := 3, pos := "search.go:62", after := #[], guard := none },
      { dst := some 54, op := Go.Op.call { callee := Go.Callee.value (Go.Operand.func 47), args := #[Go.Operand.tmp 52, Go.Operand.tmp 53], argTypes := #[74, 3] }, type := 24, pos := "search.go:62", after := #[{ on := 2, ground := Go.Ground.data }, { on := 3, ground := Go.Ground.data }], guard := none },
      { dst := some 55, op := Go.Op.call { callee := Go.Callee.value (Go.Operand.func 12), args := #[Go.Operand.tmp 51, Go.Operand.tmp 54], argTypes := #[3, 24] }, type := 24, pos := "search.go:62", after := #[{ on := 1, ground := Go.Ground.data }, { on := 4, ground := Go.Ground.data }, { on := 4, ground := Go.Ground.chain }], guard := none },
      { dst := some 56, op := Go.Op.call { callee := Go.Callee.value (Go.Operand.tmp 50), args := #[Go.Operand.tmp 55], argTypes := #[24] }, type := 4, pos := "search.go:62", after := #[{ on := 0, ground := Go.Ground.data }, { on := 5, ground := Go.Ground.data }, { on := 5, ground := Go.Ground.chain }], guard := none }] true).wpIn Fence.wide m Tryd.prog Q { tmps := #[s0, .pointer (some ⟨B1, 0, none⟩), .pointer (some ⟨B2, 0, none⟩), .pointer (some ⟨B3, 0, none⟩), .pointer (some ⟨g, 0, none⟩), s5, s6, s7, .int .i64 (mm : Int), s9, s10, s11, s12, s13, s14, s15, s16, s17, s18, s19, s20, s21, s22, s23, s24, s25, s26, s27, s28, s29, s30, s31, s32, s33, s34, s35, s36, s37, s38, s39, s40, s41, s42, s43, s44, s45, s46, s47, s48, s49, s50, s51, s52, s53, s54, s55, s56], defers := ds } W := by
  have hmix : Tryd.prog.follows .mixedOrders = true := by kernel_rfl
  refine wpIn_mono (Q := qO V1 V2 fun cv bv b => { tmps := #[s0, .pointer (some ⟨B1, 0, none⟩), .pointer (some ⟨B2, 0, none⟩), .pointer (some ⟨B3, 0, none⟩), .pointer (some ⟨g, 0, none⟩), s5, s6, s7, .int .i64 (mm : Int), s9, s10, s11, s12, s13, s14, s15, s16, s17, s18, s19, s20, s21, s22, s23, s24, s25, s26, s27, s28, s29, s30, s31, s32, s33, s34, s35, s36, s37, s38, s39, s40, s41, s42, s43, s44, s45, s46, s47, s48, s49, .func (.yield l0) #[] #[], .int .i64 (n : Int), .pointer (some ⟨h, 0, none⟩), .int .i64 (mm : Int), cv, bv, .bool b], defers := ds }) ?_ ?_
  · refine HIn.plain (S := fun X : World => X.cell? ⟨B1, 0, none⟩ = some (.pointer (some ⟨h, 0, none⟩)) ∧ X.cell? ⟨B2, 0, none⟩ = some (.int .i64 (n : Int)) ∧ X.cell? ⟨B3, 0, none⟩ = some (.func (.func gs) #[.pointer (some ⟨h, 0, none⟩)] #[]) ∧ X.cell? ⟨g, 0, none⟩ = some (.func (.yield l0) #[] #[])) hmix ?_
    clear hQ
    refine HIn.take (i := 0) (v := .func (.yield l0) #[] #[]) rfl rfl (by kernel_rfl) (by kernel_rfl) (by kernel_rfl) (fun _ _ _ h => h) ⟨fun _ => rfl, Or.inl ⟨by kernel_rfl, fun w hw => by obtain ⟨e0, e1, e2, e3⟩ := hw; go_simp⟩⟩ hS ?_
    refine HIn.take (i := 1) (v := .int .i64 (n : Int)) rfl rfl (by kernel_rfl) (by kernel_rfl) (by kernel_rfl) (fun _ _ _ h => h) ⟨fun _ => rfl, Or.inl ⟨by kernel_rfl, fun w hw => by obtain ⟨e0, e1, e2, e3⟩ := hw; go_simp⟩⟩ hS ?_
    refine HIn.take (i := 2) (v := .pointer (some ⟨h, 0, none⟩)) rfl rfl (by kernel_rfl) (by kernel_rfl) (by kernel_rfl) (fun _ _ _ h => h) ⟨fun _ => rfl, Or.inl ⟨by kernel_rfl, fun w hw => by obtain ⟨e0, e1, e2, e3⟩ := hw; go_simp⟩⟩ hS ?_
    refine HIn.take (i := 3) (v := .int .i64 (mm : Int)) rfl rfl (by kernel_rfl) (by kernel_rfl) (by kernel_rfl) (fun _ _ _ h => h) ⟨fun _ => rfl, Or.inl ⟨by kernel_rfl, fun w hw => by obtain ⟨e0, e1, e2, e3⟩ := hw; go_simp⟩⟩ hS ?_
    refine HIn.one (i := 4) rfl (by kernel_rfl) (fun K hK => ?_)
    go_simp
    refine ⟨trivial, fun h => (by cases h), (callsIn_wide.2 hc1).mono ?_⟩
    rintro e W1 ⟨cv, rfl, hS1, z1⟩
    refine hK _ _ hS1 ?_
    clear hK K
    refine HIn.one (i := 5) rfl (by kernel_rfl) (fun K hK => ?_)
    go_simp
    refine ⟨trivial, fun h => (by cases h), (callsIn_wide.2 (hc2 cv W1 z1)).mono ?_⟩
    rintro e W2 ⟨bv, rfl, hS2, z2⟩
    refine hK _ _ hS2 ?_
    clear hK K
    refine HIn.one (i := 6) rfl (by kernel_rfl) (fun K hK => ?_)
    obtain ⟨fn, tmps, assign, body, hyy, hR⟩ := hy bv W2 z2
    go_simp
    refine ⟨fun h => (by cases h), hR.mono ?_⟩
    rintro e W3 ⟨(⟨rfl, h1⟩ | ⟨rfl, h1⟩), hS3⟩
    · refine hK _ _ hS3 ?_
      clear hK K
      refine HIn.done (by kernel_rfl) ?_ _
      exact .inl ⟨_, _, rfl, h1⟩
    · refine hK _ _ hS3 ?_
      clear hK K
      refine HIn.done (by kernel_rfl) ?_ _
      exact .inr ⟨_, _, rfl, h1⟩
  · intro e a w h
    cases e <;> first | exact h.elim | (rcases h with ⟨kv, f, rfl, h⟩ | ⟨kv, f, rfl, h⟩; exact hQ kv f true w (.inl ⟨rfl, h⟩); exact hQ kv f false w (.inr ⟨rfl, h⟩))
end Go.Proofs.YtoaccmblaifnmaaDoor
