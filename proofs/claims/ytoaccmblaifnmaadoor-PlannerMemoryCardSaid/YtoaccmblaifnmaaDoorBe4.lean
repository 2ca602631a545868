/-
  What PlannerLists and its fellows rest on, joined: Pnn Pno Dk8.
-/
import Derived.Test.YtoaccmblaifnmaaDoorProg
import Derived.WalkKit
import Ieee.Arith
import Derived.WalkLawsBesides
import Derived.Outline
import Derived.Deep.QuietTactic
import Derived.BigQuiet
import Derived.WalkSmall
import Derived.RegionTactic
import Derived.Lib.Mul64
import Derived.Laws.Bits64b
import Derived.Deep.CutBlock
import Derived.Deep.DeepCutAuto
import Derived.Maps.AppendAt
import Derived.Deep.RegionHeld3
import Derived.Deep.RegionWith
import Derived.Laws.OwnMore
import Derived.RangeFuncNested
import Derived.RangeFuncBound
import Derived.RangeFuncCalls
import Derived.RangeFuncLeaves
import Derived.RangeFuncBox
import Derived.Shelf.Abstract
import Derived.Shelf.RegionOpen
import Derived.OwnWalkIn
import Derived.TacticsInMore
import Derived.LoopNIn
import Derived.LoopIn
import Derived.Laws.Rows
import Derived.Lib.ItoaNum
import Derived.Laws.IdiomStrings
import Derived.Lib.SmallJoins
import Derived.Lib.HexFns
import Derived.Test.YtoaccmblaifnmaaDoorRows
import Derived.LaidEql
import Derived.LaidLaws
import Derived.LaidHandle
import Derived.Stop.Joined
import Derived.Recover
import Derived.RegionDies
import Derived.Laws.CopyOwn
import Derived.Lib.AppendIntMem
import Derived.Laws.AppendOwn
import Derived.OwnWalk
import Derived.BigCall
import Derived.Deep.RegionHeldLaw
import Derived.Laws.FloatArith
import Derived.Laws.ComplexArith
import Derived.Laws.MakeOwn
import Derived.MapKept
import Derived.Carry
import Derived.ChangeAlike
import Derived.Deep.RegionLaw
import Derived.Defers
import Derived.Deep.AppendSrc
import Derived.Lib.LaidTab
import Derived.LaidSub
import Derived.LaidMore
import Derived.ProofKit
import Derived.Test.YtoaccmblaifnmaaDoorBe3
import Derived.Test.YtoaccmblaifnmaaDoorBd9
import Derived.Test.YtoaccmblaifnmaaDoorBe2
import Derived.Test.YtoaccmblaifnmaaDoorBb3
import Derived.Test.YtoaccmblaifnmaaDoorBa8
import Derived.Test.YtoaccmblaifnmaaDoorBa6
namespace Go.Proofs.YtoaccmblaifnmaaDoor
open Flo Go.RowKit Go.Shelf
def qF (V : World → Prop) (mk : Nat → Act) : Exit → Act → World → Prop
  | .normal, a, w => ∃ b, a = mk b ∧ V w
  | _, _, _ => False
set_option maxRecDepth 100000 in
set_option maxHeartbeats 8000000 in
theorem fix_reg {m : Nat} {aR : Addr} {s0 s1 s2 s7 s8 s9 s10 s11 s12 s13 s14 s15 s16 s17 s18 s19 s20 s21 s22 s23 s24 s25 s26 s27 s28 s29 s30 s31 s32 s33 s34 s35 s36 s37 s38 s39 s40 s41 s42 s43 s44 s45 s46 s47 s48 : Value} {W : World} {Q : Exit → Act → World → Prop} {Z1 : Nat → World → Prop} {Z2 V1 : World → Prop}
    (hS : (fun X : World => X.cell? ⟨2, 0, none⟩ = some (.iface 160 (.pointer (some aR)))) W.drew)
    (hc1 : Calls Tryd.prog 27 #[] W.drew fun e W1 => ∃ b, e = .returned (.agg #[.int .i64 16, .slice (some ⟨b, 0, none⟩) 4 4, .int .i64 13]) ∧ (fun X : World => X.cell? ⟨2, 0, none⟩ = some (.iface 160 (.pointer (some aR)))) W1 ∧ Z1 b W1)
    (hc2 : ∀ b W1, Z1 b W1 → Calls Tryd.prog 25 #[.agg #[.int .i64 16, .slice (some ⟨b, 0, none⟩) 4 4, .int .i64 13]] W1 fun e W2 => e = .returned .nilIface ∧ (fun X : World => X.cell? ⟨2, 0, none⟩ = some (.iface 160 (.pointer (some aR)))) W2 ∧ Z2 W2)
    (hc3 : ∀ W2, Z2 W2 → Calls Tryd.prog 25 #[.agg #[.int .i64 0, .slice none 0 0, .int .i64 0]] W2 fun e W3 => e = .returned (.iface 160 (.pointer (some aR))) ∧ (fun X : World => X.cell? ⟨2, 0, none⟩ = some (.iface 160 (.pointer (some aR)))) W3 ∧ V1 W3)
    (hQ : ∀ b W', V1 W' → Q .normal { tmps := #[.bool true, s1, s2, .string ⟨#[40, 102, 51, 32, 120, 32, 102, 52, 41]⟩, .int .i64 0, .int .i64 148, .nilIface, s7, s8, s9, s10, s11, s12, s13, s14, s15, s16, s17, s18, s19, s20, s21, s22, s23, .int .i64 0, .bool true, .bool true, .nilIface, .bool true, .bool true, .bool true, .string ⟨#[40, 102, 51, 32, 120, 32, 102, 52, 41]⟩, .bool true, .bool true, .bool true, .int .i64 148, .bool true, .bool true, .bool true, .agg #[.int .i64 16, .slice (some ⟨b, 0, none⟩) 4 4, .int .i64 13], .nilIface, .bool true, .bool true, .bool true, .agg #[.int .i64 0, .slice none 0 0, .int .i64 0], .iface 160 (.pointer (some aR)), .iface 160 (.pointer (some aR)), .bool true, .bool true], defers := [] } W') :
    (Code.region 6 #[{ dst := some 24, op := Go.Op.move (Go.Operand.tmp 4), type := 3, pos := "law.go:21", after := #[], guard := none },
      { dst := some 25, op := Go.Op.binOp Go.BinOp.eql 3 (Go.Operand.tmp 24) (Go.Operand.const (Go.Value.int Go.IntKind.i64 0)) 3, type := 4, pos := "law.go:21", after := #[{ on := 0, ground := Go.Ground.data }], guard := none },
      { dst := some 26, op := Go.Op.move (Go.Operand.tmp 25), type := 4, pos := "law.go:21", after := #[{ on := 1, ground := Go.Ground.data }], guard := none },
      { dst := some 27, op := Go.Op.move (Go.Operand.tmp 6), type := 31, pos := "law.go:21", after := #[{ on := 2, ground := Go.Ground.guard }], guard := some (2, true) },
      { dst := some 28, op := Go.Op.binOp Go.BinOp.eql 31 (Go.Operand.tmp 27) (Go.Operand.const Go.Value.nilIface) 31, type := 4, pos := "law.go:21", after := #[{ on := 3, ground := Go.Ground.data }, { on := 2, ground := Go.Ground.guard }], guard := some (2, true) },
      { dst := some 29, op := Go.Op.pick (Go.Operand.tmp 26) (Go.Operand.tmp 28) (Go.Operand.const (Go.Value.bool false)), type := 4, pos := "law.go:21", after := #[{ on := 2, ground := Go.Ground.data }, { on := 4, ground := Go.Ground.data }], guard := none },
      { dst := some 30, op := Go.Op.move (Go.Operand.tmp 29), type := 4, pos := "law.go:21", after := #[{ on := 5, ground := Go.Ground.data }, { on := 2, ground := Go.Ground.chain }], guard := none },
      { dst := some 31, op := Go.Op.move (Go.Operand.tmp 3), type := 9, pos := "law.go:21", after := #[{ on := 6, ground := Go.Ground.guard }], guard := some (6, true) },
      { dst := some 32, op := Go.Op.binOp Go.BinOp.eql 9 (Go.Operand.tmp 31) (Go.Operand.const (Go.Value.string { data := #[40, 102, 51, 32, 120, 32, 102, 52, 41] })) 9, type := 4, pos := "law.go:21", after := #[{ on := 7, ground := Go.Ground.data }, { on := 6, ground := Go.Ground.guard }], guard := some (6, true) },
      { dst := some 33, op := Go.Op.pick (Go.Operand.tmp 30) (Go.Operand.tmp 32) (Go.Operand.const (Go.Value.bool false)), type := 4, pos := "law.go:21", after := #[{ on := 6, ground := Go.Ground.data }, { on := 8, ground := Go.Ground.data }], guard := none },
      { dst := some 34, op := Go.Op.move (Go.Operand.tmp 33), type := 4, pos := "law.go:21", after := #[{ on := 9, ground := Go.Ground.data }, { on := 6, ground := Go.Ground.chain }], guard := none },
      { dst := some 35, op := Go.Op.move (Go.Operand.tmp 5), type := 3, pos := "law.go:21", after := #[{ on := 10, ground := Go.Ground.guard }], guard := some (10, true) },
      { dst := some 36, op := Go.Op.binOp Go.BinOp.eql 3 (Go.Operand.tmp 35) (Go.Operand.const (Go.Value.int Go.IntKind.i64 148)) 3, type := 4, pos := "law.go:21", after := #[{ on := 11, ground := Go.Ground.data }, { on := 10, ground := Go.Ground.guard }], guard := some (10, true) },
      { dst := some 37, op := Go.Op.pick (Go.Operand.tmp 34) (Go.Operand.tmp 36) (Go.Operand.const (Go.Value.bool false)), type := 4, pos := "law.go:21", after := #[{ on := 10, ground := Go.Ground.data }, { on := 12, ground := Go.Ground.data }], guard := none },
      { dst := some 38, op := Go.Op.move (Go.Operand.tmp 37), type := 4, pos := "law.go:21", after := #[{ on := 13, ground := Go.Ground.data }, { on := 10, ground := Go.Ground.chain }], guard := none },
      { dst := some 39, op := Go.Op.call { callee := Go.Callee.value (Go.Operand.func 27), args := #[], argTypes := #[] }, type := 45, pos := "law.go:21", after := #[{ on := 14, ground := Go.Ground.chain }, { on := 14, ground := Go.Ground.guard }], guard := some (14, true) },
      { dst := some 40, op := Go.Op.call { callee := Go.Callee.value (Go.Operand.func 25), args := #[Go.Operand.tmp 39], argTypes := #[45] }, type := 31, pos := "law.go:21", after := #[{ on := 15, ground := Go.Ground.data }, { on := 15, ground := Go.Ground.chain }, { on := 14, ground := Go.Ground.guard }], guard := some (14, true) },
      { dst := some 41, op := Go.Op.binOp Go.BinOp.eql 31 (Go.Operand.tmp 40) (Go.Operand.const Go.Value.nilIface) 31, type := 4, pos := "law.go:21", after := #[{ on := 16, ground := Go.Ground.data }, { on := 14, ground := Go.Ground.guard }], guard := some (14, true) },
      { dst := some 42, op := Go.Op.pick (Go.Operand.tmp 38) (Go.Operand.tmp 41) (Go.Operand.const (Go.Value.bool false)), type := 4, pos := "law.go:21", after := #[{ on := 14, ground := Go.Ground.data }, { on := 17, ground := Go.Ground.data }], guard := none },
      { dst := some 43, op := Go.Op.move (Go.Operand.tmp 42), type := 4, pos := "law.go:21", after := #[{ on := 18, ground := Go.Ground.data }, { on := 16, ground := Go.Ground.chain }], guard := none },
      { dst := some 44, op := Go.Op.build 45 #[], type := 45, pos := "law.go:21", after := #[{ on := 19, ground := Go.Ground.guard }], guard := some (19, true) },
      { dst := some 45, op := Go.Op.call { callee := Go.Callee.value (Go.Operand.func 25), args := #[Go.Operand.tmp 44], argTypes := #[45] }, type := 31, pos := "law.go:21", after := #[{ on := 20, ground := Go.Ground.data }, { on := 19, ground := Go.Ground.chain }, { on := 19, ground := Go.Ground.guard }], guard := some (19, true) },
      { dst := some 46, op := Go.Op.load 31 (Go.Operand.global 2), type := 31, pos := "law.go:21", after := #[{ on := 19, ground := Go.Ground.guard }], guard := some (19, true) },
      { dst := some 47, op := Go.Op.binOp Go.BinOp.eql 31 (Go.Operand.tmp 45) (Go.Operand.tmp 46) 31, type := 4, pos := "law.go:21", after := #[{ on := 21, ground := Go.Ground.data }, { on := 22, ground := Go.Ground.data }, { on := 19, ground := Go.Ground.guard }], guard := some (19, true) },
      { dst := some 48, op := Go.Op.pick (Go.Operand.tmp 43) (Go.Operand.tmp 47) (Go.Operand.const (Go.Value.bool false)), type := 4, pos := "law.go:21", after := #[{ on := 19, ground := Go.Ground.data }, { on := 23, ground := Go.Ground.data }], guard := none },
      { dst := some 0, op := Go.Op.assign (Go.Operand.tmp 48), type := 4, pos := "law.go:21", after := #[{ on := 24, ground := Go.Ground.data }, { on := 21, ground := Go.Ground.chain }, { on := 0, ground := Go.Ground.phase }, { on := 1, ground := Go.Ground.phase }, { on := 2, ground := Go.Ground.phase }, { on := 3, ground := Go.Ground.phase }, { on := 4, ground := Go.Ground.phase }, { on := 5, ground := Go.Ground.phase }, { on := 6, ground := Go.Ground.phase }, { on := 7, ground := Go.Ground.phase }, { on := 8, ground := Go.Ground.phase }, { on := 9, ground := Go.Ground.phase }, { on := 10, ground := Go.Ground.phase }, { on := 11, ground := Go.Ground.phase }, { on := 12, ground := Go.Ground.phase }, { on := 13, ground := Go.Ground.phase }, { on := 14, ground := Go.Ground.phase }, { on := 15, ground := Go.Ground.phase }, { on := 16, ground := Go.Ground.phase }, { on := 17, ground := Go.Ground.phase }, { on := 18, ground := Go.Ground.phase }, { on := 19, ground := Go.Ground.phase }, { on := 20, ground := Go.Ground.phase }, { on := 21, ground := Go.Ground.phase }, { on := 22, ground := Go.Ground.phase }, { on := 23, ground := Go.Ground.phase }, { on := 24, ground := Go.Ground.phase }], guard := none }] true).wpIn Fence.wide m Tryd.prog Q { tmps := #[s0, s1, s2, .string ⟨#[40, 102, 51, 32, 120, 32, 102, 52, 41]⟩, .int .i64 0, .int .i64 148, .nilIface, s7, s8, s9, s10, s11, s12, s13, s14, s15, s16, s17, s18, s19, s20, s21, s22, s23, s24, s25, s26, s27, s28, s29, s30, s31, s32, s33, s34, s35, s36, s37, s38, s39, s40, s41, s42, s43, s44, s45, s46, s47, s48], defers := [] } W := by
  have hmix : Tryd.prog.follows .mixedOrders = true := by kernel_rfl
  have he := eqv_self aR
  unfold ev at he
  refine wpIn_mono (Q := qF V1 fun b => { tmps := #[.bool true, s1, s2, .string ⟨#[40, 102, 51, 32, 120, 32, 102, 52, 41]⟩, .int .i64 0, .int .i64 148, .nilIface, s7, s8, s9, s10, s11, s12, s13, s14, s15, s16, s17, s18, s19, s20, s21, s22, s23, .int .i64 0, .bool true, .bool true, .nilIface, .bool true, .bool true, .bool true, .string ⟨#[40, 102, 51, 32, 120, 32, 102, 52, 41]⟩, .bool true, .bool true, .bool true, .int .i64 148, .bool true, .bool true, .bool true, .agg #[.int .i64 16, .slice (some ⟨b, 0, none⟩) 4 4, .int .i64 13], .nilIface, .bool true, .bool true, .bool true, .agg #[.int .i64 0, .slice none 0 0, .int .i64 0], .iface 160 (.pointer (some aR)), .iface 160 (.pointer (some aR)), .bool true, .bool true], defers := [] }) ?_ ?_
  · refine HIn.plain (S := fun X : World => X.cell? ⟨2, 0, none⟩ = some (.iface 160 (.pointer (some aR)))) hmix ?_
    clear hQ
    refine HIn.take (i := 0) (v := .int .i64 0) rfl rfl (by kernel_rfl) (by kernel_rfl) (by kernel_rfl) (fun _ _ _ h => h) ⟨fun _ => rfl, Or.inl ⟨by kernel_rfl, fun w hw => by go_simp⟩⟩ hS ?_
    refine HIn.take (i := 1) (v := .bool true) rfl rfl (by kernel_rfl) (by kernel_rfl) (by kernel_rfl) (fun _ _ _ h => h) ⟨fun _ => rfl, Or.inl ⟨by kernel_rfl, fun w hw => by go_simp⟩⟩ hS ?_
    refine HIn.take (i := 2) (v := .bool true) rfl rfl (by kernel_rfl) (by kernel_rfl) (by kernel_rfl) (fun _ _ _ h => h) ⟨fun _ => rfl, Or.inl ⟨by kernel_rfl, fun w hw => by go_simp⟩⟩ hS ?_
    refine HIn.take (i := 3) (v := .nilIface) rfl rfl (by kernel_rfl) (by kernel_rfl) (by kernel_rfl) (fun _ _ _ h => h) ⟨fun _ => rfl, Or.inl ⟨by kernel_rfl, fun w hw => by go_simp⟩⟩ hS ?_
    refine HIn.take (i := 4) (v := .bool true) rfl rfl (by kernel_rfl) (by kernel_rfl) (by kernel_rfl) (fun _ _ _ h => h) ⟨fun _ => rfl, Or.inl ⟨by kernel_rfl, fun w hw => by go_simp⟩⟩ hS ?_
    refine HIn.take (i := 5) (v := .bool true) rfl rfl (by kernel_rfl) (by kernel_rfl) (by kernel_rfl) (fun _ _ _ h => h) ⟨fun _ => rfl, Or.inl ⟨by kernel_rfl, fun w hw => by go_simp⟩⟩ hS ?_
    refine HIn.take (i := 6) (v := .bool true) rfl rfl (by kernel_rfl) (by kernel_rfl) (by kernel_rfl) (fun _ _ _ h => h) ⟨fun _ => rfl, Or.inl ⟨by kernel_rfl, fun w hw => by go_simp⟩⟩ hS ?_
    refine HIn.take (i := 7) (v := .string ⟨#[40, 102, 51, 32, 120, 32, 102, 52, 41]⟩) rfl rfl (by kernel_rfl) (by kernel_rfl) (by kernel_rfl) (fun _ _ _ h => h) ⟨fun _ => rfl, Or.inl ⟨by kernel_rfl, fun w hw => by go_simp⟩⟩ hS ?_
    refine HIn.take (i := 8) (v := .bool true) rfl rfl (by kernel_rfl) (by kernel_rfl) (by kernel_rfl) (fun _ _ _ h => h) ⟨fun _ => rfl, Or.inl ⟨by kernel_rfl, fun w hw => by go_simp⟩⟩ hS ?_
    refine HIn.take (i := 9) (v := .bool true) rfl rfl (by kernel_rfl) (by kernel_rfl) (by kernel_rfl) (fun _ _ _ h => h) ⟨fun _ => rfl, Or.inl ⟨by kernel_rfl, fun w hw => by go_simp⟩⟩ hS ?_
    refine HIn.take (i := 10) (v := .bool true) rfl rfl (by kernel_rfl) (by kernel_rfl) (by kernel_rfl) (fun _ _ _ h => h) ⟨fun _ => rfl, Or.inl ⟨by kernel_rfl, fun w hw => by go_simp⟩⟩ hS ?_
    refine HIn.take (i := 11) (v := .int .i64 148) rfl rfl (by kernel_rfl) (by kernel_rfl) (by kernel_rfl) (fun _ _ _ h => h) ⟨fun _ => rfl, Or.inl ⟨by kernel_rfl, fun w hw => by go_simp⟩⟩ hS ?_
    refine HIn.take (i := 12) (v := .bool true) rfl rfl (by kernel_rfl) (by kernel_rfl) (by kernel_rfl) (fun _ _ _ h => h) ⟨fun _ => rfl, Or.inl ⟨by kernel_rfl, fun w hw => by go_simp⟩⟩ hS ?_
    refine HIn.take (i := 13) (v := .bool true) rfl rfl (by kernel_rfl) (by kernel_rfl) (by kernel_rfl) (fun _ _ _ h => h) ⟨fun _ => rfl, Or.inl ⟨by kernel_rfl, fun w hw => by go_simp⟩⟩ hS ?_
    refine HIn.take (i := 14) (v := .bool true) rfl rfl (by kernel_rfl) (by kernel_rfl) (by kernel_rfl) (fun _ _ _ h => h) ⟨fun _ => rfl, Or.inl ⟨by kernel_rfl, fun w hw => by go_simp⟩⟩ hS ?_
    refine HIn.one (i := 15) rfl (by kernel_rfl) (fun K hK => ?_)
    go_simp
    refine ⟨trivial, fun h => (by cases h), (callsIn_wide.2 hc1).mono ?_⟩
    rintro e W1 ⟨b, rfl, hS1, z1⟩
    refine hK _ _ hS1 ?_
    clear hK K
    refine HIn.one (i := 16) rfl (by kernel_rfl) (fun K hK => ?_)
    go_simp
    refine ⟨trivial, fun h => (by cases h), (callsIn_wide.2 (hc2 b W1 z1)).mono ?_⟩
    rintro e W2 ⟨rfl, hS2, z2⟩
    refine hK _ _ hS2 ?_
    clear hK K
    refine HIn.take (i := 17) (v := .bool true) rfl rfl (by kernel_rfl) (by kernel_rfl) (by kernel_rfl) (fun _ _ _ h => h) ⟨fun _ => rfl, Or.inl ⟨by kernel_rfl, fun w hw => by go_simp⟩⟩ hS2 ?_
    refine HIn.take (i := 18) (v := .bool true) rfl rfl (by kernel_rfl) (by kernel_rfl) (by kernel_rfl) (fun _ _ _ h => h) ⟨fun _ => rfl, Or.inl ⟨by kernel_rfl, fun w hw => by go_simp⟩⟩ hS2 ?_
    refine HIn.take (i := 19) (v := .bool true) rfl rfl (by kernel_rfl) (by kernel_rfl) (by kernel_rfl) (fun _ _ _ h => h) ⟨fun _ => rfl, Or.inl ⟨by kernel_rfl, fun w hw => by go_simp⟩⟩ hS2 ?_
    refine HIn.take (i := 20) (v := .agg #[.int .i64 0, .slice none 0 0, .int .i64 0]) rfl rfl (by kernel_rfl) (by kernel_rfl) (by kernel_rfl) (fun _ _ _ h => h) ⟨fun _ => rfl, Or.inl ⟨by kernel_rfl, fun w hw => by go_simp⟩⟩ hS2 ?_
    refine HIn.take (i := 22) (v := .iface 160 (.pointer (some aR))) rfl rfl (by kernel_rfl) (by kernel_rfl) (by kernel_rfl) (fun _ _ _ h => h) ⟨fun _ => rfl, Or.inl ⟨by kernel_rfl, fun w hw => by go_simp⟩⟩ hS2 ?_
    refine HIn.one (i := 21) rfl (by kernel_rfl) (fun K hK => ?_)
    go_simp
    refine ⟨trivial, fun h => (by cases h), (callsIn_wide.2 (hc3 W2 z2)).mono ?_⟩
    rintro e W3 ⟨rfl, hS3, z3⟩
    refine hK _ _ hS3 ?_
    clear hK K
    refine HIn.take (i := 23) (v := .bool true) rfl rfl (by kernel_rfl) (by kernel_rfl) (by kernel_rfl) (fun _ _ _ h => h) ⟨fun _ => rfl, Or.inl ⟨by kernel_rfl, fun w hw => by go_simp⟩⟩ hS3 ?_
    refine HIn.take (i := 24) (v := .bool true) rfl rfl (by kernel_rfl) (by kernel_rfl) (by kernel_rfl) (fun _ _ _ h => h) ⟨fun _ => rfl, Or.inl ⟨by kernel_rfl, fun w hw => by go_simp⟩⟩ hS3 ?_
    refine HIn.take (i := 25) (v := .bool true) rfl rfl (by kernel_rfl) (by kernel_rfl) (by kernel_rfl) (fun _ _ _ h => h) ⟨fun _ => rfl, Or.inl ⟨by kernel_rfl, fun w hw => by go_simp⟩⟩ hS3 ?_
    refine HIn.done (by kernel_rfl) ?_ _
    exact ⟨b, rfl, z3⟩
  · intro e a w h
    cases e <;> first | exact h.elim | (obtain ⟨b, rfl, h⟩ := h; exact hQ b w h)
end Go.Proofs.YtoaccmblaifnmaaDoor
namespace Go.Proofs.YtoaccmblaifnmaaDoor
open Flo Go.RowKit Go.Shelf Tr
set_option maxRecDepth 100000 in
set_option maxHeartbeats 4000000 in
theorem fixed14_c (w : World) (aR aN aL aO : Addr) (hE : E14 w aR aN aL aO) : Calls Tryd.prog 20 #[] w fun e w' => e = .returned (.bool true) ∧ Below w.heap.size w w' := by
  have hEH : Hid (E14 w aR aN aL aO) := hE
  clear hE
  refine callsIn_wide.1 (?_ : CallsIn Fence.wide 9 Tryd.prog _ _ _ _)
  refine callsIn_of_wp_marks Tryd.func20 rfl trivial ?_ rfl
  simp only [Tryd.ntmps20, List.size_toArray, List.length_nil, Nat.reduceSub, Array.replicate_succ, Array.replicate_zero, List.push_toArray, List.append_toArray, List.nil_append, List.cons_append]
  gi_wp2_with fail
  refine ⟨trivial, (callsIn_wide.2 (usual_c w)).mono ?_⟩
  rintro e w1 ⟨b, rfl, hb, hblk, B1⟩
  have hB1 : Hid (Below w.heap.size w w1) := B1
  have hE1 : Hid (E14 w1 aR aN aL aO) := hEH.out.below B1
  have hb1 : Hid (w1.heap[b]? = some (.cells #[.int .i64 2, .int .i64 3, .int .i64 4, .int .i64 5] 3 (0, 0))) := hblk
  clear hb hblk B1
  have hc := choose_c (D := 16) (p := 13) 12 _ w1 aN aR gd_usual (by decide) (by decide) (usual_fl hb1.out) hE1.out.cN hE1.out.cR (fun x hx _ => by subst hx; exact int_norow hb1.out)
  rw [ch12, show ((12 : Nat) : Int) = 12 from rfl] at hc
  gi_wp2_with fail
  refine ⟨trivial, (callsIn_wide.2 hc).mono ?_⟩
  rintro e w2 ⟨v, rfl, hos, B2⟩
  obtain ⟨av, cv, rfl⟩ := Os.shape hos
  rw [show o34.k = 3 from rfl, show o34.n = 0 from rfl, show o34.ks.length = 2 from rfl] at hos ⊢
  have hB2 : Hid (Below w.heap.size w w2) := btr hB1.out B2
  have hE2 : Hid (E14 w2 aR aN aL aO) := hE1.out.below B2
  have ho2 : Hid (Od w2 o34 (.agg #[.int .i64 3, .int .i64 0, .slice av 2 cv])) := Os.od _ _ hos
  clear hos B2 hc hB1 hE1 hb1 hEH
  obtain ⟨w3, ew3⟩ : ∃ w3, Hid (w2.alloc (.cells #[.int .i64 3, .int .i64 0, .slice av 2 cv] 24) = w3) := ⟨_, (rfl : _ = _)⟩
  obtain ⟨g, hg⟩ : ∃ g, Hid (w2.heap.size = g) := ⟨_, (rfl : _ = _)⟩
  have X3 : Hid (Bo w3 g 3 0 (.slice av 2 cv)) := by
    show Bo _ _ _ _ _
    rw [← ew3.out, ← hg.out]
    exact Bo.new w2 3 0 _
  have B3 : Below w2.heap.size w2 w3 := by
    rw [← ew3.out]
    exact (Below.refl _ _).alloc (Nat.le_refl _) _
  have hB3 : Hid (Below w.heap.size w w3) := btr hB2.out B3
  have hE3 : Hid (E14 w3 aR aN aL aO) := hE2.out.below B3
  have ho3 : Hid (Od w3 o34 (.agg #[.int .i64 3, .int .i64 0, .slice av 2 cv])) := Od.below B3 _ _ ho2.out
  have ht := rText_c o34 _ w3 ho3.out
  rw [txr34, ckn34] at ht
  have x0 := X3.out.c0
  have x1 := X3.out.c1
  have x2 := X3.out.c2
  rw [← ew3.out, ← hg.out] at x0 x1 x2
  clear B3 hE2 ho2 hB2
  gi_wp2_with fail
  rw [ew3.out, hg.out]
  refine ⟨trivial, (callsIn_wide.2 ht).mono ?_⟩
  rintro e w4 ⟨rfl, B4⟩
  have hB4 : Hid (Below w.heap.size w w4) := btr hB3.out B4
  have hE4 : Hid (E14 w4 aR aN aL aO) := hE3.out.below B4
  have ho4 : Hid (Od w4 o34 (.agg #[.int .i64 3, .int .i64 0, .slice av 2 cv])) := Od.below B4 _ _ ho3.out
  have X4 : Hid (Bo w4 g 3 0 (.slice av 2 cv)) := X3.out.bel B4
  clear B4 hE3 ho3 hB3 X3 ht x0 x1 x2
  have x0 := X4.out.c0
  have x1 := X4.out.c1
  have x2 := X4.out.c2
  have hk := pcost_c o34 _ w4 aL aO ho4.out hE4.out.cL hE4.out.cO
  rw [coV34, coE34, show ((148 : Nat) : Int) = 148 from rfl] at hk
  gi_wp2_with fail
  refine ⟨trivial, (callsIn_wide.2 hk).mono ?_⟩
  rintro e w5 ⟨rfl, B5⟩
  have hB5 : Hid (Below w.heap.size w w5) := btr hB4.out B5
  have hE5 : Hid (E14 w5 aR aN aL aO) := hE4.out.below B5
  clear B5 hE4 ho4 hB4 X4 hk x0 x1 x2
  gi_wp2_with fail
  have hEd : E14 w5.drew aR aN aL aO := ⟨hE5.out.cR, hE5.out.cN, hE5.out.cL, hE5.out.cO⟩
  refine fix_reg (aR := aR)
    (Z1 := fun b W1 => Below w.heap.size w W1 ∧ E14 W1 aR aN aL aO ∧ W1.heap[b]? = some (.cells #[.int .i64 2, .int .i64 3, .int .i64 4, .int .i64 5] 3 (0, 0)))
    (Z2 := fun W2 => Below w.heap.size w W2 ∧ E14 W2 aR aN aL aO) (V1 := fun W3 => Below w.heap.size w W3) hE5.out.cR ?_ ?_ ?_ ?_
  · refine (usual_c _).mono ?_
    rintro e W1 ⟨b2, rfl, _, h2, h3⟩
    have e1 := hEd.below h3
    exact ⟨b2, rfl, e1.cR, btr hB5.out.drew h3, e1, h2⟩
  · rintro b2 W1 ⟨h1, h2, h3⟩
    refine (check_usual h3 aR h2.cR).mono ?_
    rintro e W2 ⟨rfl, h4⟩
    have e1 := h2.below h4
    exact ⟨rfl, e1.cR, btr h1 h4, e1⟩
  · rintro W1 ⟨h1, h2⟩
    refine (check_zero _ aR h2.cR).mono ?_
    rintro e W2 ⟨rfl, h4⟩
    exact ⟨rfl, (h2.below h4).cR, btr h1 h4⟩
  · intro b2 W3 h
    have hH : Hid (Below w.heap.size w W3) := h
    clear h
    gi_wp2
    refine ⟨.bool true, ?_, rfl, hH.out⟩
    simp [results, Tryd.f20, go_sem]
end Go.Proofs.YtoaccmblaifnmaaDoor
namespace Go.Proofs.YtoaccmblaifnmaaDoor
open Flo Go.RowKit Tr
theorem dch {D p : Int} {F : List Int} {fv : Value} {B kb : Nat} {V : Nat → Prop} (gpo : Pl.GP D F p) (hF : F.length ≤ 1000) (hV : ∀ b, V b → b < B) : ∀ (k n : Nat), Pl.Dm p n → Pl.mu p n ≤ k → DCH D p F fv B kb V n := by
  intro k
  induction k with
  | zero =>
    intro n hd hk
    have := hd.1
    unfold Pl.mu at hk
    split at hk <;> omega
  | succ k ih => exact fun n hd hk => dch_step gpo hF hV n hd fun m hm hlt => ih m hm (by omega)
/-- nothing is known -/
theorem ks_nil {D p : Int} {F : List Int} (w : World) : KS D p F w.heap.size w.heap.size [] (Tk w.heap.size (.slice none 0 0) (.slice none 0 0) (.slice none 0 0)) (fun _ => False) (w.alloc (.cells #[.slice none 0 0, .slice none 0 0, .slice none 0 0] 79)) :=
  ⟨⟨_, _, _, [], ⟨heap_alloc_new _ _, Nat.le_refl _, World.ownsRow_nil _ _ _ _, World.ownsRow_nil _ _ _ _, World.ownsRow_nil _ _ _ _, rfl, fun s h => (by cases h), fun j t s h1 _ => by simp at h1, fun b h => by simp [Value.ownBlock] at h, fun b h => h.elim⟩, rfl⟩, List.nodup_nil, fun m h => by cases h⟩
end Go.Proofs.YtoaccmblaifnmaaDoor
