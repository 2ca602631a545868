/-
  The statement PlannerLists: the region that compares, driven by hand.
-/
import Derived.WalkKit
import Ieee.Arith
import Derived.WalkLawsBesides
import Derived.Laws.FloatArith
import Derived.Test.YtoaccmblaifnmaaDoorProg
import Derived.RegionTactic
import Derived.Outline
import Derived.Lib.Mul64
import Derived.Laws.Bits64b
import Derived.Deep.QuietTactic
import Derived.BigQuiet
import Derived.WalkSmall
import Derived.Deep.CutBlock
import Derived.Deep.DeepCutAuto
import Derived.Laws.Rows
import Derived.Lib.ItoaNum
import Derived.Laws.IdiomStrings
import Derived.Deep.RegionHeld3
import Derived.Lib.SmallJoins
import Derived.Lib.HexFns
import Derived.Test.YtoaccmblaifnmaaDoorRows
import Derived.LaidEql
import Derived.LaidLaws
import Derived.LaidHandle
import Derived.Stop.Joined
import Derived.Deep.RegionWith
import Derived.Recover
import Derived.RegionDies
import Derived.Laws.CopyOwn
import Derived.Lib.AppendIntMem
import Derived.Deep.RegionHeldLaw
import Derived.Maps.AppendAt
import Derived.Laws.OwnMore
import Derived.RangeFuncNested
import Derived.RangeFuncBound
import Derived.RangeFuncCalls
import Derived.RangeFuncLeaves
import Derived.RangeFuncBox
import Derived.Shelf.Abstract
import Derived.Shelf.RegionOpen
import Derived.OwnWalkIn
import Derived.TacticsInMore
import Derived.LoopNIn
import Derived.LoopIn
import Derived.Laws.AppendOwn
import Derived.OwnWalk
import Derived.BigCall
import Derived.Laws.ComplexArith
import Derived.Laws.MakeOwn
import Derived.MapKept
import Derived.Carry
import Derived.ChangeAlike
import Derived.Deep.RegionLaw
import Derived.Defers
import Derived.Deep.AppendSrc
import Derived.Lib.LaidTab
import Derived.LaidSub
import Derived.LaidMore
import Derived.ProofKit
import Derived.Laws.AppendOwnNone
import Derived.Test.YtoaccmblaifnmaaDoorBf2
namespace Go.Proofs.YtoaccmblaifnmaaDoor
open Flo Go.RowKit Go.Shelf Tr
set_option maxRecDepth 100000 in
set_option maxHeartbeats 16000000 in
theorem pl15a_reg {k N S r1 r2 cp1 cp2 cp3 tl d1 d2 : Nat} {tk tn : Int} {b1 b2 : Option Addr} {r3 d3 : Nat} {b3 : Option Addr} {V1 : World → Prop} {ds : List Deferred} {s0 s1 s3 s4 s5 s6 s9 s11 s13 s14 s15 s16 s17 s18 s19 s20 s21 s22 s23 s24 s25 s26 s27 s28 s29 s30 s31 s32 s33 s34 s35 s36 s37 s38 s39 s40 s41 s42 s43 s44 s45 s46 s47 s48 s49 s50 s51 s52 s53 s54 s55 s56 s57 s58 s59 s60 s61 s62 s63 s64 s65 s66 s67 s68 s69 s70 s71 s72 s73 s74 s75 s76 s77 s78 s79 s80 s81 s82 s83 s84 s85 s86 s87 s88 s89 s90 : Value} {W : World} {Q : Exit → Act → World → Prop} {Z1 : World → Prop}
    (hkN : (k : Int) < (N : Int)) (hkS : (k : Int) < (S : Int)) (hS : (fun X : World => X.cell? ⟨r1, k * 3, none⟩ = some (.int .i64 tk) ∧ X.cell? ⟨r1, k * 3 + 1, none⟩ = some (.int .i64 tn) ∧ X.cell? ⟨r1, k * 3 + 2, none⟩ = some (.slice b1 tl d1) ∧ X.cell? ⟨r2, k * 3, none⟩ = some (.int .i64 tk) ∧ X.cell? ⟨r2, k * 3 + 1, none⟩ = some (.int .i64 tn) ∧ X.cell? ⟨r2, k * 3 + 2, none⟩ = some (.slice b2 tl d2) ∧ X.cell? ⟨r3, k * 3, none⟩ = some (.int .i64 tk) ∧ X.cell? ⟨r3, k * 3 + 1, none⟩ = some (.int .i64 tn) ∧ X.cell? ⟨r3, k * 3 + 2, none⟩ = some (.slice b3 tl d3)) W.drew)
    (hc1 : Calls Tryd.prog 16 #[.agg #[.int .i64 tk, .int .i64 tn, .slice b2 tl d2], .agg #[.int .i64 tk, .int .i64 tn, .slice b1 tl d1]] W.drew fun e W1 => e = .returned (.bool true) ∧ (fun X : World => X.cell? ⟨r1, k * 3, none⟩ = some (.int .i64 tk) ∧ X.cell? ⟨r1, k * 3 + 1, none⟩ = some (.int .i64 tn) ∧ X.cell? ⟨r1, k * 3 + 2, none⟩ = some (.slice b1 tl d1) ∧ X.cell? ⟨r2, k * 3, none⟩ = some (.int .i64 tk) ∧ X.cell? ⟨r2, k * 3 + 1, none⟩ = some (.int .i64 tn) ∧ X.cell? ⟨r2, k * 3 + 2, none⟩ = some (.slice b2 tl d2) ∧ X.cell? ⟨r3, k * 3, none⟩ = some (.int .i64 tk) ∧ X.cell? ⟨r3, k * 3 + 1, none⟩ = some (.int .i64 tn) ∧ X.cell? ⟨r3, k * 3 + 2, none⟩ = some (.slice b3 tl d3)) W1 ∧ Z1 W1)
    (hc2 : ∀ W1, Z1 W1 → Calls Tryd.prog 16 #[.agg #[.int .i64 tk, .int .i64 tn, .slice b3 tl d3], .agg #[.int .i64 tk, .int .i64 tn, .slice b1 tl d1]] W1 fun e W2 => e = .returned (.bool true) ∧ (fun X : World => X.cell? ⟨r1, k * 3, none⟩ = some (.int .i64 tk) ∧ X.cell? ⟨r1, k * 3 + 1, none⟩ = some (.int .i64 tn) ∧ X.cell? ⟨r1, k * 3 + 2, none⟩ = some (.slice b1 tl d1) ∧ X.cell? ⟨r2, k * 3, none⟩ = some (.int .i64 tk) ∧ X.cell? ⟨r2, k * 3 + 1, none⟩ = some (.int .i64 tn) ∧ X.cell? ⟨r2, k * 3 + 2, none⟩ = some (.slice b2 tl d2) ∧ X.cell? ⟨r3, k * 3, none⟩ = some (.int .i64 tk) ∧ X.cell? ⟨r3, k * 3 + 1, none⟩ = some (.int .i64 tn) ∧ X.cell? ⟨r3, k * 3 + 2, none⟩ = some (.slice b3 tl d3)) W2 ∧ V1 W2)
    (hQ : ∀ W', V1 W' → Q .normal { tmps := #[s0, s1, .int .i64 (S : Int), s3, s4, s5, s6, .slice (some ⟨r1, 0, none⟩) N cp1, .slice (some ⟨r2, 0, none⟩) N cp2, s9, .slice (some ⟨r3, 0, none⟩) S cp3, s11, .int .i64 (k : Int), s13, s14, s15, s16, s17, s18, s19, s20, s21, s22, s23, s24, s25, s26, s27, s28, s29, s30, s31, s32, s33, s34, s35, s36, s37, s38, s39, s40, s41, s42, s43, s44, s45, s46, s47, s48, s49, s50, s51, s52, s53, s54, s55, s56, s57, s58, s59, s60, s61, s62, .slice (some ⟨r2, 0, none⟩) N cp2, .int .i64 (k : Int), .pointer (some ⟨r2, k * 3, none⟩), .agg #[.int .i64 tk, .int .i64 tn, .slice b2 tl d2], .slice (some ⟨r1, 0, none⟩) N cp1, .int .i64 (k : Int), .pointer (some ⟨r1, k * 3, none⟩), .agg #[.int .i64 tk, .int .i64 tn, .slice b1 tl d1], .bool true, .bool false, .bool false, .int .i64 (k : Int), .int .i64 (S : Int), .bool true, .bool true, .slice (some ⟨r3, 0, none⟩) S cp3, .int .i64 (k : Int), .pointer (some ⟨r3, k * 3, none⟩), .agg #[.int .i64 tk, .int .i64 tn, .slice b3 tl d3], .slice (some ⟨r1, 0, none⟩) N cp1, .int .i64 (k : Int), .pointer (some ⟨r1, k * 3, none⟩), .agg #[.int .i64 tk, .int .i64 tn, .slice b1 tl d1], .bool true, .bool false, .bool false, .bool false, s90], defers := ds } W') :
    (Code.region 15 #[{ dst := some 63, op := Go.Op.move (Go.Operand.tmp 8), type := 22, pos := "law.go:98", after := #[], guard := none },
      { dst := some 64, op := Go.Op.move (Go.Operand.tmp 12), type := 3, pos := "law.go:98", after := #[], guard := none },
      { dst := some 65, op := Go.Op.indexAddr 22 (Go.Operand.tmp 63) (Go.Operand.tmp 64), type := 0, pos := "law.go:98", after := #[{ on := 0, ground := Go.Ground.data }, { on := 1, ground := Go.Ground.data }], guard := none },
      { dst := some 66, op := Go.Op.load 24 (Go.Operand.tmp 65), type := 24, pos := "law.go:98", after := #[{ on := 2, ground := Go.Ground.data }], guard := none },
      { dst := some 67, op := Go.Op.move (Go.Operand.tmp 7), type := 22, pos := "law.go:98", after := #[], guard := none },
      { dst := some 68, op := Go.Op.move (Go.Operand.tmp 12), type := 3, pos := "law.go:98", after := #[], guard := none },
      { dst := some 69, op := Go.Op.indexAddr 22 (Go.Operand.tmp 67) (Go.Operand.tmp 68), type := 0, pos := "law.go:98", after := #[{ on := 4, ground := Go.Ground.data }, { on := 5, ground := Go.Ground.data }], guard := none },
      { dst := some 70, op := Go.Op.load 24 (Go.Operand.tmp 69), type := 24, pos := "law.go:98", after := #[{ on := 6, ground := Go.Ground.data }], guard := none },
      { dst := some 71, op := Go.Op.call { callee := Go.Callee.value (Go.Operand.func 16), args := #[Go.Operand.tmp 66, Go.Operand.tmp 70], argTypes := #[24, 24] }, type := 4, pos := "law.go:98", after := #[{ on := 3, ground := Go.Ground.data }, { on := 7, ground := Go.Ground.data }], guard := none },
      { dst := some 72, op := Go.Op.unOp Go.UnOp.not 4 (Go.Operand.tmp 71), type := 4, pos := "law.go:98", after := #[{ on := 8, ground := Go.Ground.data }], guard := none },
      { dst := some 73, op := Go.Op.move (Go.Operand.tmp 72), type := 4, pos := "law.go:98", after := #[{ on := 9, ground := Go.Ground.data }, { on := 8, ground := Go.Ground.chain }], guard := none },
      { dst := some 74, op := Go.Op.move (Go.Operand.tmp 12), type := 3, pos := "law.go:98", after := #[{ on := 10, ground := Go.Ground.guard }], guard := some (10, false) },
      { dst := some 75, op := Go.Op.move (Go.Operand.tmp 2), type := 3, pos := "law.go:98", after := #[{ on := 10, ground := Go.Ground.guard }], guard := some (10, false) },
      { dst := some 76, op := Go.Op.binOp Go.BinOp.lss 3 (Go.Operand.tmp 74) (Go.Operand.tmp 75) 3, type := 4, pos := "law.go:98", after := #[{ on := 11, ground := Go.Ground.data }, { on := 12, ground := Go.Ground.data }, { on := 10, ground := Go.Ground.guard }], guard := some (10, false) },
      { dst := some 77, op := Go.Op.move (Go.Operand.tmp 76), type := 4, pos := "law.go:98", after := #[{ on := 13, ground := Go.Ground.data }, { on := 10, ground := Go.Ground.chain }, { on := 10, ground := Go.Ground.guard }], guard := some (10, false) },
      { dst := some 78, op := Go.Op.move (Go.Operand.tmp 10), type := 22, pos := "law.go:98", after := #[{ on := 14, ground := Go.Ground.guard }], guard := some (14, true) },
      { dst := some 79, op := Go.Op.move (Go.Operand.tmp 12), type := 3, pos := "law.go:98", after := #[{ on := 14, ground := Go.Ground.guard }], guard := some (14, true) },
      { dst := some 80, op := Go.Op.indexAddr 22 (Go.Operand.tmp 78) (Go.Operand.tmp 79), type := 0, pos := "law.go:98", after := #[{ on := 15, ground := Go.Ground.data }, { on := 16, ground := Go.Ground.data }, { on := 14, ground := Go.Ground.guard }], guard := some (14, true) },
      { dst := some 81, op := Go.Op.load 24 (Go.Operand.tmp 80), type := 24, pos := "law.go:98", after := #[{ on := 17, ground := Go.Ground.data }, { on := 14, ground := Go.Ground.guard }], guard := some (14, true) },
      { dst := some 82, op := Go.Op.move (Go.Operand.tmp 7), type := 22, pos := "law.go:98", after := #[{ on := 14, ground := Go.Ground.guard }], guard := some (14, true) },
      { dst := some 83, op := Go.Op.move (Go.Operand.tmp 12), type := 3, pos := "law.go:98", after := #[{ on := 14, ground := Go.Ground.guard }], guard := some (14, true) },
      { dst := some 84, op := Go.Op.indexAddr 22 (Go.Operand.tmp 82) (Go.Operand.tmp 83), type := 0, pos := "law.go:98", after := #[{ on := 19, ground := Go.Ground.data }, { on := 20, ground := Go.Ground.data }, { on := 14, ground := Go.Ground.guard }], guard := some (14, true) },
      { dst := some 85, op := Go.Op.load 24 (Go.Operand.tmp 84), type := 24, pos := "law.go:98", after := #[{ on := 21, ground := Go.Ground.data }, { on := 14, ground := Go.Ground.guard }], guard := some (14, true) },
      { dst := some 86, op := Go.Op.call { callee := Go.Callee.value (Go.Operand.func 16), args := #[Go.Operand.tmp 81, Go.Operand.tmp 85], argTypes := #[24, 24] }, type := 4, pos := "law.go:98", after := #[{ on := 18, ground := Go.Ground.data }, { on := 22, ground := Go.Ground.data }, { on := 14, ground := Go.Ground.chain }, { on := 14, ground := Go.Ground.guard }], guard := some (14, true) },
      { dst := some 87, op := Go.Op.unOp Go.UnOp.not 4 (Go.Operand.tmp 86), type := 4, pos := "law.go:98", after := #[{ on := 23, ground := Go.Ground.data }, { on := 14, ground := Go.Ground.guard }], guard := some (14, true) },
      { dst := some 88, op := Go.Op.pick (Go.Operand.tmp 77) (Go.Operand.tmp 87) (Go.Operand.const (Go.Value.bool false)), type := 4, pos := "law.go:98", after := #[{ on := 14, ground := Go.Ground.data }, { on := 24, ground := Go.Ground.data }, { on := 10, ground := Go.Ground.guard }], guard := some (10, false) },
      { dst := some 89, op := Go.Op.pick (Go.Operand.tmp 73) (Go.Operand.const (Go.Value.bool true)) (Go.Operand.tmp 88), type := 4, pos := "law.go:98", after := #[{ on := 10, ground := Go.Ground.data }, { on := 25, ground := Go.Ground.data }], guard := none }] true).wp Tryd.prog Q { tmps := #[s0, s1, .int .i64 (S : Int), s3, s4, s5, s6, .slice (some ⟨r1, 0, none⟩) N cp1, .slice (some ⟨r2, 0, none⟩) N cp2, s9, .slice (some ⟨r3, 0, none⟩) S cp3, s11, .int .i64 (k : Int), s13, s14, s15, s16, s17, s18, s19, s20, s21, s22, s23, s24, s25, s26, s27, s28, s29, s30, s31, s32, s33, s34, s35, s36, s37, s38, s39, s40, s41, s42, s43, s44, s45, s46, s47, s48, s49, s50, s51, s52, s53, s54, s55, s56, s57, s58, s59, s60, s61, s62, s63, s64, s65, s66, s67, s68, s69, s70, s71, s72, s73, s74, s75, s76, s77, s78, s79, s80, s81, s82, s83, s84, s85, s86, s87, s88, s89, s90], defers := ds } W := by
  have hmix : Tryd.prog.follows .mixedOrders = true := by kernel_rfl
  refine (wpIn_wide (n := 9)).1 ?_
  refine wpIn_mono (Q := qS V1 { tmps := #[s0, s1, .int .i64 (S : Int), s3, s4, s5, s6, .slice (some ⟨r1, 0, none⟩) N cp1, .slice (some ⟨r2, 0, none⟩) N cp2, s9, .slice (some ⟨r3, 0, none⟩) S cp3, s11, .int .i64 (k : Int), s13, s14, s15, s16, s17, s18, s19, s20, s21, s22, s23, s24, s25, s26, s27, s28, s29, s30, s31, s32, s33, s34, s35, s36, s37, s38, s39, s40, s41, s42, s43, s44, s45, s46, s47, s48, s49, s50, s51, s52, s53, s54, s55, s56, s57, s58, s59, s60, s61, s62, .slice (some ⟨r2, 0, none⟩) N cp2, .int .i64 (k : Int), .pointer (some ⟨r2, k * 3, none⟩), .agg #[.int .i64 tk, .int .i64 tn, .slice b2 tl d2], .slice (some ⟨r1, 0, none⟩) N cp1, .int .i64 (k : Int), .pointer (some ⟨r1, k * 3, none⟩), .agg #[.int .i64 tk, .int .i64 tn, .slice b1 tl d1], .bool true, .bool false, .bool false, .int .i64 (k : Int), .int .i64 (S : Int), .bool true, .bool true, .slice (some ⟨r3, 0, none⟩) S cp3, .int .i64 (k : Int), .pointer (some ⟨r3, k * 3, none⟩), .agg #[.int .i64 tk, .int .i64 tn, .slice b3 tl d3], .slice (some ⟨r1, 0, none⟩) N cp1, .int .i64 (k : Int), .pointer (some ⟨r1, k * 3, none⟩), .agg #[.int .i64 tk, .int .i64 tn, .slice b1 tl d1], .bool true, .bool false, .bool false, .bool false, s90], defers := ds }) ?_ (fun e a w h => by cases e <;> first | exact h.elim | (obtain ⟨rfl, h⟩ := h; exact hQ w h))
  refine HIn.plain (S := fun X : World => X.cell? ⟨r1, k * 3, none⟩ = some (.int .i64 tk) ∧ X.cell? ⟨r1, k * 3 + 1, none⟩ = some (.int .i64 tn) ∧ X.cell? ⟨r1, k * 3 + 2, none⟩ = some (.slice b1 tl d1) ∧ X.cell? ⟨r2, k * 3, none⟩ = some (.int .i64 tk) ∧ X.cell? ⟨r2, k * 3 + 1, none⟩ = some (.int .i64 tn) ∧ X.cell? ⟨r2, k * 3 + 2, none⟩ = some (.slice b2 tl d2) ∧ X.cell? ⟨r3, k * 3, none⟩ = some (.int .i64 tk) ∧ X.cell? ⟨r3, k * 3 + 1, none⟩ = some (.int .i64 tn) ∧ X.cell? ⟨r3, k * 3 + 2, none⟩ = some (.slice b3 tl d3)) hmix ?_
  clear hQ
  refine HIn.take (i := 0) (v := .slice (some ⟨r2, 0, none⟩) N cp2) rfl rfl (by kernel_rfl) (by kernel_rfl) (by kernel_rfl) (fun _ _ _ h => h) ⟨fun _ => rfl, Or.inl ⟨by kernel_rfl, fun w hw => by obtain ⟨e0, e1, e2, e3, e4, e5, e6, e7, e8⟩ := hw; first | (go_simp; done) | (go_simp; omega)⟩⟩ hS ?_
  refine HIn.take (i := 1) (v := .int .i64 (k : Int)) rfl rfl (by kernel_rfl) (by kernel_rfl) (by kernel_rfl) (fun _ _ _ h => h) ⟨fun _ => rfl, Or.inl ⟨by kernel_rfl, fun w hw => by obtain ⟨e0, e1, e2, e3, e4, e5, e6, e7, e8⟩ := hw; first | (go_simp; done) | (go_simp; omega)⟩⟩ hS ?_
  refine HIn.take (i := 2) (v := .pointer (some ⟨r2, k * 3, none⟩)) rfl rfl (by kernel_rfl) (by kernel_rfl) (by kernel_rfl) (fun _ _ _ h => h) ⟨fun _ => rfl, Or.inl ⟨by kernel_rfl, fun w hw => by obtain ⟨e0, e1, e2, e3, e4, e5, e6, e7, e8⟩ := hw; first | (go_simp; done) | (go_simp; omega)⟩⟩ hS ?_
  refine HIn.take (i := 3) (v := .agg #[.int .i64 tk, .int .i64 tn, .slice b2 tl d2]) rfl rfl (by kernel_rfl) (by kernel_rfl) (by kernel_rfl) (fun _ _ _ h => h) ⟨fun _ => rfl, Or.inl ⟨by kernel_rfl, fun w hw => by obtain ⟨e0, e1, e2, e3, e4, e5, e6, e7, e8⟩ := hw; first | (go_simp; done) | (go_simp; omega)⟩⟩ hS ?_
  refine HIn.take (i := 4) (v := .slice (some ⟨r1, 0, none⟩) N cp1) rfl rfl (by kernel_rfl) (by kernel_rfl) (by kernel_rfl) (fun _ _ _ h => h) ⟨fun _ => rfl, Or.inl ⟨by kernel_rfl, fun w hw => by obtain ⟨e0, e1, e2, e3, e4, e5, e6, e7, e8⟩ := hw; first | (go_simp; done) | (go_simp; omega)⟩⟩ hS ?_
  refine HIn.take (i := 5) (v := .int .i64 (k : Int)) rfl rfl (by kernel_rfl) (by kernel_rfl) (by kernel_rfl) (fun _ _ _ h => h) ⟨fun _ => rfl, Or.inl ⟨by kernel_rfl, fun w hw => by obtain ⟨e0, e1, e2, e3, e4, e5, e6, e7, e8⟩ := hw; first | (go_simp; done) | (go_simp; omega)⟩⟩ hS ?_
  refine HIn.take (i := 6) (v := .pointer (some ⟨r1, k * 3, none⟩)) rfl rfl (by kernel_rfl) (by kernel_rfl) (by kernel_rfl) (fun _ _ _ h => h) ⟨fun _ => rfl, Or.inl ⟨by kernel_rfl, fun w hw => by obtain ⟨e0, e1, e2, e3, e4, e5, e6, e7, e8⟩ := hw; first | (go_simp; done) | (go_simp; omega)⟩⟩ hS ?_
  refine HIn.take (i := 7) (v := .agg #[.int .i64 tk, .int .i64 tn, .slice b1 tl d1]) rfl rfl (by kernel_rfl) (by kernel_rfl) (by kernel_rfl) (fun _ _ _ h => h) ⟨fun _ => rfl, Or.inl ⟨by kernel_rfl, fun w hw => by obtain ⟨e0, e1, e2, e3, e4, e5, e6, e7, e8⟩ := hw; first | (go_simp; done) | (go_simp; omega)⟩⟩ hS ?_
  refine HIn.one (i := 8) rfl (by kernel_rfl) (fun K hK => ?_)
  go_simp
  refine ⟨trivial, (callsIn_wide.2 hc1).mono ?_⟩
  rintro e W1 ⟨rfl, hS1, z1⟩
  refine hK _ _ hS1 ?_
  clear hK K
  refine HIn.take (i := 9) (v := .bool false) rfl rfl (by kernel_rfl) (by kernel_rfl) (by kernel_rfl) (fun _ _ _ h => h) ⟨fun _ => rfl, Or.inl ⟨by kernel_rfl, fun w hw => by obtain ⟨e0, e1, e2, e3, e4, e5, e6, e7, e8⟩ := hw; first | (go_simp; done) | (go_simp; omega)⟩⟩ hS1 ?_
  refine HIn.take (i := 10) (v := .bool false) rfl rfl (by kernel_rfl) (by kernel_rfl) (by kernel_rfl) (fun _ _ _ h => h) ⟨fun _ => rfl, Or.inl ⟨by kernel_rfl, fun w hw => by obtain ⟨e0, e1, e2, e3, e4, e5, e6, e7, e8⟩ := hw; first | (go_simp; done) | (go_simp; omega)⟩⟩ hS1 ?_
  refine HIn.take (i := 11) (v := .int .i64 (k : Int)) rfl rfl (by kernel_rfl) (by kernel_rfl) (by kernel_rfl) (fun _ _ _ h => h) ⟨fun _ => rfl, Or.inl ⟨by kernel_rfl, fun w hw => by obtain ⟨e0, e1, e2, e3, e4, e5, e6, e7, e8⟩ := hw; first | (go_simp; done) | (go_simp; omega)⟩⟩ hS1 ?_
  refine HIn.take (i := 12) (v := .int .i64 (S : Int)) rfl rfl (by kernel_rfl) (by kernel_rfl) (by kernel_rfl) (fun _ _ _ h => h) ⟨fun _ => rfl, Or.inl ⟨by kernel_rfl, fun w hw => by obtain ⟨e0, e1, e2, e3, e4, e5, e6, e7, e8⟩ := hw; first | (go_simp; done) | (go_simp; omega)⟩⟩ hS1 ?_
  refine HIn.take (i := 13) (v := .bool true) rfl rfl (by kernel_rfl) (by kernel_rfl) (by kernel_rfl) (fun _ _ _ h => h) ⟨fun _ => rfl, Or.inl ⟨by kernel_rfl, fun w hw => by obtain ⟨e0, e1, e2, e3, e4, e5, e6, e7, e8⟩ := hw; first | (go_simp; done) | (go_simp; omega)⟩⟩ hS1 ?_
  refine HIn.take (i := 14) (v := .bool true) rfl rfl (by kernel_rfl) (by kernel_rfl) (by kernel_rfl) (fun _ _ _ h => h) ⟨fun _ => rfl, Or.inl ⟨by kernel_rfl, fun w hw => by obtain ⟨e0, e1, e2, e3, e4, e5, e6, e7, e8⟩ := hw; first | (go_simp; done) | (go_simp; omega)⟩⟩ hS1 ?_
  refine HIn.take (i := 15) (v := .slice (some ⟨r3, 0, none⟩) S cp3) rfl rfl (by kernel_rfl) (by kernel_rfl) (by kernel_rfl) (fun _ _ _ h => h) ⟨fun _ => rfl, Or.inl ⟨by kernel_rfl, fun w hw => by obtain ⟨e0, e1, e2, e3, e4, e5, e6, e7, e8⟩ := hw; first | (go_simp; done) | (go_simp; omega)⟩⟩ hS1 ?_
  refine HIn.take (i := 16) (v := .int .i64 (k : Int)) rfl rfl (by kernel_rfl) (by kernel_rfl) (by kernel_rfl) (fun _ _ _ h => h) ⟨fun _ => rfl, Or.inl ⟨by kernel_rfl, fun w hw => by obtain ⟨e0, e1, e2, e3, e4, e5, e6, e7, e8⟩ := hw; first | (go_simp; done) | (go_simp; omega)⟩⟩ hS1 ?_
  refine HIn.take (i := 17) (v := .pointer (some ⟨r3, k * 3, none⟩)) rfl rfl (by kernel_rfl) (by kernel_rfl) (by kernel_rfl) (fun _ _ _ h => h) ⟨fun _ => rfl, Or.inl ⟨by kernel_rfl, fun w hw => by obtain ⟨e0, e1, e2, e3, e4, e5, e6, e7, e8⟩ := hw; first | (go_simp; done) | (go_simp; omega)⟩⟩ hS1 ?_
  refine HIn.take (i := 18) (v := .agg #[.int .i64 tk, .int .i64 tn, .slice b3 tl d3]) rfl rfl (by kernel_rfl) (by kernel_rfl) (by kernel_rfl) (fun _ _ _ h => h) ⟨fun _ => rfl, Or.inl ⟨by kernel_rfl, fun w hw => by obtain ⟨e0, e1, e2, e3, e4, e5, e6, e7, e8⟩ := hw; first | (go_simp; done) | (go_simp; omega)⟩⟩ hS1 ?_
  refine HIn.take (i := 19) (v := .slice (some ⟨r1, 0, none⟩) N cp1) rfl rfl (by kernel_rfl) (by kernel_rfl) (by kernel_rfl) (fun _ _ _ h => h) ⟨fun _ => rfl, Or.inl ⟨by kernel_rfl, fun w hw => by obtain ⟨e0, e1, e2, e3, e4, e5, e6, e7, e8⟩ := hw; first | (go_simp; done) | (go_simp; omega)⟩⟩ hS1 ?_
  refine HIn.take (i := 20) (v := .int .i64 (k : Int)) rfl rfl (by kernel_rfl) (by kernel_rfl) (by kernel_rfl) (fun _ _ _ h => h) ⟨fun _ => rfl, Or.inl ⟨by kernel_rfl, fun w hw => by obtain ⟨e0, e1, e2, e3, e4, e5, e6, e7, e8⟩ := hw; first | (go_simp; done) | (go_simp; omega)⟩⟩ hS1 ?_
  refine HIn.take (i := 21) (v := .pointer (some ⟨r1, k * 3, none⟩)) rfl rfl (by kernel_rfl) (by kernel_rfl) (by kernel_rfl) (fun _ _ _ h => h) ⟨fun _ => rfl, Or.inl ⟨by kernel_rfl, fun w hw => by obtain ⟨e0, e1, e2, e3, e4, e5, e6, e7, e8⟩ := hw; first | (go_simp; done) | (go_simp; omega)⟩⟩ hS1 ?_
  refine HIn.take (i := 22) (v := .agg #[.int .i64 tk, .int .i64 tn, .slice b1 tl d1]) rfl rfl (by kernel_rfl) (by kernel_rfl) (by kernel_rfl) (fun _ _ _ h => h) ⟨fun _ => rfl, Or.inl ⟨by kernel_rfl, fun w hw => by obtain ⟨e0, e1, e2, e3, e4, e5, e6, e7, e8⟩ := hw; first | (go_simp; done) | (go_simp; omega)⟩⟩ hS1 ?_
  refine HIn.one (i := 23) rfl (by kernel_rfl) (fun K hK => ?_)
  go_simp
  refine ⟨trivial, (callsIn_wide.2 (hc2 W1 z1)).mono ?_⟩
  rintro e W2 ⟨rfl, hS2, z2⟩
  refine hK _ _ hS2 ?_
  clear hK K
  refine HIn.take (i := 24) (v := .bool false) rfl rfl (by kernel_rfl) (by kernel_rfl) (by kernel_rfl) (fun _ _ _ h => h) ⟨fun _ => rfl, Or.inl ⟨by kernel_rfl, fun w hw => by obtain ⟨e0, e1, e2, e3, e4, e5, e6, e7, e8⟩ := hw; first | (go_simp; done) | (go_simp; omega)⟩⟩ hS2 ?_
  refine HIn.take (i := 25) (v := .bool false) rfl rfl (by kernel_rfl) (by kernel_rfl) (by kernel_rfl) (fun _ _ _ h => h) ⟨fun _ => rfl, Or.inl ⟨by kernel_rfl, fun w hw => by obtain ⟨e0, e1, e2, e3, e4, e5, e6, e7, e8⟩ := hw; first | (go_simp; done) | (go_simp; omega)⟩⟩ hS2 ?_
  refine HIn.take (i := 26) (v := .bool false) rfl rfl (by kernel_rfl) (by kernel_rfl) (by kernel_rfl) (fun _ _ _ h => h) ⟨fun _ => rfl, Or.inl ⟨by kernel_rfl, fun w hw => by obtain ⟨e0, e1, e2, e3, e4, e5, e6, e7, e8⟩ := hw; first | (go_simp; done) | (go_simp; omega)⟩⟩ hS2 ?_
  refine HIn.done (by kernel_rfl) ?_ _
  exact ⟨by kernel_rfl, z2⟩
set_option maxRecDepth 100000 in
set_option maxHeartbeats 16000000 in
theorem pl15b_reg {k N S r1 r2 cp1 cp2 cp3 tl d1 d2 : Nat} {tk tn : Int} {b1 b2 : Option Addr} {a3 : Option Addr} {ds : List Deferred} {s0 s1 s3 s4 s5 s6 s9 s11 s13 s14 s15 s16 s17 s18 s19 s20 s21 s22 s23 s24 s25 s26 s27 s28 s29 s30 s31 s32 s33 s34 s35 s36 s37 s38 s39 s40 s41 s42 s43 s44 s45 s46 s47 s48 s49 s50 s51 s52 s53 s54 s55 s56 s57 s58 s59 s60 s61 s62 s63 s64 s65 s66 s67 s68 s69 s70 s71 s72 s73 s74 s75 s76 s77 s78 s79 s80 s81 s82 s83 s84 s85 s86 s87 s88 s89 s90 : Value} {W : World} {Q : Exit → Act → World → Prop} {Z1 : World → Prop}
    (hkN : (k : Int) < (N : Int)) (hkS : ¬ (k : Int) < (S : Int)) (hS : (fun X : World => X.cell? ⟨r1, k * 3, none⟩ = some (.int .i64 tk) ∧ X.cell? ⟨r1, k * 3 + 1, none⟩ = some (.int .i64 tn) ∧ X.cell? ⟨r1, k * 3 + 2, none⟩ = some (.slice b1 tl d1) ∧ X.cell? ⟨r2, k * 3, none⟩ = some (.int .i64 tk) ∧ X.cell? ⟨r2, k * 3 + 1, none⟩ = some (.int .i64 tn) ∧ X.cell? ⟨r2, k * 3 + 2, none⟩ = some (.slice b2 tl d2)) W.drew)
    (hc1 : Calls Tryd.prog 16 #[.agg #[.int .i64 tk, .int .i64 tn, .slice b2 tl d2], .agg #[.int .i64 tk, .int .i64 tn, .slice b1 tl d1]] W.drew fun e W1 => e = .returned (.bool true) ∧ (fun X : World => X.cell? ⟨r1, k * 3, none⟩ = some (.int .i64 tk) ∧ X.cell? ⟨r1, k * 3 + 1, none⟩ = some (.int .i64 tn) ∧ X.cell? ⟨r1, k * 3 + 2, none⟩ = some (.slice b1 tl d1) ∧ X.cell? ⟨r2, k * 3, none⟩ = some (.int .i64 tk) ∧ X.cell? ⟨r2, k * 3 + 1, none⟩ = some (.int .i64 tn) ∧ X.cell? ⟨r2, k * 3 + 2, none⟩ = some (.slice b2 tl d2)) W1 ∧ Z1 W1)
    (hQ : ∀ W', Z1 W' → Q .normal { tmps := #[s0, s1, .int .i64 (S : Int), s3, s4, s5, s6, .slice (some ⟨r1, 0, none⟩) N cp1, .slice (some ⟨r2, 0, none⟩) N cp2, s9, .slice a3 S cp3, s11, .int .i64 (k : Int), s13, s14, s15, s16, s17, s18, s19, s20, s21, s22, s23, s24, s25, s26, s27, s28, s29, s30, s31, s32, s33, s34, s35, s36, s37, s38, s39, s40, s41, s42, s43, s44, s45, s46, s47, s48, s49, s50, s51, s52, s53, s54, s55, s56, s57, s58, s59, s60, s61, s62, .slice (some ⟨r2, 0, none⟩) N cp2, .int .i64 (k : Int), .pointer (some ⟨r2, k * 3, none⟩), .agg #[.int .i64 tk, .int .i64 tn, .slice b2 tl d2], .slice (some ⟨r1, 0, none⟩) N cp1, .int .i64 (k : Int), .pointer (some ⟨r1, k * 3, none⟩), .agg #[.int .i64 tk, .int .i64 tn, .slice b1 tl d1], .bool true, .bool false, .bool false, .int .i64 (k : Int), .int .i64 (S : Int), .bool false, .bool false, undef, undef, undef, undef, undef, undef, undef, undef, undef, undef, .bool false, .bool false, s90], defers := ds } W') :
    (Code.region 15 #[{ dst := some 63, op := Go.Op.move (Go.Operand.tmp 8), type := 22, pos := "law.go:98", after := #[], guard := none },
      { dst := some 64, op := Go.Op.move (Go.Operand.tmp 12), type := 3, pos := "law.go:98", after := #[], guard := none },
      { dst := some 65, op := Go.Op.indexAddr 22 (Go.Operand.tmp 63) (Go.Operand.tmp 64), type := 0, pos := "law.go:98", after := #[{ on := 0, ground := Go.Ground.data }, { on := 1, ground := Go.Ground.data }], guard := none },
      { dst := some 66, op := Go.Op.load 24 (Go.Operand.tmp 65), type := 24, pos := "law.go:98", after := #[{ on := 2, ground := Go.Ground.data }], guard := none },
      { dst := some 67, op := Go.Op.move (Go.Operand.tmp 7), type := 22, pos := "law.go:98", after := #[], guard := none },
      { dst := some 68, op := Go.Op.move (Go.Operand.tmp 12), type := 3, pos := "law.go:98", after := #[], guard := none },
      { dst := some 69, op := Go.Op.indexAddr 22 (Go.Operand.tmp 67) (Go.Operand.tmp 68), type := 0, pos := "law.go:98", after := #[{ on := 4, ground := Go.Ground.data }, { on := 5, ground := Go.Ground.data }], guard := none },
      { dst := some 70, op := Go.Op.load 24 (Go.Operand.tmp 69), type := 24, pos := "law.go:98", after := #[{ on := 6, ground := Go.Ground.data }], guard := none },
      { dst := some 71, op := Go.Op.call { callee := Go.Callee.value (Go.Operand.func 16), args := #[Go.Operand.tmp 66, Go.Operand.tmp 70], argTypes := #[24, 24] }, type := 4, pos := "law.go:98", after := #[{ on := 3, ground := Go.Ground.data }, { on := 7, ground := Go.Ground.data }], guard := none },
      { dst := some 72, op := Go.Op.unOp Go.UnOp.not 4 (Go.Operand.tmp 71), type := 4, pos := "law.go:98", after := #[{ on := 8, ground := Go.Ground.data }], guard := none },
      { dst := some 73, op := Go.Op.move (Go.Operand.tmp 72), type := 4, pos := "law.go:98", after := #[{ on := 9, ground := Go.Ground.data }, { on := 8, ground := Go.Ground.chain }], guard := none },
      { dst := some 74, op := Go.Op.move (Go.Operand.tmp 12), type := 3, pos := "law.go:98", after := #[{ on := 10, ground := Go.Ground.guard }], guard := some (10, false) },
      { dst := some 75, op := Go.Op.move (Go.Operand.tmp 2), type := 3, pos := "law.go:98", after := #[{ on := 10, ground := Go.Ground.guard }], guard := some (10, false) },
      { dst := some 76, op := Go.Op.binOp Go.BinOp.lss 3 (Go.Operand.tmp 74) (Go.Operand.tmp 75) 3, type := 4, pos := "law.go:98", after := #[{ on := 11, ground := Go.Ground.data }, { on := 12, ground := Go.Ground.data }, { on := 10, ground := Go.Ground.guard }], guard := some (10, false) },
      { dst := some 77, op := Go.Op.move (Go.Operand.tmp 76), type := 4, pos := "law.go:98", after := #[{ on := 13, ground := Go.Ground.data }, { on := 10, ground := Go.Ground.chain }, { on := 10, ground := Go.Ground.guard }], guard := some (10, false) },
      { dst := some 78, op := Go.Op.move (Go.Operand.tmp 10), type := 22, pos := "law.go:98", after := #[{ on := 14, ground := Go.Ground.guard }], guard := some (14, true) },
      { dst := some 79, op := Go.Op.move (Go.Operand.tmp 12), type := 3, pos := "law.go:98", after := #[{ on := 14, ground := Go.Ground.guard }], guard := some (14, true) },
      { dst := some 80, op := Go.Op.indexAddr 22 (Go.Operand.tmp 78) (Go.Operand.tmp 79), type := 0, pos := "law.go:98", after := #[{ on := 15, ground := Go.Ground.data }, { on := 16, ground := Go.Ground.data }, { on := 14, ground := Go.Ground.guard }], guard := some (14, true) },
      { dst := some 81, op := Go.Op.load 24 (Go.Operand.tmp 80), type := 24, pos := "law.go:98", after := #[{ on := 17, ground := Go.Ground.data }, { on := 14, ground := Go.Ground.guard }], guard := some (14, true) },
      { dst := some 82, op := Go.Op.move (Go.Operand.tmp 7), type := 22, pos := "law.go:98", after := #[{ on := 14, ground := Go.Ground.guard }], guard := some (14, true) },
      { dst := some 83, op := Go.Op.move (Go.Operand.tmp 12), type := 3, pos := "law.go:98", after := #[{ on := 14, ground := Go.Ground.guard }], guard := some (14, true) },
      { dst := some 84, op := Go.Op.indexAddr 22 (Go.Operand.tmp 82) (Go.Operand.tmp 83), type := 0, pos := "law.go:98", after := #[{ on := 19, ground := Go.Ground.data }, { on := 20, ground := Go.Ground.data }, { on := 14, ground := Go.Ground.guard }], guard := some (14, true) },
      { dst := some 85, op := Go.Op.load 24 (Go.Operand.tmp 84), type := 24, pos := "law.go:98", after := #[{ on := 21, ground := Go.Ground.data }, { on := 14, ground := Go.Ground.guard }], guard := some (14, true) },
      { dst := some 86, op := Go.Op.call { callee := Go.Callee.value (Go.Operand.func 16), args := #[Go.Operand.tmp 81, Go.Operand.tmp 85], argTypes := #[24, 24] }, type := 4, pos := "law.go:98", after := #[{ on := 18, ground := Go.Ground.data }, { on := 22, ground := Go.Ground.data }, { on := 14, ground := Go.Ground.chain }, { on := 14, ground := Go.Ground.guard }], guard := some (14, true) },
      { dst := some 87, op := Go.Op.unOp Go.UnOp.not 4 (Go.Operand.tmp 86), type := 4, pos := "law.go:98", after := #[{ on := 23, ground := Go.Ground.data }, { on := 14, ground := Go.Ground.guard }], guard := some (14, true) },
      { dst := some 88, op := Go.Op.pick (Go.Operand.tmp 77) (Go.Operand.tmp 87) (Go.Operand.const (Go.Value.bool false)), type := 4, pos := "law.go:98", after := #[{ on := 14, ground := Go.Ground.data }, { on := 24, ground := Go.Ground.data }, { on := 10, ground := Go.Ground.guard }], guard := some (10, false) },
      { dst := some 89, op := Go.Op.pick (Go.Operand.tmp 73) (Go.Operand.const (Go.Value.bool true)) (Go.Operand.tmp 88), type := 4, pos := "law.go:98", after := #[{ on := 10, ground := Go.Ground.data }, { on := 25, ground := Go.Ground.data }], guard := none }] true).wp Tryd.prog Q { tmps := #[s0, s1, .int .i64 (S : Int), s3, s4, s5, s6, .slice (some ⟨r1, 0, none⟩) N cp1, .slice (some ⟨r2, 0, none⟩) N cp2, s9, .slice a3 S cp3, s11, .int .i64 (k : Int), s13, s14, s15, s16, s17, s18, s19, s20, s21, s22, s23, s24, s25, s26, s27, s28, s29, s30, s31, s32, s33, s34, s35, s36, s37, s38, s39, s40, s41, s42, s43, s44, s45, s46, s47, s48, s49, s50, s51, s52, s53, s54, s55, s56, s57, s58, s59, s60, s61, s62, s63, s64, s65, s66, s67, s68, s69, s70, s71, s72, s73, s74, s75, s76, s77, s78, s79, s80, s81, s82, s83, s84, s85, s86, s87, s88, s89, s90], defers := ds } W := by
  have hmix : Tryd.prog.follows .mixedOrders = true := by kernel_rfl
  refine (wpIn_wide (n := 9)).1 ?_
  refine wpIn_mono (Q := qS Z1 { tmps := #[s0, s1, .int .i64 (S : Int), s3, s4, s5, s6, .slice (some ⟨r1, 0, none⟩) N cp1, .slice (some ⟨r2, 0, none⟩) N cp2, s9, .slice a3 S cp3, s11, .int .i64 (k : Int), s13, s14, s15, s16, s17, s18, s19, s20, s21, s22, s23, s24, s25, s26, s27, s28, s29, s30, s31, s32, s33, s34, s35, s36, s37, s38, s39, s40, s41, s42, s43, s44, s45, s46, s47, s48, s49, s50, s51, s52, s53, s54, s55, s56, s57, s58, s59, s60, s61, s62, .slice (some ⟨r2, 0, none⟩) N cp2, .int .i64 (k : Int), .pointer (some ⟨r2, k * 3, none⟩), .agg #[.int .i64 tk, .int .i64 tn, .slice b2 tl d2], .slice (some ⟨r1, 0, none⟩) N cp1, .int .i64 (k : Int), .pointer (some ⟨r1, k * 3, none⟩), .agg #[.int .i64 tk, .int .i64 tn, .slice b1 tl d1], .bool true, .bool false, .bool false, .int .i64 (k : Int), .int .i64 (S : Int), .bool false, .bool false, undef, undef, undef, undef, undef, undef, undef, undef, undef, undef, .bool false, .bool false, s90], defers := ds }) ?_ (fun e a w h => by cases e <;> first | exact h.elim | (obtain ⟨rfl, h⟩ := h; exact hQ w h))
  refine HIn.plain (S := fun X : World => X.cell? ⟨r1, k * 3, none⟩ = some (.int .i64 tk) ∧ X.cell? ⟨r1, k * 3 + 1, none⟩ = some (.int .i64 tn) ∧ X.cell? ⟨r1, k * 3 + 2, none⟩ = some (.slice b1 tl d1) ∧ X.cell? ⟨r2, k * 3, none⟩ = some (.int .i64 tk) ∧ X.cell? ⟨r2, k * 3 + 1, none⟩ = some (.int .i64 tn) ∧ X.cell? ⟨r2, k * 3 + 2, none⟩ = some (.slice b2 tl d2)) hmix ?_
  clear hQ
  refine HIn.take (i := 0) (v := .slice (some ⟨r2, 0, none⟩) N cp2) rfl rfl (by kernel_rfl) (by kernel_rfl) (by kernel_rfl) (fun _ _ _ h => h) ⟨fun _ => rfl, Or.inl ⟨by kernel_rfl, fun w hw => by obtain ⟨e0, e1, e2, e3, e4, e5⟩ := hw; first | (go_simp; done) | (go_simp; omega)⟩⟩ hS ?_
  refine HIn.take (i := 1) (v := .int .i64 (k : Int)) rfl rfl (by kernel_rfl) (by kernel_rfl) (by kernel_rfl) (fun _ _ _ h => h) ⟨fun _ => rfl, Or.inl ⟨by kernel_rfl, fun w hw => by obtain ⟨e0, e1, e2, e3, e4, e5⟩ := hw; first | (go_simp; done) | (go_simp; omega)⟩⟩ hS ?_
  refine HIn.take (i := 2) (v := .pointer (some ⟨r2, k * 3, none⟩)) rfl rfl (by kernel_rfl) (by kernel_rfl) (by kernel_rfl) (fun _ _ _ h => h) ⟨fun _ => rfl, Or.inl ⟨by kernel_rfl, fun w hw => by obtain ⟨e0, e1, e2, e3, e4, e5⟩ := hw; first | (go_simp; done) | (go_simp; omega)⟩⟩ hS ?_
  refine HIn.take (i := 3) (v := .agg #[.int .i64 tk, .int .i64 tn, .slice b2 tl d2]) rfl rfl (by kernel_rfl) (by kernel_rfl) (by kernel_rfl) (fun _ _ _ h => h) ⟨fun _ => rfl, Or.inl ⟨by kernel_rfl, fun w hw => by obtain ⟨e0, e1, e2, e3, e4, e5⟩ := hw; first | (go_simp; done) | (go_simp; omega)⟩⟩ hS ?_
  refine HIn.take (i := 4) (v := .slice (some ⟨r1, 0, none⟩) N cp1) rfl rfl (by kernel_rfl) (by kernel_rfl) (by kernel_rfl) (fun _ _ _ h => h) ⟨fun _ => rfl, Or.inl ⟨by kernel_rfl, fun w hw => by obtain ⟨e0, e1, e2, e3, e4, e5⟩ := hw; first | (go_simp; done) | (go_simp; omega)⟩⟩ hS ?_
  refine HIn.take (i := 5) (v := .int .i64 (k : Int)) rfl rfl (by kernel_rfl) (by kernel_rfl) (by kernel_rfl) (fun _ _ _ h => h) ⟨fun _ => rfl, Or.inl ⟨by kernel_rfl, fun w hw => by obtain ⟨e0, e1, e2, e3, e4, e5⟩ := hw; first | (go_simp; done) | (go_simp; omega)⟩⟩ hS ?_
  refine HIn.take (i := 6) (v := .pointer (some ⟨r1, k * 3, none⟩)) rfl rfl (by kernel_rfl) (by kernel_rfl) (by kernel_rfl) (fun _ _ _ h => h) ⟨fun _ => rfl, Or.inl ⟨by kernel_rfl, fun w hw => by obtain ⟨e0, e1, e2, e3, e4, e5⟩ := hw; first | (go_simp; done) | (go_simp; omega)⟩⟩ hS ?_
  refine HIn.take (i := 7) (v := .agg #[.int .i64 tk, .int .i64 tn, .slice b1 tl d1]) rfl rfl (by kernel_rfl) (by kernel_rfl) (by kernel_rfl) (fun _ _ _ h => h) ⟨fun _ => rfl, Or.inl ⟨by kernel_rfl, fun w hw => by obtain ⟨e0, e1, e2, e3, e4, e5⟩ := hw; first | (go_simp; done) | (go_simp; omega)⟩⟩ hS ?_
  refine HIn.one (i := 8) rfl (by kernel_rfl) (fun K hK => ?_)
  go_simp
  refine ⟨trivial, (callsIn_wide.2 hc1).mono ?_⟩
  rintro e W1 ⟨rfl, hS1, z1⟩
  refine hK _ _ hS1 ?_
  clear hK K
  refine HIn.take (i := 9) (v := .bool false) rfl rfl (by kernel_rfl) (by kernel_rfl) (by kernel_rfl) (fun _ _ _ h => h) ⟨fun _ => rfl, Or.inl ⟨by kernel_rfl, fun w hw => by obtain ⟨e0, e1, e2, e3, e4, e5⟩ := hw; first | (go_simp; done) | (go_simp; omega)⟩⟩ hS1 ?_
  refine HIn.take (i := 10) (v := .bool false) rfl rfl (by kernel_rfl) (by kernel_rfl) (by kernel_rfl) (fun _ _ _ h => h) ⟨fun _ => rfl, Or.inl ⟨by kernel_rfl, fun w hw => by obtain ⟨e0, e1, e2, e3, e4, e5⟩ := hw; first | (go_simp; done) | (go_simp; omega)⟩⟩ hS1 ?_
  refine HIn.take (i := 11) (v := .int .i64 (k : Int)) rfl rfl (by kernel_rfl) (by kernel_rfl) (by kernel_rfl) (fun _ _ _ h => h) ⟨fun _ => rfl, Or.inl ⟨by kernel_rfl, fun w hw => by obtain ⟨e0, e1, e2, e3, e4, e5⟩ := hw; first | (go_simp; done) | (go_simp; omega)⟩⟩ hS1 ?_
  refine HIn.take (i := 12) (v := .int .i64 (S : Int)) rfl rfl (by kernel_rfl) (by kernel_rfl) (by kernel_rfl) (fun _ _ _ h => h) ⟨fun _ => rfl, Or.inl ⟨by kernel_rfl, fun w hw => by obtain ⟨e0, e1, e2, e3, e4, e5⟩ := hw; first | (go_simp; done) | (go_simp; omega)⟩⟩ hS1 ?_
  refine HIn.take (i := 13) (v := .bool false) rfl rfl (by kernel_rfl) (by kernel_rfl) (by kernel_rfl) (fun _ _ _ h => h) ⟨fun _ => rfl, Or.inl ⟨by kernel_rfl, fun w hw => by obtain ⟨e0, e1, e2, e3, e4, e5⟩ := hw; first | (go_simp; done) | (go_simp; omega)⟩⟩ hS1 ?_
  refine HIn.take (i := 14) (v := .bool false) rfl rfl (by kernel_rfl) (by kernel_rfl) (by kernel_rfl) (fun _ _ _ h => h) ⟨fun _ => rfl, Or.inl ⟨by kernel_rfl, fun w hw => by obtain ⟨e0, e1, e2, e3, e4, e5⟩ := hw; first | (go_simp; done) | (go_simp; omega)⟩⟩ hS1 ?_
  refine HIn.take (i := 15) (v := undef) rfl rfl (by kernel_rfl) (by kernel_rfl) (by kernel_rfl) (fun _ _ _ h => h) ⟨fun _ => rfl, Or.inr ⟨by kernel_rfl, rfl⟩⟩ hS1 ?_
  refine HIn.take (i := 16) (v := undef) rfl rfl (by kernel_rfl) (by kernel_rfl) (by kernel_rfl) (fun _ _ _ h => h) ⟨fun _ => rfl, Or.inr ⟨by kernel_rfl, rfl⟩⟩ hS1 ?_
  refine HIn.take (i := 17) (v := undef) rfl rfl (by kernel_rfl) (by kernel_rfl) (by kernel_rfl) (fun _ _ _ h => h) ⟨fun _ => rfl, Or.inr ⟨by kernel_rfl, rfl⟩⟩ hS1 ?_
  refine HIn.take (i := 18) (v := undef) rfl rfl (by kernel_rfl) (by kernel_rfl) (by kernel_rfl) (fun _ _ _ h => h) ⟨fun _ => rfl, Or.inr ⟨by kernel_rfl, rfl⟩⟩ hS1 ?_
  refine HIn.take (i := 19) (v := undef) rfl rfl (by kernel_rfl) (by kernel_rfl) (by kernel_rfl) (fun _ _ _ h => h) ⟨fun _ => rfl, Or.inr ⟨by kernel_rfl, rfl⟩⟩ hS1 ?_
  refine HIn.take (i := 20) (v := undef) rfl rfl (by kernel_rfl) (by kernel_rfl) (by kernel_rfl) (fun _ _ _ h => h) ⟨fun _ => rfl, Or.inr ⟨by kernel_rfl, rfl⟩⟩ hS1 ?_
  refine HIn.take (i := 21) (v := undef) rfl rfl (by kernel_rfl) (by kernel_rfl) (by kernel_rfl) (fun _ _ _ h => h) ⟨fun _ => rfl, Or.inr ⟨by kernel_rfl, rfl⟩⟩ hS1 ?_
  refine HIn.take (i := 22) (v := undef) rfl rfl (by kernel_rfl) (by kernel_rfl) (by kernel_rfl) (fun _ _ _ h => h) ⟨fun _ => rfl, Or.inr ⟨by kernel_rfl, rfl⟩⟩ hS1 ?_
  refine HIn.pass (i := 23) rfl (by kernel_rfl) (by kernel_rfl) (fun _ => trivial) hS1 ?_
  refine HIn.take (i := 24) (v := undef) rfl rfl (by kernel_rfl) (by kernel_rfl) (by kernel_rfl) (fun _ _ _ h => h) ⟨fun _ => rfl, Or.inr ⟨by kernel_rfl, rfl⟩⟩ hS1 ?_
  refine HIn.take (i := 25) (v := .bool false) rfl rfl (by kernel_rfl) (by kernel_rfl) (by kernel_rfl) (fun _ _ _ h => h) ⟨fun _ => rfl, Or.inl ⟨by kernel_rfl, fun w hw => by obtain ⟨e0, e1, e2, e3, e4, e5⟩ := hw; first | (go_simp; done) | (go_simp; omega)⟩⟩ hS1 ?_
  refine HIn.take (i := 26) (v := .bool false) rfl rfl (by kernel_rfl) (by kernel_rfl) (by kernel_rfl) (fun _ _ _ h => h) ⟨fun _ => rfl, Or.inl ⟨by kernel_rfl, fun w hw => by obtain ⟨e0, e1, e2, e3, e4, e5⟩ := hw; first | (go_simp; done) | (go_simp; omega)⟩⟩ hS1 ?_
  refine HIn.done (by kernel_rfl) ?_ _
  exact ⟨by kernel_rfl, z1⟩
end Go.Proofs.YtoaccmblaifnmaaDoor
