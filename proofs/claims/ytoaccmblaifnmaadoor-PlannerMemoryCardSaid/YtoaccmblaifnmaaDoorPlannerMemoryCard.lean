/-
  PlannerMemory answers true for every length and every policy whose butterflies fit into the memory that a call may be handed: a policy that is handed in stays as it is and is not kept; orders are new memory each time; the iterator of All tells the same orders behind all that, twice.
-/
import Derived.Test.YtoaccmblaifnmaaDoorCards
import Derived.Test.YtoaccmblaifnmaaDoorTie
import Derived.Test.YtoaccmblaifnmaaDoorProg
import Derived.WalkKit
import Ieee.Arith
import Derived.WalkLawsBesides
import Derived.Outline
import Derived.Deep.QuietTactic
import Derived.BigQuiet
import Derived.WalkSmall
import Derived.RegionTactic
import Derived.Lib.Mul64
import Derived.Laws.Bits64b
import Derived.Deep.CutBlock
import Derived.Deep.DeepCutAuto
import Derived.Maps.AppendAt
import Derived.Deep.RegionHeld3
import Derived.Deep.RegionWith
import Derived.Laws.OwnMore
import Derived.RangeFuncNested
import Derived.RangeFuncBound
import Derived.RangeFuncCalls
import Derived.RangeFuncLeaves
import Derived.RangeFuncBox
import Derived.Shelf.Abstract
import Derived.Shelf.RegionOpen
import Derived.OwnWalkIn
import Derived.TacticsInMore
import Derived.LoopNIn
import Derived.LoopIn
import Derived.Laws.Rows
import Derived.Lib.ItoaNum
import Derived.Laws.IdiomStrings
import Derived.Lib.SmallJoins
import Derived.Lib.HexFns
import Derived.Test.YtoaccmblaifnmaaDoorRows
import Derived.LaidEql
import Derived.LaidLaws
import Derived.LaidHandle
import Derived.Stop.Joined
import Derived.Recover
import Derived.RegionDies
import Derived.Laws.CopyOwn
import Derived.Lib.AppendIntMem
import Derived.Laws.AppendOwn
import Derived.OwnWalk
import Derived.BigCall
import Derived.Deep.RegionHeldLaw
import Derived.Laws.FloatArith
import Derived.Laws.ComplexArith
import Derived.Laws.MakeOwn
import Derived.MapKept
import Derived.Carry
import Derived.ProofKit
import Derived.LaidMore
import Derived.OpenShut
import Derived.SizedLaws
import Derived.Deep.Slices
import Derived.ChangeAlike
import Derived.Deep.RegionLaw
import Derived.Defers
import Derived.Deep.AppendSrc
import Derived.Lib.LaidTab
import Derived.LaidSub
import Derived.Laws.AppendOwnNone
import Derived.Lay
import Derived.Test.YtoaccmblaifnmaaDoorBa1
import Derived.Test.YtoaccmblaifnmaaDoorBa2
import Derived.Test.YtoaccmblaifnmaaDoorBa3
import Derived.Test.YtoaccmblaifnmaaDoorBa4
import Derived.Test.YtoaccmblaifnmaaDoorBa5
import Derived.Test.YtoaccmblaifnmaaDoorBa6
import Derived.Test.YtoaccmblaifnmaaDoorBa7
import Derived.Test.YtoaccmblaifnmaaDoorBa8
import Derived.Test.YtoaccmblaifnmaaDoorBa9
import Derived.Test.YtoaccmblaifnmaaDoorBb1
import Derived.Test.YtoaccmblaifnmaaDoorBb2
import Derived.Test.YtoaccmblaifnmaaDoorBb3
import Derived.Test.YtoaccmblaifnmaaDoorBb4
import Derived.Test.YtoaccmblaifnmaaDoorBb5
import Derived.Test.YtoaccmblaifnmaaDoorBb6
import Derived.Test.YtoaccmblaifnmaaDoorBb7
import Derived.Test.YtoaccmblaifnmaaDoorBb8
import Derived.Test.YtoaccmblaifnmaaDoorBb9
import Derived.Test.YtoaccmblaifnmaaDoorBc1
import Derived.Test.YtoaccmblaifnmaaDoorBc2
import Derived.Test.YtoaccmblaifnmaaDoorBc3
import Derived.Test.YtoaccmblaifnmaaDoorBc4
import Derived.Test.YtoaccmblaifnmaaDoorBc5
import Derived.Test.YtoaccmblaifnmaaDoorBc6
import Derived.Test.YtoaccmblaifnmaaDoorBc7
import Derived.Test.YtoaccmblaifnmaaDoorBc8
import Derived.Test.YtoaccmblaifnmaaDoorBc9
import Derived.Test.YtoaccmblaifnmaaDoorBd1
import Derived.Test.YtoaccmblaifnmaaDoorBd2
import Derived.Test.YtoaccmblaifnmaaDoorBd3
import Derived.Test.YtoaccmblaifnmaaDoorBd4
import Derived.Test.YtoaccmblaifnmaaDoorBd5
import Derived.Test.YtoaccmblaifnmaaDoorBd6
import Derived.Test.YtoaccmblaifnmaaDoorBd7
import Derived.Test.YtoaccmblaifnmaaDoorBd8
import Derived.Test.YtoaccmblaifnmaaDoorBd9
import Derived.Test.YtoaccmblaifnmaaDoorBe1
import Derived.Test.YtoaccmblaifnmaaDoorBe2
import Derived.Test.YtoaccmblaifnmaaDoorBe3
import Derived.Test.YtoaccmblaifnmaaDoorBe4
import Derived.Test.YtoaccmblaifnmaaDoorBe5
import Derived.Test.YtoaccmblaifnmaaDoorBe6
import Derived.Test.YtoaccmblaifnmaaDoorBe7
import Derived.Test.YtoaccmblaifnmaaDoorBe8
import Derived.Test.YtoaccmblaifnmaaDoorBe9
import Derived.Test.YtoaccmblaifnmaaDoorBf1
import Derived.Test.YtoaccmblaifnmaaDoorBf2
import Derived.Test.YtoaccmblaifnmaaDoorBf5
import Derived.Test.YtoaccmblaifnmaaDoorEa3
import Derived.Test.YtoaccmblaifnmaaDoorEa1
namespace Go.Proofs.YtoaccmblaifnmaaDoor.plannerMemory
open Go.ChangeShapes Go.WideShapes Go.ChangeAt Go.RowKit
theorem door_met (os : Go.Os) (args : Array Value) : laidMetH Tryd.prog Rows.plannerMemoryRow.laid ((World.laidAll Tryd.prog os Rows.plannerMemoryRow.laid).forCall (fun _ _ => 0) ⟨#[], args, []⟩).memory := by
  rw [MakeChecks.laidMetH_plain _ _ _ (by kernel_rfl)]; exact laidMet_laidAll _ (by kernel_rfl) (by kernel_rfl)
set_option maxRecDepth 100000 in
theorem lifted (os : Go.Os) (started : os.Started) (H : Type) (enc : TypeId × Value → H) :
    ReturnsInHanded {} Tryd.checked os 7 .any (fun w args => (Rows.plannerMemorySpec.pre enc Tryd.prog Tryd.f7 [] false w args ∧ laidMetH Tryd.prog Rows.plannerMemoryRow.laid w) ∧ sizedMet enc Tryd.prog Tryd.f7 (OpenSpec.ofChange Rows.plannerMemorySpec) false w args)
      (Rows.plannerMemorySpec.post enc Tryd.prog Tryd.f7 false true false false) := by
  refine returnsInHanded_of_change_and (C := Tryd.checked) (X := fun w _ => laidMetH Tryd.prog Rows.plannerMemoryRow.laid w) (fun _ _ _ hh h => h.of_heap hh) ownK started (by kernel_rfl) Tryd.func7
    (ChangeSpec.witness_shaped (enc := enc) (C := Tryd.checked) (os := os) (X := fun w _ => laidMetH Tryd.prog Rows.plannerMemoryRow.laid w) false (World.laidAll Tryd.prog os Rows.plannerMemoryRow.laid) #[.int .i64 0, .agg #[.int .i64 0, .slice none 0 0, .int .i64 0]] 8 (World.laidAll_os _ _ _) (World.shaped_of_ZipB (by kernel_rfl) (by kernel_rfl)) (by kernel_rfl) (by kernel_rfl) (by kernel_rfl) (door_met os _)) ?_
  intro W base args ds gs before hval0 hW _ hsz0 hL _
  have hval : ∀ (j : Nat) t v, Tryd.f7.params[j]? = some t → args[j]? = some v → Value.okWide Tryd.prog W .any base t v := hval0
  have _hsz : (DataW.weightsEach Tryd.prog (Tryd.f7.params.toList ++ Rows.plannerMemorySpec.plain.varTypes Tryd.prog) (ds ++ gs)).all (· ≤ reachBytes) = true := hsz0
  have hW' := hW
  obtain ⟨p, q, hA0, hV, rfl, hfz, hnd⟩ := hW
  have hA : DataW.TrodAll enc Tryd.prog W 0 (fun _ => true) true Tryd.f7.params.toList args.toList ds p := hA0
  rw [Tryd.params7] at hA hval _hsz
  obtain ⟨v0, vs0, d0, ds0, p0, q0, hargs, rfl, rfl, h0, r0⟩ := trodAll_cons hA
  obtain ⟨v1, vs1, d1, ds1, p1, q1, rfl, rfl, rfl, h1, r1⟩ := trodAll_cons r0
  obtain ⟨rfl, rfl, rfl⟩ := trodAll_nil r1
  obtain rfl : args = #[v0, v1] := by cases args; simp_all
  obtain ⟨rfl, rfl⟩ := trodVars_none hV
  obtain ⟨x0, rfl, rfl, rfl, w0⟩ := open_int Tryd.underlying3 (hval 0 3 v0 rfl rfl) h0
  obtain ⟨D1, q1, F1, fv1, rfl, f1, b1⟩ := viewQ2 (hval 1 45 v1 rfl rfl) h1 (sized_arg14 _hsz (j := 1) (t := 45) rfl rfl)
  obtain ⟨al, hE⟩ := errs_of (W := W) hL
  clear hA0 hval0 hsz0 hL
  refine (plannerMemory.walk x0 D1 q1 F1 fv1 (fun _ => True) al W hE f1 b1).mono fun e W' ⟨he, hg⟩ => ?_
  subst he
  have lt1 : ∀ x ∈ p1, x.block < W.heap.size := fun x hx => by simpa using hW'.lt x (by simp [hx])
  exact ⟨_, rfl, _, _, _, [], _, [], hW', trodAll_cons_mk (shut_bool Tryd.underlying4 _) trodAll_mk0,
    trodAll_cons_mk (shut_int Tryd.underlying3 w0) (trodAll_cons_mk (Below.trod laidOut (by kernel_rfl) (of_decide_eq_true (by kernel_rfl)) h1 hg lt1) (trodAll_mk0)), rfl, hg.frame _, fun h => by cases h⟩
theorem said : Rows.PlannerMemorySaid :=
  OpenClaim.holds_of_wide 7 Tryd.f7 rfl rfl rfl rfl rfl rfl rfl ⟨rfl, rfl, rfl, rfl, rfl⟩ rfl rfl rfl rfl rfl (by kernel_rfl) Tryd.func7 (by kernel_rfl)
    (of_decide_eq_true (by kernel_rfl)) (by unfold Func.isWrapper; first | (rw [if_pos (by decide +kernel)]; kernel_rfl) | (rw [if_neg (by decide +kernel)]; exact ⟨rfl, rfl⟩))
    (fun os started H enc _ => lifted os started H enc)
theorem plain (f : FuncId) (fn : Func) (hf : Tryd.pinned.checked.prog.funcNamed "timbre/timbrelaw14.PlannerMemory" = some f) (hfn : Tryd.pinned.checked.prog.funcs[f]? = some fn) :
    true = Tryd.pinned.checked.prog.looks [] ∧ ∀ (j : Nat) t, fn.params[j]? = some t → Tryd.pinned.checked.prog.wantsStandIn t = false := by
  obtain rfl : f = 7 := Option.some.inj ((show Tryd.prog.funcNamed "timbre/timbrelaw14.PlannerMemory" = some 7 by kernel_rfl).symm.trans hf) |>.symm
  obtain rfl : fn = Tryd.f7 := (Option.some.inj (Tryd.func7.symm.trans hfn)).symm
  refine ⟨by kernel_rfl, fun j t ht => ?_⟩
  rw [Tryd.params7] at ht
  have hm : t ∈ [3, 45] := by simpa using Array.mem_of_getElem? ht
  have hall : ([3, 45].all fun u => !Tryd.prog.wantsStandIn u) = true := by kernel_rfl
  exact (show Tryd.prog.wantsStandIn t = false by simpa using List.all_eq_true.1 hall t hm)
theorem card : Rows.PlannerMemoryCardSaid :=
  Claim7.holds_tied_plain_at .later [] _ _ _ _ said (fun _ h => by cases h) (by kernel_rfl) (fun _ h => by cases h) plannerMemory_row_tie rfl ⟨rfl, rfl⟩ (by kernel_rfl) rfl plain (by kernel_rfl)
end Go.Proofs.YtoaccmblaifnmaaDoor.plannerMemory
namespace Go.Proofs.YtoaccmblaifnmaaDoor
theorem plannerMemory_card : Rows.PlannerMemoryCardSaid := plannerMemory.card
end Go.Proofs.YtoaccmblaifnmaaDoor
