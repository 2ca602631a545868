/-
  Package planner's search: all, and what it hands back.
-/
import Derived.WalkKit
import Ieee.Arith
import Derived.WalkLawsBesides
import Derived.Test.YtoaccmblaifnmaaDoorProg
import Derived.Outline
import Derived.Deep.QuietTactic
import Derived.BigQuiet
import Derived.WalkSmall
import Derived.RegionTactic
import Derived.Lib.Mul64
import Derived.Laws.Bits64b
import Derived.Deep.CutBlock
import Derived.Deep.DeepCutAuto
import Derived.Maps.AppendAt
import Derived.Deep.RegionHeld3
import Derived.Deep.RegionWith
import Derived.Laws.OwnMore
import Derived.RangeFuncNested
import Derived.RangeFuncBound
import Derived.RangeFuncCalls
import Derived.RangeFuncLeaves
import Derived.RangeFuncBox
import Derived.Shelf.Abstract
import Derived.Shelf.RegionOpen
import Derived.OwnWalkIn
import Derived.TacticsInMore
import Derived.LoopNIn
import Derived.LoopIn
import Derived.Laws.Rows
import Derived.Lib.ItoaNum
import Derived.Laws.IdiomStrings
import Derived.Lib.SmallJoins
import Derived.Lib.HexFns
import Derived.Test.YtoaccmblaifnmaaDoorRows
import Derived.LaidEql
import Derived.LaidLaws
import Derived.LaidHandle
import Derived.Stop.Joined
import Derived.Recover
import Derived.RegionDies
import Derived.Laws.CopyOwn
import Derived.Lib.AppendIntMem
import Derived.Laws.AppendOwn
import Derived.OwnWalk
import Derived.BigCall
import Derived.Deep.RegionHeldLaw
import Derived.Laws.FloatArith
import Derived.Laws.ComplexArith
import Derived.Laws.MakeOwn
import Derived.MapKept
import Derived.Carry
import Derived.Test.YtoaccmblaifnmaaDoorBa4
import Derived.Test.YtoaccmblaifnmaaDoorBd3
namespace Go.Proofs.YtoaccmblaifnmaaDoor
open Flo Go.RowKit Go.Shelf Tr
theorem all_c (h n : Nat) (w : World) : Calls Tryd.prog 61 #[.pointer (some ⟨h, 0, none⟩), .int .i64 (n : Int)] w fun e w' => e = .returned (.func (.func 92) #[] (oL w.heap.size)) ∧ Fx (oC w.heap.size h n 61) w' ∧ Below w.heap.size w w' := by
  have ho := orders_c h n 61 w
  go_enter Tryd.func61, Tryd.ntmps61
  go_wp2_with fail
  refine ho.mono ?_
  rintro e w2 ⟨rfl, hfx, hb⟩
  go_wp2_with fail
  go_ret
  exact ⟨rfl, hfx, hb⟩
theorem all_seq {D p : Int} {F : List Int} {h M : Nat} {fv : Value} (gp : Pl.GP D F p) (hF : F.length ≤ 1000) {n : Nat} (hdm : Pl.Dm p n)
    (hs : ∀ q, Pl.Dm p q → Pl.mu p q < Pl.mu p n → SEC D p F h M fv (fun _ => True) 61 (Pl.als D F p) q) (B : Nat) (tk : Prop) :
    SeqU Tryd.prog 92 (oL B) (oC B h n 61) toldO (Pl.als D F p n) tk (Srh D p F h M fv (fun _ => True)) (fun b => b = M) := by
  rw [Pl.als_eq hdm]
  exact orders_seq gp hF hdm (fun args w => by kernel_rfl) hs (fun q d1 _ => Pl.als_pt gp d1) (fun hne => by obtain ⟨d1, _⟩ := Pl.inn_dm gp.p2 hdm.1 hne; exact chc gp hF _ d1) B tk
theorem all_sec {D p : Int} {F : List Int} {h M : Nat} {fv : Value} (gp : Pl.GP D F p) (hF : F.length ≤ 1000) : ∀ (k n : Nat), Pl.Dm p n → Pl.mu p n ≤ k → SEC D p F h M fv (fun _ => True) 61 (Pl.als D F p) n := by
  intro k
  induction k with
  | zero => intro n hd hk; have := Pl.mu_pos hd; omega
  | succ k ih =>
    intro n hd hk V W hSr bV
    refine (all_c h n W).mono ?_
    rintro e W2 ⟨rfl, hfx, hb⟩
    refine ⟨_, _, oC W.heap.size h n 61, rfl, hfx, hb, fun r hr => ?_, (fun args w => by kernel_rfl), all_seq gp hF hd (fun q d1 d2 => ih q d1 (by omega)) _ _⟩
    simp only [oC, List.mem_cons, List.not_mem_nil, or_false] at hr
    rcases hr with rfl | rfl | rfl
    · exact Nat.le_refl _
    · exact Nat.le_succ _
    · simp
/-- the iterator of a search's orders -/
theorem all_it {D p : Int} {F : List Int} {h M : Nat} {fv : Value} (gp : Pl.GP D F p) (hF : F.length ≤ 1000) {n : Nat} (hdm : Pl.Dm p n) (B : Nat) (tk : Prop) :
    SeqU Tryd.prog 92 (oL B) (oC B h n 61) toldO (Pl.als D F p n) tk (Srh D p F h M fv (fun _ => True)) (fun b => b = M) :=
  all_seq gp hF hdm (fun q d1 _ => all_sec gp hF _ q d1 (Nat.le_refl _)) B tk
end Go.Proofs.YtoaccmblaifnmaaDoor
