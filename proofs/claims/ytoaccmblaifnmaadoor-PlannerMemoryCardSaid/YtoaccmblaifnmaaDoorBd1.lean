/-
  Package planner's onlyCheapest$1, an iterator.
-/
import Derived.Test.YtoaccmblaifnmaaDoorProg
import Derived.WalkKit
import Ieee.Arith
import Derived.WalkLawsBesides
import Derived.Outline
import Derived.Deep.QuietTactic
import Derived.BigQuiet
import Derived.WalkSmall
import Derived.RegionTactic
import Derived.Lib.Mul64
import Derived.Laws.Bits64b
import Derived.Deep.CutBlock
import Derived.Deep.DeepCutAuto
import Derived.Maps.AppendAt
import Derived.Deep.RegionHeld3
import Derived.Deep.RegionWith
import Derived.Laws.OwnMore
import Derived.RangeFuncNested
import Derived.RangeFuncBound
import Derived.RangeFuncCalls
import Derived.RangeFuncLeaves
import Derived.RangeFuncBox
import Derived.Shelf.Abstract
import Derived.Shelf.RegionOpen
import Derived.OwnWalkIn
import Derived.TacticsInMore
import Derived.LoopNIn
import Derived.LoopIn
import Derived.Laws.Rows
import Derived.Lib.ItoaNum
import Derived.Laws.IdiomStrings
import Derived.Lib.SmallJoins
import Derived.Lib.HexFns
import Derived.Test.YtoaccmblaifnmaaDoorRows
import Derived.LaidEql
import Derived.LaidLaws
import Derived.LaidHandle
import Derived.Stop.Joined
import Derived.Recover
import Derived.RegionDies
import Derived.Laws.CopyOwn
import Derived.Lib.AppendIntMem
import Derived.Laws.AppendOwn
import Derived.OwnWalk
import Derived.BigCall
import Derived.Deep.RegionHeldLaw
import Derived.Laws.FloatArith
import Derived.Laws.ComplexArith
import Derived.Laws.MakeOwn
import Derived.MapKept
import Derived.Carry
import Derived.Test.YtoaccmblaifnmaaDoorBc9
namespace Go.Proofs.YtoaccmblaifnmaaDoor
open Flo Go.RowKit Go.Shelf Tr
attribute [local go_sem] Oper.semAt_some
set_option maxRecDepth 100000 in
set_option maxHeartbeats 4000000 in
theorem only_seq {D p : Int} {F : List Int} {h M : Nat} {fv : Value} {Kn : Nat → Prop} {q : Nat} (hch : CHC D p F h M fv Kn q) (B : Nat) :
    SeqU Tryd.prog 97 (cL B) (cC B h q) toldO [Pl.ch D F p q] False (Srh D p F h M fv Kn) (fun b => b = M) := by
  intro m l J Jx W U V hSr hC hCV bV bU hap hJ hJx hY h0
  have yl : Hid (Yld Tryd.prog l False [Pl.ch D F p q] J Jx) := hY
  have c1 : W.cell? ⟨B, 0, none⟩ = some (.pointer (some ⟨h, 0, none⟩)) := by rw [Joins.cell_of_block (hC (B, .cells #[.pointer (some ⟨h, 0, none⟩)] 74 (0, 0)) (by simp [cC]))]; rfl
  have c2 : W.cell? ⟨B + 1, 0, none⟩ = some (.int .i64 (q : Int)) := by rw [Joins.cell_of_block (hC (B + 1, .cells #[.int .i64 (q : Int)] 3 (0, 0)) (by simp [cC]))]; rfl
  have hcl : Hid (Calls Tryd.prog 47 #[.pointer (some ⟨h, 0, none⟩), .int .i64 (q : Int)] W fun e W' => ∃ v V', e = .returned v ∧ Srh D p F h M fv Kn V' W' ∧ (∀ b, V b → V' b) ∧ (∀ b, V' b → V b ∨ W.heap.size ≤ b) ∧ Bd V' W' ∧ Os V' W' (Pl.ch D F p q) v ∧ KT (fun b => b = M) W W') := hch V W hSr bV
  have hfin : Hid (∀ (V' : Nat → Prop) (W1 : World), (∀ b, V b → V' b) → (∀ b, V' b → V b ∨ W.heap.size ≤ b) → Bd V' W1 → KT (fun b => b = M) W W1 → J [] U W1 ∧ Bd U W1 ∧ Ap V' U ∧ ∀ b, V b → b ≠ M → W1.heap[b]? = W.heap[b]?) := fun V' W1 k1 k2 k3 k4 =>
    ⟨hJ _ _ _ _ _ h0 k4 (fun b hb hu => by subst hb; exact hap _ hSr.vM hu), bU.kt k4, fun b hv hu => by rcases k2 b hv with k | k; exact hap b k hu; have := bU b hu; omega, fun b hb hm => k4.block b (bV b hb) hm⟩
  clear hSr hC hCV bV bU hap hJ hJx hY h0 hch
  unfold cL
  refine callsIn_of_wp Tryd.func97 rfl trivial ?_ rfl
  simp only [Tryd.ntmps97, List.size_toArray, List.length_cons, List.length_nil, Nat.reduceAdd, Nat.reduceSub, Array.replicate_succ, Array.replicate_zero, List.push_toArray, List.append_toArray, List.nil_append, List.cons_append]
  gi_wp2_with fail
  refine ⟨trivial, (fun h => by cases h), (callsIn_wide.2 hcl.out).mono ?_⟩
  rintro e W1 ⟨v, V', rfl, k1, k2, k3, k4, k5, k6⟩
  obtain ⟨j1, j2, j3, j4⟩ := hfin.out V' W1 k2 k3 k4 k6
  obtain ⟨fn, tmps, assign, body, hy, hR⟩ := yl.out (m - 1) [] (Pl.ch D F p q) v U V' W1 j1 k5 k4 j2 j3 (by simp)
  have kH : Hid (Srh D p F h M fv Kn V' W1 ∧ (∀ b, V b → V' b) ∧ (∀ b, V' b → V b ∨ W.heap.size ≤ b) ∧ Bd V' W1 ∧ Ap V' U ∧ (∀ b, V b → b ≠ M → W1.heap[b]? = W.heap[b]?)) := ⟨k1, k2, k3, k4, j3, j4⟩
  clear k1 k2 k3 k4 k5 k6 j1 j2 j3 j4 hfin hcl c1 c2
  gi_wp2
  refine ⟨fun h => (by cases h), hR.mono ?_⟩
  rintro e W3 ⟨U1, r, hr⟩
  have hend : Hid (∃ U' V'', Srh D p F h M fv Kn V'' W3 ∧ (∀ b, V b → ¬ b = M → W3.heap[b]? = W.heap[b]?) ∧ (∀ b, V b → V'' b) ∧ (∀ b, V'' b → V b ∨ W.heap.size ≤ b) ∧ Bd V'' W3 ∧ Bd U' W3 ∧ Ap V'' U' ∧ (J [Pl.ch D F p q] U' W3 ∨ ∃ pre, pre <+: [Pl.ch D F p q] ∧ Jx pre U' W3)) := by
    obtain ⟨k1, k2, k3, k4, j3, j4⟩ := kH.out
    have hT : Ap (fun b => U b ∨ (False ∧ V' b)) V' := fun b hb hv => by
      rcases hb with hb | ⟨hb, _⟩
      · exact j3 b hv hb
      · exact hb
    refine ⟨U1, V', k1.kt r.kt hT, fun b hb hm => (r.kt.block b (k4 b (k2 b hb)) fun ht => hT b ht (k2 b hb)).trans (j4 b hb hm), k2, k3, k4.kt r.kt, r.bd, r.apart j3 (fun h => h.elim) k4, ?_⟩
    rcases hr with ⟨_, hj⟩ | ⟨_, hj⟩
    · exact .inl hj
    · exact .inr ⟨_, by simp, hj⟩
  have he : Hid (∃ b : Bool, e = .returned (.bool b)) := by
    rcases hr with ⟨rfl, _⟩ | ⟨rfl, _⟩
    · exact ⟨true, rfl⟩
    · exact ⟨false, rfl⟩
  clear r hr kH hR hy
  obtain ⟨b, rfl⟩ := he.out
  clear he
  gi_wp2
  go_end0
  exact ⟨⟨_, rfl⟩, hend.out⟩
theorem only_sec {D p : Int} {F : List Int} {h M : Nat} {fv : Value} {Kn : Nat → Prop} {q : Nat} (hch : CHC D p F h M fv Kn q) :
    SEC D p F h M fv Kn 71 (fun m => [Pl.ch D F p m]) q := by
  intro V W hSr bV
  refine (onlyCheapest_c h q W).mono ?_
  rintro e W2 ⟨rfl, hfx, hb⟩
  refine ⟨_, _, cC W.heap.size h q, rfl, hfx, hb, fun r hr => ?_, (fun args w => by kernel_rfl), only_seq hch _⟩
  simp only [cC, List.mem_cons, List.not_mem_nil, or_false] at hr
  rcases hr with rfl | rfl
  · exact Nat.le_refl _
  · exact Nat.le_succ _
end Go.Proofs.YtoaccmblaifnmaaDoor
