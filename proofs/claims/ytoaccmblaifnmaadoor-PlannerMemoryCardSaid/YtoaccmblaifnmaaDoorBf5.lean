/-
  What PlannerLists and its fellows rest on, joined: Vg6 Vt12 Vq14 PgD.
-/
import Derived.Test.YtoaccmblaifnmaaDoorCards
import Derived.ProofKit
import Derived.LaidMore
import Derived.OpenShut
import Derived.SizedLaws
import Derived.Stop.Joined
import Derived.WalkKit
import Ieee.Arith
import Derived.WalkLawsBesides
import Derived.Test.YtoaccmblaifnmaaDoorProg
import Derived.Deep.DeepCutAuto
import Derived.Deep.QuietTactic
import Derived.Deep.Slices
import Derived.Outline
import Derived.BigQuiet
import Derived.WalkSmall
import Derived.RegionTactic
import Derived.Lib.Mul64
import Derived.Laws.Bits64b
import Derived.Deep.CutBlock
import Derived.Maps.AppendAt
import Derived.Deep.RegionHeld3
import Derived.Deep.RegionWith
import Derived.Laws.OwnMore
import Derived.RangeFuncNested
import Derived.RangeFuncBound
import Derived.RangeFuncCalls
import Derived.RangeFuncLeaves
import Derived.RangeFuncBox
import Derived.Shelf.Abstract
import Derived.Shelf.RegionOpen
import Derived.OwnWalkIn
import Derived.TacticsInMore
import Derived.LoopNIn
import Derived.LoopIn
import Derived.Laws.Rows
import Derived.Lib.ItoaNum
import Derived.Laws.IdiomStrings
import Derived.Lib.SmallJoins
import Derived.Lib.HexFns
import Derived.Test.YtoaccmblaifnmaaDoorRows
import Derived.LaidEql
import Derived.LaidLaws
import Derived.LaidHandle
import Derived.Recover
import Derived.RegionDies
import Derived.Laws.CopyOwn
import Derived.Lib.AppendIntMem
import Derived.Laws.AppendOwn
import Derived.OwnWalk
import Derived.BigCall
import Derived.Deep.RegionHeldLaw
import Derived.Laws.FloatArith
import Derived.Laws.ComplexArith
import Derived.Laws.MakeOwn
import Derived.MapKept
import Derived.Carry
import Derived.Lib.LaidTab
import Derived.LaidSub
import Derived.Test.YtoaccmblaifnmaaDoorBa4
import Derived.Test.YtoaccmblaifnmaaDoorBc1
import Derived.Test.YtoaccmblaifnmaaDoorBe3
import Derived.Test.YtoaccmblaifnmaaDoorBa8
namespace Go.Proofs.YtoaccmblaifnmaaDoor
open Go.ChangeShapes Go.WideShapes Go.ChangeAt Go.RowKit
theorem laidOut : laidOutB Tryd.prog = true := by kernel_rfl
theorem ownK : ownKnob Tryd.prog.godebug = none := by kernel_rfl
theorem spotN {w : World} {a : Addr} {v : Value} (h : w.cell? a = some v) : a.spot = none := by
  unfold World.cell? at h
  split at h
  · split at h
    · cases h
    · rename_i hs; simpa using hs
  · cases h
end Go.Proofs.YtoaccmblaifnmaaDoor
namespace Go.Proofs.YtoaccmblaifnmaaDoor
open Go.ChangeShapes Go.WideShapes Go.ChangeAt Go.RowKit Go.Deep Tr
theorem addr_add12 (b off i : Nat) : (⟨b, off, none⟩ : Addr).add i = ⟨b, off + i, none⟩ := by
  unfold Addr.add
  by_cases h : i = 0
  · subst h; simp
  · simp [h]
end Go.Proofs.YtoaccmblaifnmaaDoor
namespace Go.Proofs.YtoaccmblaifnmaaDoor
open Go.ChangeShapes Go.WideShapes Go.ChangeAt Go.RowKit Go.Deep Tr
theorem cellsI14 : Tryd.prog.cellsOf 3 = 1 := by kernel_rfl
theorem bytesI14 : Tryd.prog.bytesOf 3 = 8 := by kernel_rfl
theorem cellsQ14 : Tryd.prog.cellsOf 45 = 3 := by kernel_rfl
theorem sized_arg14 {H : Type} {ts : List TypeId} {ds : List (DataW H)} (h : (DataW.weightsEach Tryd.prog ts ds).all (· ≤ reachBytes) = true) {j : Nat} {t : TypeId} {d : DataW H} (ht : ts[j]? = some t) (hd : ds[j]? = some d) : ∀ n ∈ d.weights Tryd.prog t, n ≤ reachBytes := fun n hn => by
  have := List.all_eq_true.1 h _ (DataW.weights_mem_each ht hd n hn)
  simpa using this
set_option maxRecDepth 100000 in
theorem viewIl {H : Type} {enc : TypeId × Value → H} {W : World} {fuel : Nat} {x : Value} {d : DataW H} {p : List MemPlace}
    (hf : DataW.trod enc Tryd.prog W 0 (fun _ => true) true fuel 43 [x] = some (d, p)) (hw : ∀ el sp, d = .slice el sp → (el.length + sp.length) * 8 ≤ 140737488351232) :
    ∃ F : List Int, FlR (fun _ => True) W x F ∧ F.length * 8 ≤ 140737488355328 := by
  rcases open_slice Tryd.underlying43 hf with ⟨hcs, hx⟩ | ⟨a, len, cap, m, q, D, Pl, hcs, _, hl, hm, hmm, hx, hel⟩
  · cases hcs
    exact ⟨[], ⟨none, 0, rfl, fun i hi => absurd hi (Nat.not_lt_zero _)⟩, by simp⟩
  · cases hcs
    simp only [Prod.mk.injEq] at hx
    obtain ⟨rfl, rfl⟩ := hx
    simp only [if_true] at hmm
    obtain ⟨T, hT⟩ := choose_lt (α := Int) (n := len) (p := fun i z => W.cells? 0 (a.add (i * 1)) 1 = some [.int .i64 z]) (fun i hi => by
      obtain ⟨cs', h1, h2⟩ := hel i (by omega)
      rw [cellsI14] at h1
      obtain ⟨_, h3, _⟩ := World.cells?_some h1
      match cs', h3 with
      | [x0], _ =>
        obtain ⟨k0, e0, _, _⟩ := DataW.trod_int Tryd.underlying3 h2
        cases e0
        exact ⟨k0, h1⟩)
    have hln : ((List.range len).map T).length = len := by simp
    refine ⟨(List.range len).map T, ⟨some a, cap, by rw [hln], fun i hi => ?_⟩, ?_⟩
    · rw [hln] at hi
      have hs : ((List.range len).map T).getD i 0 = T i := by
        rw [List.getD_eq_getElem?_getD, List.getElem?_map, List.getElem?_range hi]; rfl
      obtain ⟨b, off, sp⟩ := a
      obtain rfl : sp = none := by
        obtain ⟨_, _, g4⟩ := World.cells?_some (hT 0 (by omega))
        have g5 := g4 0 (by decide)
        have := spotN g5
        simpa [Addr.add] using this
      obtain ⟨_, _, g4⟩ := World.cells?_some (hT i hi)
      have g5 := g4 0 (by decide)
      rw [addr_add12, addr_add12, Nat.mul_one, Nat.add_zero] at g5
      refine ⟨b, off, rfl, trivial, World.block_lt_of_cell? W _ g5, ?_⟩
      rw [hs]; exact g5
    · have := hw _ _ rfl
      simp only [List.length_map, List.length_range] at this
      rw [hln]
      omega
theorem w_sliceI {H : Type} {d : DataW H} (hw : ∀ n ∈ d.weights Tryd.prog 43, n ≤ reachBytes) : ∀ el sp, d = .slice el sp → (el.length + sp.length) * 8 ≤ 140737488351232 := fun el sp e => by
  subst e
  have := hw _ (by rw [DataW.weights, Tryd.underlying43]; exact List.mem_cons_self)
  rw [bytesI14] at this
  simpa only [reachBytes] using this
set_option maxRecDepth 100000 in
theorem viewQ {H : Type} {enc : TypeId × Value → H} {W : World} {base : Nat} {v : Value} {d : DataW H} {p : List MemPlace} (hv : Value.okWide Tryd.prog W .any base 45 v) (h : DataW.Trod enc Tryd.prog W 0 (fun _ => true) true 45 v d p) (hw : ∀ n ∈ d.weights Tryd.prog 45, n ≤ reachBytes) :
    ∃ (D q : Int) (F : List Int) (fv : Value), v = .agg #[.int .i64 D, fv, .int .i64 q] ∧ FlR (fun _ => True) W fv F ∧ F.length * 8 ≤ 140737488355328 := by
  obtain ⟨cs, rfl, _⟩ := okWide_struct Tryd.underlying45 hv
  obtain ⟨fuel, hf⟩ := h
  obtain ⟨xs, n', _, hd, hcl, hxl, hfs⟩ := DataW.trod_struct Tryd.underlying45 hf
  have hxl' : xs.length = 3 := hxl
  rw [cellsQ14] at hcl
  obtain ⟨l⟩ := cs
  have hcl' : l.length = 3 := by simpa [Value.cells] using hcl
  match l, hcl', xs, hxl' with
  | [x0, x1, x2], _, [y0, y1, y2], _ =>
    have f0 : DataW.trod enc Tryd.prog W 0 (fun _ => true) true n' 3 [x0] = some y0 := hfs 0 _ rfl
    have f1 : DataW.trod enc Tryd.prog W 0 (fun _ => true) true n' 43 [x1] = some y1 := hfs 1 _ rfl
    have f2 : DataW.trod enc Tryd.prog W 0 (fun _ => true) true n' 3 [x2] = some y2 := hfs 2 _ rfl
    obtain ⟨k0, e0, _, _⟩ := DataW.trod_int Tryd.underlying3 f0
    obtain ⟨k2, e2, _, _⟩ := DataW.trod_int Tryd.underlying3 f2
    cases e0; cases e2
    obtain ⟨d1, p1⟩ := y1
    have hd1 : d = .agg [y0.1, d1, y2.1] := (Prod.mk.inj hd).1
    obtain ⟨F, hF, hb⟩ := viewIl f1 (w_sliceI (d := d1) (fun n hn => hw n (by
      rw [hd1, DataW.weights, Tryd.underlying45]
      exact DataW.weights_mem_each (j := 1) (t := 43) (d := d1) rfl rfl n hn)))
    exact ⟨k0, k2, F, x1, rfl, hF, hb⟩
end Go.Proofs.YtoaccmblaifnmaaDoor
namespace Go.Proofs.YtoaccmblaifnmaaDoor
open Go.RowKit
def e14Names : List (String × List UInt8) := [("timbre/api.ErrLimit", [116, 105, 109, 98, 114, 101, 58, 32, 108, 105, 109, 105, 116]), ("timbre/api.ErrRange", [116, 105, 109, 98, 114, 101, 58, 32, 114, 97, 110, 103, 101]), ("timbre/api.ErrLength", [116, 105, 109, 98, 114, 101, 58, 32, 108, 101, 110, 103, 116, 104]), ("timbre/api.ErrOrder", [116, 105, 109, 98, 114, 101, 58, 32, 111, 114, 100, 101, 114])]
theorem e14row {W : World} {l : List (String × DataW Unit)} (h : laidMetH Tryd.prog l W) (he : l = e14Names.map fun x => (x.1, errD x.2)) : ∃ aR aN aL aO, E14 W aR aN aL aO := by
  rw [he, MakeChecks.laidMetH_plain _ _ _ (by kernel_rfl)] at h
  obtain ⟨ps, hv, hnd, hr⟩ := h
  obtain ⟨al, h1, h2, h3⟩ := sents e14Names [1, 2, 4, 0] ps (by kernel_rfl) (by decide +kernel) hv hr
  match al, h1, h2, h3 with
  | [l, r, n, o], h1, _, _ => exact ⟨r, n, l, o, h1.2.1, h1.2.2.1, h1.1, h1.2.2.2.1⟩
end Go.Proofs.YtoaccmblaifnmaaDoor
