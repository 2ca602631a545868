/-
  What every card on slices that came in wants.
-/
import Derived.Test.YtoaccmblaifnmaaDoorCards
import Derived.ProofKit
import Derived.LaidMore
import Derived.OpenShut
import Derived.SizedLaws
import Derived.Stop.Joined
import Derived.Test.YtoaccmblaifnmaaDoorAa3
import Derived.Deep.Slices
import Derived.Test.YtoaccmblaifnmaaDoorAb8
namespace Go.Proofs.YtoaccmblaifnmaaDoor
open Go.ChangeShapes Go.WideShapes Go.ChangeAt Go.RowKit
theorem cellsI : Tryd.prog.cellsOf 3 = 1 := by kernel_rfl
theorem bytesI : Tryd.prog.bytesOf 3 = 8 := by kernel_rfl
theorem laidOut : laidOutB Tryd.prog = true := by kernel_rfl
theorem ownK : ownKnob Tryd.prog.godebug = none := by kernel_rfl
theorem spotN {w : World} {a : Addr} {v : Value} (h : w.cell? a = some v) : a.spot = none := by
  unfold World.cell? at h
  split at h
  · split at h
    · cases h
    · rename_i hs; simpa using hs
  · cases h
end Go.Proofs.YtoaccmblaifnmaaDoor
/-
  An argument that is an order, opened.
-/
namespace Go.Proofs.YtoaccmblaifnmaaDoor
open Go.ChangeShapes Go.WideShapes Go.ChangeAt Go.RowKit Go.Deep Tr
theorem cellsO : Tryd.prog.cellsOf 24 = 3 := by kernel_rfl
theorem addr_add12 (b off i : Nat) : (⟨b, off, none⟩ : Addr).add i = ⟨b, off + i, none⟩ := by
  unfold Addr.add
  by_cases h : i = 0
  · subst h; simp
  · simp [h]
theorem bounds12 {n : Int} (h : (Lit.int .i64 n).wf = true) : -9223372036854775808 ≤ n ∧ n ≤ 9223372036854775807 := by
  exact bounds_i64 h
set_option maxRecDepth 100000 in
theorem viewT {H : Type} {enc : TypeId × Value → H} {W : World} : ∀ (M : Nat) (fuel : Nat) (cs : List Value) (d : DataW H) (p : List MemPlace), SizeOf.sizeOf d < M →
    DataW.trod enc Tryd.prog W 0 (fun _ => true) true fuel 24 cs = some (d, p) → ∃ (t : Tr) (s : Value), cs = [.int .i64 t.k, .int .i64 t.n, s] ∧ Od W t (.agg #[.int .i64 t.k, .int .i64 t.n, s]) := by
  intro M
  induction M with
  | zero => intro _ _ _ _ h; omega
  | succ M ih =>
    intro fuel cs d p hM hf
    obtain ⟨xs, n', _, hd, hcl, hxl, hfs⟩ := DataW.trod_struct Tryd.underlying24 hf
    have hxl' : xs.length = 3 := hxl
    rw [cellsO] at hcl
    match cs, hcl, xs, hxl' with
    | [x0, x1, x2], _, [y0, y1, y2], _ =>
      have f0 : DataW.trod enc Tryd.prog W 0 (fun _ => true) true n' 3 [x0] = some y0 := hfs 0 _ rfl
      have f1 : DataW.trod enc Tryd.prog W 0 (fun _ => true) true n' 3 [x1] = some y1 := hfs 1 _ rfl
      have f2 : DataW.trod enc Tryd.prog W 0 (fun _ => true) true n' 22 [x2] = some y2 := hfs 2 _ rfl
      obtain ⟨k, e0, _, w0⟩ := DataW.trod_int Tryd.underlying3 f0
      obtain ⟨n, e1, _, w1⟩ := DataW.trod_int Tryd.underlying3 f1
      cases e0; cases e1
      have hd' : d = .agg [y0.1, y1.1, y2.1] := (Prod.mk.inj hd).1
      have hy2 : SizeOf.sizeOf y2.1 < SizeOf.sizeOf d := by rw [hd']; simp; omega
      obtain ⟨d2, p2⟩ := y2
      rcases open_slice Tryd.underlying22 f2 with ⟨hcs, hx⟩ | ⟨a, len, cap, m, q, D, Pl, hcs, _, hl, hm, hmm, hx, hel⟩
      · cases hcs
        refine ⟨⟨k, n, []⟩, _, rfl, ?_⟩
        rw [od_eq]
        exact ⟨none, 0, rfl, ⟨Nat.zero_le _, bounds12 w0, bounds12 w1⟩, fun i h => absurd h (Nat.not_lt_zero _)⟩
      · cases hcs
        simp only [Prod.mk.injEq] at hx
        obtain ⟨rfl, rfl⟩ := hx
        simp only [if_true] at hmm
        have inh : Inhabited (Tr × Value) := ⟨(⟨0, 0, []⟩, .bool false)⟩
        obtain ⟨T, hT⟩ := choose_lt (α := Tr × Value) (n := len) (p := fun i ts => ∃ cs', W.cells? 0 (a.add (i * 3)) 3 = some cs' ∧ cs' = [.int .i64 ts.1.k, .int .i64 ts.1.n, ts.2] ∧ Od W ts.1 (.agg #[.int .i64 ts.1.k, .int .i64 ts.1.n, ts.2])) (fun i hi => by
          obtain ⟨cs', h1, h2⟩ := hel i (by omega)
          rw [cellsO] at h1
          have hs : SizeOf.sizeOf (D i) < M := by
            have h3 := List.sizeOf_lt_of_mem (List.mem_map_of_mem (f := D) (List.mem_range.2 hi))
            simp at hy2
            omega
          obtain ⟨t, sv, e, ho⟩ := ih q cs' (D i) (Pl i) hs h2
          exact ⟨(t, sv), cs', h1, e, ho⟩)
        have hcell : ∀ i, i < len → ∀ j, j < 3 → W.cell? ((a.add (i * 3)).add j) = [Value.int .i64 (T i).1.k, .int .i64 (T i).1.n, (T i).2][j]? := fun i hi j hj => by
          obtain ⟨cs', h1, e, _⟩ := hT i hi
          obtain ⟨_, _, h4⟩ := World.cells?_some h1
          rw [← e]; exact h4 j hj
        have ln : ((List.range len).map fun i => (T i).1).length = len := by simp
        refine ⟨⟨k, n, (List.range len).map fun i => (T i).1⟩, _, rfl, ?_⟩
        rw [od_eq]
        obtain ⟨b, off, sp⟩ := a
        refine ⟨some ⟨b, off, sp⟩, cap, by rw [ln], ⟨?_, bounds12 w0, bounds12 w1⟩, fun i hi => ?_⟩
        · rw [ln]; unfold maxLen at hm; omega
        · rw [ln] at hi
          have c0 := hcell i hi 0 (by decide)
          obtain rfl : sp = none := by
            have := spotN (hcell 0 (by omega) 0 (by decide))
            simpa [Addr.add] using this
          have c1 := hcell i hi 1 (by decide)
          have c2 := hcell i hi 2 (by decide)
          rw [addr_add12, addr_add12] at c0 c1 c2
          obtain ⟨_, _, _, ho⟩ := hT i hi
          refine ⟨b, off, (T i).2, rfl, World.block_lt_of_cell? W _ c0, ?_⟩
          simp only [List.getElem_map, List.getElem_range]
          exact ⟨c0, c1, c2, ho⟩
set_option maxRecDepth 100000 in
theorem view12 {H : Type} {enc : TypeId × Value → H} {W : World} {base : Nat} {v : Value} {d : DataW H} {p : List MemPlace} (hv : Value.okWide Tryd.prog W .any base 24 v) (h : DataW.Trod enc Tryd.prog W 0 (fun _ => true) true 24 v d p) : ∃ t, Od W t v := by
  obtain ⟨cs, rfl, _⟩ := okWide_struct Tryd.underlying24 hv
  obtain ⟨fuel, hf⟩ := h
  obtain ⟨t, s, e, ho⟩ := viewT _ fuel _ d p (Nat.lt_succ_self _) hf
  refine ⟨t, ?_⟩
  have e2 : cs = #[.int .i64 t.k, .int .i64 t.n, s] := by
    simp [Value.cells] at e
    exact Array.ext' (by simpa using e)
  rw [e2]; exact ho
end Go.Proofs.YtoaccmblaifnmaaDoor
/-
  An argument that is a policy, opened.
-/
namespace Go.Proofs.YtoaccmblaifnmaaDoor
open Go.ChangeShapes Go.WideShapes Go.ChangeAt Go.RowKit Go.Deep Tr
theorem cellsI14 : Tryd.prog.cellsOf 3 = 1 := by kernel_rfl
theorem bytesI14 : Tryd.prog.bytesOf 3 = 8 := by kernel_rfl
theorem cellsQ14 : Tryd.prog.cellsOf 45 = 3 := by kernel_rfl
theorem sized_arg14 {H : Type} {ts : List TypeId} {ds : List (DataW H)} (h : (DataW.weightsEach Tryd.prog ts ds).all (· ≤ reachBytes) = true) {j : Nat} {t : TypeId} {d : DataW H} (ht : ts[j]? = some t) (hd : ds[j]? = some d) : ∀ n ∈ d.weights Tryd.prog t, n ≤ reachBytes := fun n hn => by
  have := List.all_eq_true.1 h _ (DataW.weights_mem_each ht hd n hn)
  simpa using this
set_option maxRecDepth 100000 in
theorem viewIl {H : Type} {enc : TypeId × Value → H} {W : World} {fuel : Nat} {x : Value} {d : DataW H} {p : List MemPlace}
    (hf : DataW.trod enc Tryd.prog W 0 (fun _ => true) true fuel 43 [x] = some (d, p)) (hw : ∀ el sp, d = .slice el sp → (el.length + sp.length) * 8 ≤ 140737488351232) :
    ∃ F : List Int, FlR (fun _ => True) W x F ∧ F.length * 8 ≤ 140737488355328 := by
  rcases open_slice Tryd.underlying43 hf with ⟨hcs, hx⟩ | ⟨a, len, cap, m, q, D, Pl, hcs, _, hl, hm, hmm, hx, hel⟩
  · cases hcs
    exact ⟨[], ⟨none, 0, rfl, fun i hi => absurd hi (Nat.not_lt_zero _)⟩, by simp⟩
  · cases hcs
    simp only [Prod.mk.injEq] at hx
    obtain ⟨rfl, rfl⟩ := hx
    simp only [if_true] at hmm
    obtain ⟨T, hT⟩ := choose_lt (α := Int) (n := len) (p := fun i z => W.cells? 0 (a.add (i * 1)) 1 = some [.int .i64 z]) (fun i hi => by
      obtain ⟨cs', h1, h2⟩ := hel i (by omega)
      rw [cellsI14] at h1
      obtain ⟨_, h3, _⟩ := World.cells?_some h1
      match cs', h3 with
      | [x0], _ =>
        obtain ⟨k0, e0, _, _⟩ := DataW.trod_int Tryd.underlying3 h2
        cases e0
        exact ⟨k0, h1⟩)
    have hln : ((List.range len).map T).length = len := by simp
    refine ⟨(List.range len).map T, ⟨some a, cap, by rw [hln], fun i hi => ?_⟩, ?_⟩
    · rw [hln] at hi
      have hs : ((List.range len).map T).getD i 0 = T i := by
        rw [List.getD_eq_getElem?_getD, List.getElem?_map, List.getElem?_range hi]; rfl
      obtain ⟨b, off, sp⟩ := a
      obtain rfl : sp = none := by
        obtain ⟨_, _, g4⟩ := World.cells?_some (hT 0 (by omega))
        have g5 := g4 0 (by decide)
        have := spotN g5
        simpa [Addr.add] using this
      obtain ⟨_, _, g4⟩ := World.cells?_some (hT i hi)
      have g5 := g4 0 (by decide)
      rw [addr_add12, addr_add12, Nat.mul_one, Nat.add_zero] at g5
      refine ⟨b, off, rfl, trivial, World.block_lt_of_cell? W _ g5, ?_⟩
      rw [hs]; exact g5
    · have := hw _ _ rfl
      simp only [List.length_map, List.length_range] at this
      rw [hln]
      omega
theorem w_sliceI {H : Type} {d : DataW H} (hw : ∀ n ∈ d.weights Tryd.prog 43, n ≤ reachBytes) : ∀ el sp, d = .slice el sp → (el.length + sp.length) * 8 ≤ 140737488351232 := fun el sp e => by
  subst e
  have := hw _ (by rw [DataW.weights, Tryd.underlying43]; exact List.mem_cons_self)
  rw [bytesI14] at this
  simpa only [reachBytes] using this
set_option maxRecDepth 100000 in
theorem viewQ {H : Type} {enc : TypeId × Value → H} {W : World} {base : Nat} {v : Value} {d : DataW H} {p : List MemPlace} (hv : Value.okWide Tryd.prog W .any base 45 v) (h : DataW.Trod enc Tryd.prog W 0 (fun _ => true) true 45 v d p) (hw : ∀ n ∈ d.weights Tryd.prog 45, n ≤ reachBytes) :
    ∃ (D q : Int) (F : List Int) (fv : Value), v = .agg #[.int .i64 D, fv, .int .i64 q] ∧ FlR (fun _ => True) W fv F ∧ F.length * 8 ≤ 140737488355328 := by
  obtain ⟨cs, rfl, _⟩ := okWide_struct Tryd.underlying45 hv
  obtain ⟨fuel, hf⟩ := h
  obtain ⟨xs, n', _, hd, hcl, hxl, hfs⟩ := DataW.trod_struct Tryd.underlying45 hf
  have hxl' : xs.length = 3 := hxl
  rw [cellsQ14] at hcl
  obtain ⟨l⟩ := cs
  have hcl' : l.length = 3 := by simpa [Value.cells] using hcl
  match l, hcl', xs, hxl' with
  | [x0, x1, x2], _, [y0, y1, y2], _ =>
    have f0 : DataW.trod enc Tryd.prog W 0 (fun _ => true) true n' 3 [x0] = some y0 := hfs 0 _ rfl
    have f1 : DataW.trod enc Tryd.prog W 0 (fun _ => true) true n' 43 [x1] = some y1 := hfs 1 _ rfl
    have f2 : DataW.trod enc Tryd.prog W 0 (fun _ => true) true n' 3 [x2] = some y2 := hfs 2 _ rfl
    obtain ⟨k0, e0, _, _⟩ := DataW.trod_int Tryd.underlying3 f0
    obtain ⟨k2, e2, _, _⟩ := DataW.trod_int Tryd.underlying3 f2
    cases e0; cases e2
    obtain ⟨d1, p1⟩ := y1
    have hd1 : d = .agg [y0.1, d1, y2.1] := (Prod.mk.inj hd).1
    obtain ⟨F, hF, hb⟩ := viewIl f1 (w_sliceI (d := d1) (fun n hn => hw n (by
      rw [hd1, DataW.weights, Tryd.underlying45]
      exact DataW.weights_mem_each (j := 1) (t := 43) (d := d1) rfl rfl n hn)))
    exact ⟨k0, k2, F, x1, rfl, hF, hb⟩
end Go.Proofs.YtoaccmblaifnmaaDoor
