/-
  What every card on slices that came in wants.
-/
import Derived.Test.YtcdpnahlbnogoaaDoorCards
import Derived.ProofKit
import Derived.LaidMore
import Derived.OpenShut
import Derived.SizedLaws
import Derived.Stop.Joined
import Derived.Test.YtcdpnahlbnogoaaDoorAa3
import Derived.Deep.Slices
import Derived.Test.YtcdpnahlbnogoaaDoorAa7
import Derived.Lib.LaidTab
import Derived.LaidSub
import Derived.Test.YtcdpnahlbnogoaaDoorAc6
namespace Go.Proofs.YtcdpnahlbnogoaaDoor
open Go.ChangeShapes Go.WideShapes Go.ChangeAt Go.RowKit
theorem cellsI : Tryd.prog.cellsOf 3 = 1 := by kernel_rfl
theorem bytesI : Tryd.prog.bytesOf 3 = 8 := by kernel_rfl
theorem laidOut : laidOutB Tryd.prog = true := by kernel_rfl
theorem ownK : ownKnob Tryd.prog.godebug = none := by kernel_rfl
theorem spotN {w : World} {a : Addr} {v : Value} (h : w.cell? a = some v) : a.spot = none := by
  unfold World.cell? at h
  split at h
  · split at h
    · cases h
    · rename_i hs; simpa using hs
  · cases h
end Go.Proofs.YtcdpnahlbnogoaaDoor
/-
  An argument that is an order, opened.
-/
namespace Go.Proofs.YtcdpnahlbnogoaaDoor
open Go.ChangeShapes Go.WideShapes Go.ChangeAt Go.RowKit Go.Deep Tr
theorem cellsO : Tryd.prog.cellsOf 24 = 3 := by kernel_rfl
theorem addr_add12 (b off i : Nat) : (⟨b, off, none⟩ : Addr).add i = ⟨b, off + i, none⟩ := by
  unfold Addr.add
  by_cases h : i = 0
  · subst h; simp
  · simp [h]
theorem bounds12 {n : Int} (h : (Lit.int .i64 n).wf = true) : -9223372036854775808 ≤ n ∧ n ≤ 9223372036854775807 := by
  exact bounds_i64 h
set_option maxRecDepth 100000 in
theorem viewT {H : Type} {enc : TypeId × Value → H} {W : World} : ∀ (M : Nat) (fuel : Nat) (cs : List Value) (d : DataW H) (p : List MemPlace), SizeOf.sizeOf d < M →
    DataW.trod enc Tryd.prog W 0 (fun _ => true) true fuel 24 cs = some (d, p) → ∃ (t : Tr) (s : Value), cs = [.int .i64 t.k, .int .i64 t.n, s] ∧ Od W t (.agg #[.int .i64 t.k, .int .i64 t.n, s]) := by
  intro M
  induction M with
  | zero => intro _ _ _ _ h; omega
  | succ M ih =>
    intro fuel cs d p hM hf
    obtain ⟨xs, n', _, hd, hcl, hxl, hfs⟩ := DataW.trod_struct Tryd.underlying24 hf
    have hxl' : xs.length = 3 := hxl
    rw [cellsO] at hcl
    match cs, hcl, xs, hxl' with
    | [x0, x1, x2], _, [y0, y1, y2], _ =>
      have f0 : DataW.trod enc Tryd.prog W 0 (fun _ => true) true n' 3 [x0] = some y0 := hfs 0 _ rfl
      have f1 : DataW.trod enc Tryd.prog W 0 (fun _ => true) true n' 3 [x1] = some y1 := hfs 1 _ rfl
      have f2 : DataW.trod enc Tryd.prog W 0 (fun _ => true) true n' 22 [x2] = some y2 := hfs 2 _ rfl
      obtain ⟨k, e0, _, w0⟩ := DataW.trod_int Tryd.underlying3 f0
      obtain ⟨n, e1, _, w1⟩ := DataW.trod_int Tryd.underlying3 f1
      cases e0; cases e1
      have hd' : d = .agg [y0.1, y1.1, y2.1] := (Prod.mk.inj hd).1
      have hy2 : SizeOf.sizeOf y2.1 < SizeOf.sizeOf d := by rw [hd']; simp; omega
      obtain ⟨d2, p2⟩ := y2
      rcases open_slice Tryd.underlying22 f2 with ⟨hcs, hx⟩ | ⟨a, len, cap, m, q, D, Pl, hcs, _, hl, hm, hmm, hx, hel⟩
      · cases hcs
        refine ⟨⟨k, n, []⟩, _, rfl, ?_⟩
        rw [od_eq]
        exact ⟨none, 0, rfl, ⟨Nat.zero_le _, bounds12 w0, bounds12 w1⟩, fun i h => absurd h (Nat.not_lt_zero _)⟩
      · cases hcs
        simp only [Prod.mk.injEq] at hx
        obtain ⟨rfl, rfl⟩ := hx
        simp only [if_true] at hmm
        have inh : Inhabited (Tr × Value) := ⟨(⟨0, 0, []⟩, .bool false)⟩
        obtain ⟨T, hT⟩ := choose_lt (α := Tr × Value) (n := len) (p := fun i ts => ∃ cs', W.cells? 0 (a.add (i * 3)) 3 = some cs' ∧ cs' = [.int .i64 ts.1.k, .int .i64 ts.1.n, ts.2] ∧ Od W ts.1 (.agg #[.int .i64 ts.1.k, .int .i64 ts.1.n, ts.2])) (fun i hi => by
          obtain ⟨cs', h1, h2⟩ := hel i (by omega)
          rw [cellsO] at h1
          have hs : SizeOf.sizeOf (D i) < M := by
            have h3 := List.sizeOf_lt_of_mem (List.mem_map_of_mem (f := D) (List.mem_range.2 hi))
            simp at hy2
            omega
          obtain ⟨t, sv, e, ho⟩ := ih q cs' (D i) (Pl i) hs h2
          exact ⟨(t, sv), cs', h1, e, ho⟩)
        have hcell : ∀ i, i < len → ∀ j, j < 3 → W.cell? ((a.add (i * 3)).add j) = [Value.int .i64 (T i).1.k, .int .i64 (T i).1.n, (T i).2][j]? := fun i hi j hj => by
          obtain ⟨cs', h1, e, _⟩ := hT i hi
          obtain ⟨_, _, h4⟩ := World.cells?_some h1
          rw [← e]; exact h4 j hj
        have ln : ((List.range len).map fun i => (T i).1).length = len := by simp
        refine ⟨⟨k, n, (List.range len).map fun i => (T i).1⟩, _, rfl, ?_⟩
        rw [od_eq]
        obtain ⟨b, off, sp⟩ := a
        refine ⟨some ⟨b, off, sp⟩, cap, by rw [ln], ⟨?_, bounds12 w0, bounds12 w1⟩, fun i hi => ?_⟩
        · rw [ln]; unfold maxLen at hm; omega
        · rw [ln] at hi
          have c0 := hcell i hi 0 (by decide)
          obtain rfl : sp = none := by
            have := spotN (hcell 0 (by omega) 0 (by decide))
            simpa [Addr.add] using this
          have c1 := hcell i hi 1 (by decide)
          have c2 := hcell i hi 2 (by decide)
          rw [addr_add12, addr_add12] at c0 c1 c2
          obtain ⟨_, _, _, ho⟩ := hT i hi
          refine ⟨b, off, (T i).2, rfl, World.block_lt_of_cell? W _ c0, ?_⟩
          simp only [List.getElem_map, List.getElem_range]
          exact ⟨c0, c1, c2, ho⟩
set_option maxRecDepth 100000 in
theorem view12 {H : Type} {enc : TypeId × Value → H} {W : World} {base : Nat} {v : Value} {d : DataW H} {p : List MemPlace} (hv : Value.okWide Tryd.prog W .any base 24 v) (h : DataW.Trod enc Tryd.prog W 0 (fun _ => true) true 24 v d p) : ∃ t, Od W t v := by
  obtain ⟨cs, rfl, _⟩ := okWide_struct Tryd.underlying24 hv
  obtain ⟨fuel, hf⟩ := h
  obtain ⟨t, s, e, ho⟩ := viewT _ fuel _ d p (Nat.lt_succ_self _) hf
  refine ⟨t, ?_⟩
  have e2 : cs = #[.int .i64 t.k, .int .i64 t.n, s] := by
    simp [Value.cells] at e
    exact Array.ext' (by simpa using e)
  rw [e2]; exact ho
end Go.Proofs.YtcdpnahlbnogoaaDoor
/-
  What the rows of layer 12 list: the table of the powers of ten, three sentinels.
-/
namespace Go.Proofs.YtcdpnahlbnogoaaDoor
open Go.RowKit
theorem tab_of {W : World} {l : List (String × DataW Unit)} (h : laidMetH Tryd.prog l W)
    (hf : l.filter (fun x => x.1 == "internal/strconv.uint64pow10") = [("internal/strconv.uint64pow10", Lib.tabData .u64 Lib.pow10Tab)]) : Lib.TabIs Tryd.prog W "internal/strconv.uint64pow10" .u64 Lib.pow10Tab := by
  have h1 := h.filter (fun x => x.1 == "internal/strconv.uint64pow10")
  rw [hf, MakeChecks.laidMetH_plain _ _ _ (by kernel_rfl)] at h1
  exact Lib.tabIs_of_head (g := 19) (by kernel_rfl) (by kernel_rfl) Tryd.underlying155 Tryd.underlying146 (by kernel_rfl) (by kernel_rfl) h1
def eoNames : List (String × List UInt8) := [("timbre/api.ErrLimit", [116, 105, 109, 98, 114, 101, 58, 32, 108, 105, 109, 105, 116]), ("timbre/api.ErrText", [116, 105, 109, 98, 114, 101, 58, 32, 116, 101, 120, 116]), ("timbre/api.ErrOrder", [116, 105, 109, 98, 114, 101, 58, 32, 111, 114, 100, 101, 114])]
def isTab (s : String) : Bool := s == "math/bits.deBruijn32tab" || s == "math/bits.deBruijn64tab" || s == "internal/strconv.uint64pow10"
theorem eo_of {W : World} {l : List (String × DataW Unit)} (h : laidMetH Tryd.prog l W)
    (hf : l.filter (fun x => x.1 == "internal/strconv.uint64pow10") = [("internal/strconv.uint64pow10", Lib.tabData .u64 Lib.pow10Tab)])
    (he : l.filter (fun x => !isTab x.1) = eoNames.map fun x => (x.1, errD x.2)) : ∃ aL aT aO, Eo W aL aT aO := by
  have ht := tab_of h hf
  have h1 := h.filter (fun x => !isTab x.1)
  rw [he, MakeChecks.laidMetH_plain _ _ _ (by kernel_rfl)] at h1
  obtain ⟨ps, hv, hnd, hr⟩ := h1
  obtain ⟨al, h1, h2, h3⟩ := sents eoNames [1, 3, 0] ps (by kernel_rfl) (by decide +kernel) hv hr
  match al, h1, h2, h3 with
  | [r, t, o], h1, h2, h3 =>
    have hn := h3 hnd
    simp only [List.nodup_cons, List.mem_cons, List.not_mem_nil, or_false, not_or] at hn
    refine ⟨r, t, o, h1.1, h1.2.1, h1.2.2.1, hn.1.1, hn.1.2, hn.2.1, fun a ha => ?_, ht⟩
    rcases ha with rfl | rfl | rfl
    · exact (hr _ _ (h2 _ (by simp))).1
    · exact (hr _ _ (h2 _ (by simp))).1
    · exact (hr _ _ (h2 _ (by simp))).1
end Go.Proofs.YtcdpnahlbnogoaaDoor
/-
  What the row of PlannerGrows lists: four sentinels.
-/
namespace Go.Proofs.YtcdpnahlbnogoaaDoor
open Go.RowKit
def e14Names : List (String × List UInt8) := [("timbre/api.ErrLimit", [116, 105, 109, 98, 114, 101, 58, 32, 108, 105, 109, 105, 116]), ("timbre/api.ErrRange", [116, 105, 109, 98, 114, 101, 58, 32, 114, 97, 110, 103, 101]), ("timbre/api.ErrLength", [116, 105, 109, 98, 114, 101, 58, 32, 108, 101, 110, 103, 116, 104]), ("timbre/api.ErrOrder", [116, 105, 109, 98, 114, 101, 58, 32, 111, 114, 100, 101, 114])]
theorem e14row {W : World} {l : List (String × DataW Unit)} (h : laidMetH Tryd.prog l W) (he : l = e14Names.map fun x => (x.1, errD x.2)) : ∃ aR aN aL aO, E14 W aR aN aL aO := by
  rw [he, MakeChecks.laidMetH_plain _ _ _ (by kernel_rfl)] at h
  obtain ⟨ps, hv, hnd, hr⟩ := h
  obtain ⟨al, h1, h2, h3⟩ := sents e14Names [1, 2, 4, 0] ps (by kernel_rfl) (by decide +kernel) hv hr
  match al, h1, h2, h3 with
  | [l, r, n, o], h1, _, _ => exact ⟨r, n, l, o, h1.2.1, h1.2.2.1, h1.1, h1.2.2.2.1⟩
end Go.Proofs.YtcdpnahlbnogoaaDoor
