/-
  From what the rows list (the nineteen sentinels read as their texts lay them) to what the walks ask: 'Errs'.
-/
import Derived.Test.YtlbnldbelfgokaaDoorErr
import Derived.LaidMore
import Derived.ProofKit
import Derived.Test.YtlbnldbelfgokaaDoorCards
import Derived.OpenShut
import Derived.SizedLaws
import Derived.Stop.Joined
import Derived.Test.YtlbnldbelfgokaaDoorSr4
import Derived.Deep.Slices
import Derived.Test.YtlbnldbelfgokaaDoorSlx
import Derived.Test.YtlbnldbelfgokaaDoorSlv
import Derived.Test.YtlbnldbelfgokaaDoorLyy
import Derived.Test.YtlbnldbelfgokaaDoorProg
import Derived.Test.YtlbnldbelfgokaaDoorRows
namespace Go.Proofs.YtlbnldbelfgokaaDoor
open Go.RowKit
def errNames : List (String × List UInt8) := [("timbre/api.ErrShort", [116, 105, 109, 98, 114, 101, 58, 32, 116, 111, 111, 32, 115, 104, 111, 114, 116]), ("timbre/api.ErrVarint", [116, 105, 109, 98, 114, 101, 58, 32, 118, 97, 114, 105, 110, 116]), ("timbre/api.ErrLimit", [116, 105, 109, 98, 114, 101, 58, 32, 108, 105, 109, 105, 116]), ("timbre/api.ErrTail", [116, 105, 109, 98, 114, 101, 58, 32, 116, 97, 105, 108]), ("timbre/api.ErrRange", [116, 105, 109, 98, 114, 101, 58, 32, 114, 97, 110, 103, 101]), ("timbre/api.ErrText", [116, 105, 109, 98, 114, 101, 58, 32, 116, 101, 120, 116]), ("timbre/api.ErrLength", [116, 105, 109, 98, 114, 101, 58, 32, 108, 101, 110, 103, 116, 104]), ("timbre/api.ErrOrder", [116, 105, 109, 98, 114, 101, 58, 32, 111, 114, 100, 101, 114]), ("timbre/api.ErrProgram", [116, 105, 109, 98, 114, 101, 58, 32, 112, 114, 111, 103, 114, 97, 109]), ("timbre/api.ErrState", [116, 105, 109, 98, 114, 101, 58, 32, 115, 116, 97, 116, 101]), ("timbre/api.ErrRoot", [116, 105, 109, 98, 114, 101, 58, 32, 114, 111, 111, 116]), ("timbre/api.ErrPerm", [116, 105, 109, 98, 114, 101, 58, 32, 112, 101, 114, 109, 117, 116, 97, 116, 105, 111, 110]), ("timbre/api.ErrNumber", [116, 105, 109, 98, 114, 101, 58, 32, 110, 117, 109, 98, 101, 114]), ("timbre/api.ErrWorkers", [116, 105, 109, 98, 114, 101, 58, 32, 119, 111, 114, 107, 101, 114, 115]), ("timbre/api.ErrDone", [116, 105, 109, 98, 114, 101, 58, 32, 100, 111, 110, 101]), ("timbre/api.ErrUnknown", [116, 105, 109, 98, 114, 101, 58, 32, 117, 110, 107, 110, 111, 119, 110]), ("timbre/api.ErrMode", [116, 105, 109, 98, 114, 101, 58, 32, 109, 111, 100, 101]), ("timbre/api.ErrCommand", [116, 105, 109, 98, 114, 101, 58, 32, 99, 111, 109, 109, 97, 110, 100]), ("timbre/api.ErrExact", [116, 105, 109, 98, 114, 101, 58, 32, 101, 120, 97, 99, 116])]
theorem errs_of {W : World} (h : laidMetH Tryd.prog (errNames.map fun x => (x.1, errD x.2)) W) : ∃ al, Errs W al := by
  rw [MakeChecks.laidMetH_plain _ _ _ (by kernel_rfl)] at h
  obtain ⟨ps, hv, hnd, hr⟩ := h
  obtain ⟨al, h1, h2, h3⟩ := sents errNames [1, 2, 3, 4, 5, 0, 6, 7, 8, 9, 10, 11, 12, 13, 14, 15, 16, 17, 18] ps (by kernel_rfl) (by decide +kernel) hv hr
  exact ⟨al, h1, h3 hnd, fun a ha => (hr _ _ (h2 a ha)).1⟩
end Go.Proofs.YtlbnldbelfgokaaDoor
/-
  What every card on slices that came in wants.
-/
namespace Go.Proofs.YtlbnldbelfgokaaDoor
open Go.ChangeShapes Go.WideShapes Go.ChangeAt Go.RowKit
theorem cellsI : Tryd.prog.cellsOf 3 = 1 := by kernel_rfl
theorem bytesI : Tryd.prog.bytesOf 3 = 8 := by kernel_rfl
theorem laidOut : laidOutB Tryd.prog = true := by kernel_rfl
theorem ownK : ownKnob Tryd.prog.godebug = none := by kernel_rfl
theorem spotN {w : World} {a : Addr} {v : Value} (h : w.cell? a = some v) : a.spot = none := by
  unfold World.cell? at h
  split at h
  · split at h
    · cases h
    · rename_i hs; simpa using hs
  · cases h
end Go.Proofs.YtlbnldbelfgokaaDoor
/-
  Arguments opened: a list of steps, a program, a list of bytes.
-/
namespace Go.Proofs.YtlbnldbelfgokaaDoor
open Go.ChangeShapes Go.WideShapes Go.ChangeAt Go.RowKit Go.Deep
theorem cellsS : Tryd.prog.cellsOf 38 = 7 := by kernel_rfl
theorem bytesS : Tryd.prog.bytesOf 38 = 56 := by kernel_rfl
theorem cellsPg : Tryd.prog.cellsOf 25 = 5 := by kernel_rfl
theorem addr_add15 (b off i : Nat) : (⟨b, off, none⟩ : Addr).add i = ⟨b, off + i, none⟩ := by
  unfold Addr.add
  by_cases h : i = 0
  · subst h; simp
  · simp [h]
theorem sized_arg {H : Type} {ts : List TypeId} {ds : List (DataW H)} (h : (DataW.weightsEach Tryd.prog ts ds).all (· ≤ reachBytes) = true) {j : Nat} {t : TypeId} {d : DataW H} (ht : ts[j]? = some t) (hd : ds[j]? = some d) : ∀ n ∈ d.weights Tryd.prog t, n ≤ reachBytes := fun n hn => by
  have := List.all_eq_true.1 h _ (DataW.weights_mem_each ht hd n hn)
  simpa using this
set_option maxRecDepth 100000 in
theorem viewSl {H : Type} {enc : TypeId × Value → H} {W : World} {fuel : Nat} {x : Value} {d : DataW H} {p : List MemPlace}
    (hf : DataW.trod enc Tryd.prog W 0 (fun _ => true) true fuel 23 [x] = some (d, p)) (hw : ∀ el sp, d = .slice el sp → (el.length + sp.length) * 56 ≤ 140737488351232) :
    ∃ (ss : List Sp.St) (a : Option Addr) (cap : Nat), x = .slice a ss.length cap ∧ (Ss W a ss ∧ (a = none → cap = 0)) ∧ ss.length * 56 ≤ 140737488351232 := by
  rcases open_slice Tryd.underlying23 hf with ⟨hcs, hx⟩ | ⟨a, len, cap, m, q, D, Pl, hcs, _, hl, hm, hmm, hx, hel⟩
  · cases hcs
    exact ⟨[], none, 0, rfl, ⟨fun i s hi => by simp at hi, fun _ => rfl⟩, by simp⟩
  · cases hcs
    simp only [Prod.mk.injEq] at hx
    obtain ⟨rfl, rfl⟩ := hx
    simp only [if_true] at hmm
    have inh : Inhabited Sp.St := ⟨st0⟩
    obtain ⟨T, hT⟩ := choose_lt (α := Sp.St) (n := len) (p := fun i s => W.cells? 0 (a.add (i * 7)) 7 = some (sc1 s)) (fun i hi => by
      obtain ⟨cs', h1, h2⟩ := hel i (by omega)
      rw [cellsS] at h1
      obtain ⟨_, h3, _⟩ := World.cells?_some h1
      obtain ⟨xs, n', _, hd, _, hxl, hfs⟩ := DataW.trod_struct Tryd.underlying38 h2
      have hxl' : xs.length = 7 := hxl
      match cs', h3, xs, hxl' with
      | [x0, x1, x2, x3, x4, x5, x6], _, [y0, y1, y2, y3, y4, y5, y6], _ =>
        have f0 : DataW.trod enc Tryd.prog W 0 (fun _ => true) true n' 3 [x0] = some y0 := hfs 0 _ rfl
        have f1 : DataW.trod enc Tryd.prog W 0 (fun _ => true) true n' 3 [x1] = some y1 := hfs 1 _ rfl
        have f2 : DataW.trod enc Tryd.prog W 0 (fun _ => true) true n' 3 [x2] = some y2 := hfs 2 _ rfl
        have f3 : DataW.trod enc Tryd.prog W 0 (fun _ => true) true n' 3 [x3] = some y3 := hfs 3 _ rfl
        have f4 : DataW.trod enc Tryd.prog W 0 (fun _ => true) true n' 3 [x4] = some y4 := hfs 4 _ rfl
        have f5 : DataW.trod enc Tryd.prog W 0 (fun _ => true) true n' 3 [x5] = some y5 := hfs 5 _ rfl
        have f6 : DataW.trod enc Tryd.prog W 0 (fun _ => true) true n' 3 [x6] = some y6 := hfs 6 _ rfl
        obtain ⟨k0, e0, _, _⟩ := DataW.trod_int Tryd.underlying3 f0
        obtain ⟨k1, e1, _, _⟩ := DataW.trod_int Tryd.underlying3 f1
        obtain ⟨k2, e2, _, _⟩ := DataW.trod_int Tryd.underlying3 f2
        obtain ⟨k3, e3, _, _⟩ := DataW.trod_int Tryd.underlying3 f3
        obtain ⟨k4, e4, _, _⟩ := DataW.trod_int Tryd.underlying3 f4
        obtain ⟨k5, e5, _, _⟩ := DataW.trod_int Tryd.underlying3 f5
        obtain ⟨k6, e6, _, _⟩ := DataW.trod_int Tryd.underlying3 f6
        cases e0; cases e1; cases e2; cases e3; cases e4; cases e5; cases e6
        exact ⟨⟨k0, k1, k2, k3, k4, k5, k6⟩, h1⟩)
    have hln : ((List.range len).map T).length = len := by simp
    refine ⟨(List.range len).map T, some a, cap, by rw [hln], ⟨fun i s hi => ?_, fun h => by cases h⟩, ?_⟩
    · have hil : i < len := by have := (List.getElem?_eq_some_iff.1 hi).1; rw [hln] at this; exact this
      have hs : T i = s := by
        rw [List.getElem?_map, List.getElem?_range hil, Option.map_some] at hi
        exact Option.some.inj hi
      obtain ⟨b, off, sp⟩ := a
      obtain rfl : sp = none := by
        obtain ⟨_, _, g4⟩ := World.cells?_some (hT 0 (by omega))
        have g5 := g4 0 (by decide)
        have := spotN g5
        simpa [Addr.add] using this
      obtain ⟨_, _, g4⟩ := World.cells?_some (hT i hil)
      rw [hs] at g4
      have hc : ∀ j, j < 7 → W.cell? ⟨b, off + i * 7 + j, none⟩ = (sc1 s)[j]? := fun j hj => by
        have := g4 j hj
        rw [addr_add15, addr_add15] at this
        exact this
      exact ⟨b, off, rfl, hc 0 (by decide), hc 1 (by decide), hc 2 (by decide), hc 3 (by decide), hc 4 (by decide), hc 5 (by decide), hc 6 (by decide)⟩
    · have := hw _ _ rfl
      simp only [List.length_map, List.length_range] at this
      rw [hln]
      omega
theorem w_slice {H : Type} {d : DataW H} (hw : ∀ n ∈ d.weights Tryd.prog 23, n ≤ reachBytes) : ∀ el sp, d = .slice el sp → (el.length + sp.length) * 56 ≤ 140737488351232 := fun el sp e => by
  subst e
  have := hw _ (by rw [DataW.weights, Tryd.underlying23]; exact List.mem_cons_self)
  rw [bytesS] at this
  simpa only [reachBytes] using this
set_option maxRecDepth 100000 in
theorem viewL {H : Type} {enc : TypeId × Value → H} {W : World} {base : Nat} {v : Value} {d : DataW H} {p : List MemPlace} (hv : Value.okWide Tryd.prog W .any base 23 v) (h : DataW.Trod enc Tryd.prog W 0 (fun _ => true) true 23 v d p) (hw : ∀ n ∈ d.weights Tryd.prog 23, n ≤ reachBytes) :
    ∃ (ss : List Sp.St) (a : Option Addr) (cap : Nat), v = .slice a ss.length cap ∧ (Ss W a ss ∧ (a = none → cap = 0)) ∧ ss.length * 56 ≤ 140737488351232 := by
  obtain ⟨a, n, c, rfl⟩ := okWide_slice Tryd.underlying23 hv
  obtain ⟨fuel, hf⟩ := h
  exact viewSl hf (w_slice hw)
set_option maxRecDepth 100000 in
theorem viewPg {H : Type} {enc : TypeId × Value → H} {W : World} {base : Nat} {v : Value} {d : DataW H} {p : List MemPlace} (hv : Value.okWide Tryd.prog W .any base 25 v) (h : DataW.Trod enc Tryd.prog W 0 (fun _ => true) true 25 v d p) (hw : ∀ (l : List (DataW H)) el sp, d = .agg l → l[4]? = some (.slice el sp) → (el.length + sp.length) * 56 ≤ 140737488351232) :
    ∃ (pg : Sp.Pg) (a : Option Addr) (cap : Nat), v = pv pg (.slice a pg.steps.length cap) ∧ (Ss W a pg.steps ∧ (a = none → cap = 0)) ∧ pg.steps.length * 56 ≤ 140737488351232 := by
  obtain ⟨cs, rfl, _⟩ := okWide_struct Tryd.underlying25 hv
  obtain ⟨fuel, hf⟩ := h
  obtain ⟨xs, n', _, hd, hcl, hxl, hfs⟩ := DataW.trod_struct Tryd.underlying25 hf
  have hxl' : xs.length = 5 := hxl
  rw [cellsPg] at hcl
  obtain ⟨l⟩ := cs
  have hcl' : l.length = 5 := by simpa [Value.cells] using hcl
  match l, hcl', xs, hxl' with
  | [x0, x1, x2, x3, x4], _, [y0, y1, y2, y3, y4], _ =>
    have f0 : DataW.trod enc Tryd.prog W 0 (fun _ => true) true n' 3 [x0] = some y0 := hfs 0 _ rfl
    have f1 : DataW.trod enc Tryd.prog W 0 (fun _ => true) true n' 3 [x1] = some y1 := hfs 1 _ rfl
    have f2 : DataW.trod enc Tryd.prog W 0 (fun _ => true) true n' 3 [x2] = some y2 := hfs 2 _ rfl
    have f3 : DataW.trod enc Tryd.prog W 0 (fun _ => true) true n' 3 [x3] = some y3 := hfs 3 _ rfl
    have f4 : DataW.trod enc Tryd.prog W 0 (fun _ => true) true n' 23 [x4] = some y4 := hfs 4 _ rfl
    obtain ⟨k0, e0, _, _⟩ := DataW.trod_int Tryd.underlying3 f0
    obtain ⟨k1, e1, _, _⟩ := DataW.trod_int Tryd.underlying3 f1
    obtain ⟨k2, e2, _, _⟩ := DataW.trod_int Tryd.underlying3 f2
    obtain ⟨k3, e3, _, _⟩ := DataW.trod_int Tryd.underlying3 f3
    cases e0; cases e1; cases e2; cases e3
    obtain ⟨d4, p4⟩ := y4
    obtain ⟨ss, a, cap, rfl, hS, hb⟩ := viewSl f4 (fun el sp e => hw _ el sp (Prod.mk.inj hd).1 (by rw [← e]; rfl))
    exact ⟨⟨k0, k1, k2, k3, ss⟩, a, cap, rfl, hS, hb⟩
set_option maxRecDepth 100000 in
theorem viewP {H : Type} {enc : TypeId × Value → H} {W : World} {base : Nat} {v : Value} {d : DataW H} {p : List MemPlace} (hv : Value.okWide Tryd.prog W .any base 25 v) (h : DataW.Trod enc Tryd.prog W 0 (fun _ => true) true 25 v d p) (hw : ∀ n ∈ d.weights Tryd.prog 25, n ≤ reachBytes) :
    ∃ (pg : Sp.Pg) (a : Option Addr) (cap : Nat), v = pv pg (.slice a pg.steps.length cap) ∧ (Ss W a pg.steps ∧ (a = none → cap = 0)) ∧ pg.steps.length * 56 ≤ 140737488351232 :=
  viewPg hv h fun l el sp e h4 => w_slice (d := .slice el sp) (fun n hn => hw n (by
    rw [e, DataW.weights, Tryd.underlying25]
    exact DataW.weights_mem_each (j := 4) (t := 23) (d := .slice el sp) rfl h4 n hn)) el sp rfl
end Go.Proofs.YtlbnldbelfgokaaDoor
/-
  What the rows of layer 16 list, and arguments: a program, a step.
-/
namespace Go.Proofs.YtlbnldbelfgokaaDoor
open Flo Go.ChangeShapes Go.WideShapes Go.ChangeAt Go.RowKit Go.Deep
theorem errs16_of {W : World} {l : List (String × DataW Unit)} (h : laidMetH Tryd.prog l W)
    (he : l.filter (fun x => errNames.any fun y => y.1 == x.1) = errNames.map fun x => (x.1, errD x.2)) : ∃ al, Errs W al := by
  have h1 := h.filter (fun x => errNames.any fun y => y.1 == x.1)
  rw [he] at h1
  exact errs_of h1
theorem tab16_of {W : World} {l : List (String × DataW Unit)} (h : laidMetH Tryd.prog l W)
    (hf : l.filter (fun x => x.1 == "internal/strconv.uint64pow10") = [("internal/strconv.uint64pow10", Lib.tabData .u64 Lib.pow10Tab)]) : Lib.TabIs Tryd.prog W "internal/strconv.uint64pow10" .u64 Lib.pow10Tab := by
  have h1 := h.filter (fun x => x.1 == "internal/strconv.uint64pow10")
  rw [hf, MakeChecks.laidMetH_plain _ _ _ (by kernel_rfl)] at h1
  exact Lib.tabIs_of_head (g := 21) (by kernel_rfl) (by kernel_rfl) Tryd.underlying122 Tryd.underlying106 (by kernel_rfl) (by kernel_rfl) h1
theorem le_of {W : World} {al : List Addr} (hE : Errs W al) (hO : Ops W) (ht : Lib.TabIs Tryd.prog W "internal/strconv.uint64pow10" .u64 Lib.pow10Tab) : Le W al := by
  obtain ⟨a0, a1, a2, a3, a4, a5, a6, a7, a8, a9, a10, a11, a12, a13, a14, a15, a16, a17, a18, rfl⟩ := hE.len
  obtain ⟨h0, h1, h2, h3, h4, h5, h6, h7, h8, _⟩ := hE.sent
  exact ⟨hO, h8, ht⟩
theorem wf64 {n : Int} (h : (Lit.int .i64 n).wf = true) : Li.In64 n := by
  simp only [Lit.wf, Bool.and_eq_true, decide_eq_true_eq] at h
  exact h
set_option maxRecDepth 100000 in
theorem viewPg16 {H : Type} {enc : TypeId × Value → H} {W : World} {base : Nat} {v : Value} {d : DataW H} {p : List MemPlace} (hv : Value.okWide Tryd.prog W .any base 25 v) (h : DataW.Trod enc Tryd.prog W 0 (fun _ => true) true 25 v d p) (hw : ∀ (l : List (DataW H)) el sp, d = .agg l → l[4]? = some (.slice el sp) → (el.length + sp.length) * 56 ≤ 140737488351232) :
    ∃ (pg : Sp.Pg) (a : Option Addr) (cap : Nat), v = pv pg (.slice a pg.steps.length cap) ∧ (Ss W a pg.steps ∧ (a = none → cap = 0)) ∧ pg.steps.length * 56 ≤ 140737488351232 ∧ Pin pg := by
  obtain ⟨cs, rfl, _⟩ := okWide_struct Tryd.underlying25 hv
  obtain ⟨fuel, hf⟩ := h
  obtain ⟨xs, n', _, hd, hcl, hxl, hfs⟩ := DataW.trod_struct Tryd.underlying25 hf
  have hxl' : xs.length = 5 := hxl
  rw [cellsPg] at hcl
  obtain ⟨l⟩ := cs
  have hcl' : l.length = 5 := by simpa [Value.cells] using hcl
  match l, hcl', xs, hxl' with
  | [x0, x1, x2, x3, x4], _, [y0, y1, y2, y3, y4], _ =>
    have f0 : DataW.trod enc Tryd.prog W 0 (fun _ => true) true n' 3 [x0] = some y0 := hfs 0 _ rfl
    have f1 : DataW.trod enc Tryd.prog W 0 (fun _ => true) true n' 3 [x1] = some y1 := hfs 1 _ rfl
    have f2 : DataW.trod enc Tryd.prog W 0 (fun _ => true) true n' 3 [x2] = some y2 := hfs 2 _ rfl
    have f3 : DataW.trod enc Tryd.prog W 0 (fun _ => true) true n' 3 [x3] = some y3 := hfs 3 _ rfl
    have f4 : DataW.trod enc Tryd.prog W 0 (fun _ => true) true n' 23 [x4] = some y4 := hfs 4 _ rfl
    obtain ⟨k0, e0, _, b0⟩ := DataW.trod_int Tryd.underlying3 f0
    obtain ⟨k1, e1, _, b1⟩ := DataW.trod_int Tryd.underlying3 f1
    obtain ⟨k2, e2, _, b2⟩ := DataW.trod_int Tryd.underlying3 f2
    obtain ⟨k3, e3, _, b3⟩ := DataW.trod_int Tryd.underlying3 f3
    cases e0; cases e1; cases e2; cases e3
    obtain ⟨d4, p4⟩ := y4
    obtain ⟨ss, a, cap, rfl, hS, hb⟩ := viewSl f4 (fun el sp e => hw _ el sp (Prod.mk.inj hd).1 (by rw [← e]; rfl))
    refine ⟨⟨k0, k1, k2, k3, ss⟩, a, cap, rfl, hS, hb, fun x hx => ?_⟩
    simp only [Sp.hd, List.mem_cons, List.not_mem_nil, or_false] at hx
    rcases hx with rfl | rfl | rfl | rfl
    · exact wf64 b0
    · exact wf64 b1
    · exact wf64 b2
    · exact wf64 b3
set_option maxRecDepth 100000 in
theorem viewP16 {H : Type} {enc : TypeId × Value → H} {W : World} {base : Nat} {v : Value} {d : DataW H} {p : List MemPlace} (hv : Value.okWide Tryd.prog W .any base 25 v) (h : DataW.Trod enc Tryd.prog W 0 (fun _ => true) true 25 v d p) (hw : ∀ n ∈ d.weights Tryd.prog 25, n ≤ reachBytes) :
    ∃ (pg : Sp.Pg) (a : Option Addr) (cap : Nat), v = pv pg (.slice a pg.steps.length cap) ∧ (Ss W a pg.steps ∧ (a = none → cap = 0)) ∧ pg.steps.length * 56 ≤ 140737488351232 ∧ Pin pg :=
  viewPg16 hv h fun l el sp e h4 => w_slice (d := .slice el sp) (fun n hn => hw n (by
    rw [e, DataW.weights, Tryd.underlying25]
    exact DataW.weights_mem_each (j := 4) (t := 23) (d := .slice el sp) rfl h4 n hn)) el sp rfl
set_option maxRecDepth 100000 in
theorem viewS16 {H : Type} {enc : TypeId × Value → H} {W : World} {base : Nat} {v : Value} {d : DataW H} {p : List MemPlace} (hv : Value.okWide Tryd.prog W .any base 38 v) (h : DataW.Trod enc Tryd.prog W 0 (fun _ => true) true 38 v d p) :
    ∃ s : Sp.St, v = sv s := by
  obtain ⟨cs, rfl, _⟩ := okWide_struct Tryd.underlying38 hv
  obtain ⟨fuel, hf⟩ := h
  obtain ⟨xs, n', _, hd, hcl, hxl, hfs⟩ := DataW.trod_struct Tryd.underlying38 hf
  have hxl' : xs.length = 7 := hxl
  rw [cellsS] at hcl
  obtain ⟨l⟩ := cs
  have hcl' : l.length = 7 := by simpa [Value.cells] using hcl
  match l, hcl', xs, hxl' with
  | [x0, x1, x2, x3, x4, x5, x6], _, [y0, y1, y2, y3, y4, y5, y6], _ =>
    have f0 : DataW.trod enc Tryd.prog W 0 (fun _ => true) true n' 3 [x0] = some y0 := hfs 0 _ rfl
    have f1 : DataW.trod enc Tryd.prog W 0 (fun _ => true) true n' 3 [x1] = some y1 := hfs 1 _ rfl
    have f2 : DataW.trod enc Tryd.prog W 0 (fun _ => true) true n' 3 [x2] = some y2 := hfs 2 _ rfl
    have f3 : DataW.trod enc Tryd.prog W 0 (fun _ => true) true n' 3 [x3] = some y3 := hfs 3 _ rfl
    have f4 : DataW.trod enc Tryd.prog W 0 (fun _ => true) true n' 3 [x4] = some y4 := hfs 4 _ rfl
    have f5 : DataW.trod enc Tryd.prog W 0 (fun _ => true) true n' 3 [x5] = some y5 := hfs 5 _ rfl
    have f6 : DataW.trod enc Tryd.prog W 0 (fun _ => true) true n' 3 [x6] = some y6 := hfs 6 _ rfl
    obtain ⟨k0, e0, _, _⟩ := DataW.trod_int Tryd.underlying3 f0
    obtain ⟨k1, e1, _, _⟩ := DataW.trod_int Tryd.underlying3 f1
    obtain ⟨k2, e2, _, _⟩ := DataW.trod_int Tryd.underlying3 f2
    obtain ⟨k3, e3, _, _⟩ := DataW.trod_int Tryd.underlying3 f3
    obtain ⟨k4, e4, _, _⟩ := DataW.trod_int Tryd.underlying3 f4
    obtain ⟨k5, e5, _, _⟩ := DataW.trod_int Tryd.underlying3 f5
    obtain ⟨k6, e6, _, _⟩ := DataW.trod_int Tryd.underlying3 f6
    cases e0; cases e1; cases e2; cases e3; cases e4; cases e5; cases e6
    exact ⟨⟨k0, k1, k2, k3, k4, k5, k6⟩, rfl⟩
end Go.Proofs.YtlbnldbelfgokaaDoor
/-
  What the rows of layer 16 list where they list four sentinels; a slice's places.
-/
namespace Go.Proofs.YtlbnldbelfgokaaDoor
open Flo Go.ChangeShapes Go.WideShapes Go.ChangeAt Go.RowKit Go.Deep
set_option maxRecDepth 100000 in
theorem sentVar {W : World} : ∀ (l : List (String × List UInt8)) (gs : List Nat) (ps : List MemPlace),
    (l.map fun x => Tryd.prog.globalNamed x.1) = gs.map some → (∀ g ∈ gs, (Tryd.prog.globals[g]?).map (·.type) = some 27) →
    DataW.LaidVars Tryd.prog W (l.map fun x => (x.1, errD x.2)) ps →
    (∀ b off, MemPlace.cell b off ∈ ps → (∃ c t, W.heap[b]? = some (.cells c t (0, 0))) ∧ ∀ u v, W.cell? ⟨b, off, none⟩ = some (.iface u v) → Value.okWide Tryd.prog W .any 0 u v) →
    ∀ x ∈ l, ∃ tp p, W.var? Tryd.prog x.1 = some #[.iface tp p]
  | [], gs, ps, hg, _, h, _ => fun x hx => by cases hx
  | (n, t) :: l, gs, ps, hg, ht, h, hr => by
    cases gs with
    | nil => simp at hg
    | cons g gs =>
      simp only [List.map_cons, List.cons.injEq] at hg
      obtain ⟨hg0, hg1⟩ := hg
      obtain ⟨g', t', cs, fuel, p, q, h1, h2, h3, h4, h5, rfl⟩ := h
      obtain rfl := Option.some.inj (hg0.symm.trans h1)
      obtain rfl := Option.some.inj ((ht g (by simp)).symm.trans h2)
      obtain ⟨l0⟩ := cs
      have hc0 : W.cell? ⟨g, 0, none⟩ = l0[0]? := by simpa using World.var?_cell h1 h3 0
      have ok0 : ∀ u v, l0 = [.iface u v] → Value.okWide Tryd.prog W .any 0 u v := fun u v e => by
        subst e
        exact (hr g 0 (by simp [MemPlace.row])).2 u v (by simpa using hc0)
      obtain ⟨a, s, rfl, hc, hs, hz, rfl⟩ := errorString_of_trod Tryd.underlying27 err_row Tryd.underlying134 Tryd.underlying136 rfl rfl Tryd.underlying9 err_cellsS err_cells9 h4 ok0
      have ih := sentVar l gs q hg1 (fun g hg => ht g (by simp [hg])) h5 (fun b off hb => hr b off (by simp [hb]))
      intro x hx
      rcases List.mem_cons.1 hx with rfl | hx
      · exact ⟨_, _, h3⟩
      · exact ih x hx
def e16Names : List (String × List UInt8) := [("strconv.ErrRange", [118, 97, 108, 117, 101, 32, 111, 117, 116, 32, 111, 102, 32, 114, 97, 110, 103, 101]), ("strconv.ErrSyntax", [105, 110, 118, 97, 108, 105, 100, 32, 115, 121, 110, 116, 97, 120]), ("timbre/api.ErrText", [116, 105, 109, 98, 114, 101, 58, 32, 116, 101, 120, 116]), ("timbre/api.ErrProgram", [116, 105, 109, 98, 114, 101, 58, 32, 112, 114, 111, 103, 114, 97, 109])]
set_option maxRecDepth 100000 in
theorem lf4_of {W : World} {l : List (String × DataW Unit)} (h : laidMetH Tryd.prog l W)
    (he : l.filter (fun x => e16Names.any fun y => y.1 == x.1) = e16Names.map fun x => (x.1, errD x.2)) (hO : Ops W) (ht : Lib.TabIs Tryd.prog W "internal/strconv.uint64pow10" .u64 Lib.pow10Tab) : ∃ al, Lf W al ∧ al.getD 5 ⟨0, 0, none⟩ ≠ al.getD 8 ⟨0, 0, none⟩ := by
  have h1 := h.filter (fun x => e16Names.any fun y => y.1 == x.1)
  rw [he, MakeChecks.laidMetH_plain _ _ _ (by kernel_rfl)] at h1
  obtain ⟨ps, hv, hnd, hr⟩ := h1
  have hs := sentVar e16Names [23, 22, 0, 8] ps (by kernel_rfl) (by decide +kernel) hv hr
  obtain ⟨al, h1, h2, h3⟩ := sents e16Names [23, 22, 0, 8] ps (by kernel_rfl) (by decide +kernel) hv hr
  have hnd' := h3 hnd
  match al, h1, hnd' with
  | [a, b, c, d], h1, hnd' =>
    refine ⟨[c, c, c, c, c, c, c, c, d], ⟨⟨hO, h1.2.2.2.1, ht⟩, h1.2.2.1, hs ("strconv.ErrSyntax", _) (List.mem_cons_of_mem _ List.mem_cons_self), hs ("strconv.ErrRange", _) List.mem_cons_self⟩, ?_⟩
    intro e
    have e' : c = d := e
    simp [e'] at hnd'
set_option maxRecDepth 100000 in
theorem capP16 {H : Type} {enc : TypeId × Value → H} {W : World} {pg : Sp.Pg} {a : Option Addr} {n c : Nat} {d : DataW H} {p : List MemPlace} (h : DataW.Trod enc Tryd.prog W 0 (fun _ => true) true 25 (pv pg (.slice a n c)) d p) : n ≤ c := by
  obtain ⟨fuel, hf⟩ := h
  obtain ⟨xs, n', _, hd, hcl, hxl, hfs⟩ := DataW.trod_struct Tryd.underlying25 hf
  have hxl' : xs.length = 5 := hxl
  match xs, hxl' with
  | [y0, y1, y2, y3, y4], _ =>
    have f4 : DataW.trod enc Tryd.prog W 0 (fun _ => true) true n' 23 [.slice a n c] = some y4 := hfs 4 _ rfl
    rcases open_slice Tryd.underlying23 f4 with ⟨hcs, hx⟩ | ⟨a, len, cap, m, q, D, Pl, hcs, _, hl, hm, hmm, hx, hel⟩
    · cases hcs; exact Nat.le_refl _
    · cases hcs; exact hl
end Go.Proofs.YtlbnldbelfgokaaDoor
/-
  What the bound of the second form gives.
-/
namespace Go.Proofs.YtlbnldbelfgokaaDoor
open Go
theorem bulk_one {H : Type} (d : DataW H) : 1 ≤ Rows.uptoBulk d := by
  cases d with
  | lit l => cases l <;> simp [Rows.uptoBulk]
  | nil => simp [Rows.uptoBulk]
  | ptr d => simp [Rows.uptoBulk]
  | slice elems spare => simp [Rows.uptoBulk]
  | agg parts => simp [Rows.uptoBulk]
  | iface t d => simp [Rows.uptoBulk]
  | map entries => simp [Rows.uptoBulk]
  | held h => simp [Rows.uptoBulk]
theorem bulk_len {H : Type} : ∀ l : List (DataW H), l.length ≤ Rows.uptoBulkAll l
  | [] => by simp [Rows.uptoBulkAll]
  | x :: r => by have := bulk_one x; have := bulk_len r; simp only [Rows.uptoBulkAll, List.length_cons]; omega
theorem bulk_mem {H : Type} {d : DataW H} : ∀ {l : List (DataW H)}, d ∈ l → Rows.uptoBulk d ≤ Rows.uptoBulkAll l
  | [], h => absurd h (by simp)
  | x :: r, h => by
    simp only [Rows.uptoBulkAll]
    rcases List.mem_cons.1 h with e | e
    · subst e; omega
    · have := bulk_mem e; omega
theorem bulk_of {H : Type} {ds : List (DataW H)} {d : DataW H} (hk : Rows.uptoSmall H ds = true) (hm : d ∈ ds) : Rows.uptoBulk d ≤ 1048576 :=
  Nat.le_trans (bulk_mem hm) (of_decide_eq_true hk)
theorem bulk_slice {H : Type} {ds : List (DataW H)} {el sp : List (DataW H)} (hk : Rows.uptoSmall H ds = true) (hm : DataW.slice el sp ∈ ds) : el.length ≤ 1048576 := by
  have h2 := bulk_of hk hm
  have h3 := bulk_len el
  simp only [Rows.uptoBulk] at h2
  omega
end Go.Proofs.YtlbnldbelfgokaaDoor
/-
  For the second form of layer 16 where all sentinels are listed: what reading asks.
-/
namespace Go.Proofs.YtlbnldbelfgokaaDoor
open Flo Go.ChangeShapes Go.WideShapes Go.ChangeAt Go.RowKit Go.Deep
def e2Names : List (String × List UInt8) := [("strconv.ErrRange", [118, 97, 108, 117, 101, 32, 111, 117, 116, 32, 111, 102, 32, 114, 97, 110, 103, 101]), ("strconv.ErrSyntax", [105, 110, 118, 97, 108, 105, 100, 32, 115, 121, 110, 116, 97, 120])]
set_option maxRecDepth 100000 in
theorem lf21_of {W : World} {l : List (String × DataW Unit)} {al : List Addr} (h : laidMetH Tryd.prog l W)
    (he : l.filter (fun x => e2Names.any fun y => y.1 == x.1) = e2Names.map fun x => (x.1, errD x.2)) (hE : Errs W al) (hO : Ops W) (ht : Lib.TabIs Tryd.prog W "internal/strconv.uint64pow10" .u64 Lib.pow10Tab) : Lf W al := by
  have h1 := h.filter (fun x => e2Names.any fun y => y.1 == x.1)
  rw [he, MakeChecks.laidMetH_plain _ _ _ (by kernel_rfl)] at h1
  obtain ⟨ps, hv, hnd, hr⟩ := h1
  have hs := sentVar e2Names [23, 22] ps (by kernel_rfl) (by decide +kernel) hv hr
  have hle := le_of hE hO ht
  obtain ⟨a0, a1, a2, a3, a4, a5, a6, a7, a8, a9, a10, a11, a12, a13, a14, a15, a16, a17, a18, rfl⟩ := hE.len
  obtain ⟨h0, h1, h2, h3, h4, h5, _⟩ := hE.sent
  exact ⟨hle, h5, hs ("strconv.ErrSyntax", _) (List.mem_cons_of_mem _ List.mem_cons_self), hs ("strconv.ErrRange", _) List.mem_cons_self⟩
end Go.Proofs.YtlbnldbelfgokaaDoor
