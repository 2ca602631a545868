/-
  What the rows of layer 16 list, and arguments: a program, a step.
-/
import Derived.Test.YtlbnldbelfgokaaDoorSlx
import Derived.Test.YtlbnldbelfgokaaDoorLaid
import Derived.Test.YtlbnldbelfgokaaDoorVw15
import Derived.Test.YtlbnldbelfgokaaDoorLs4
namespace Go.Proofs.YtlbnldbelfgokaaDoor
open Flo Go.ChangeShapes Go.WideShapes Go.ChangeAt Go.RowKit Go.Deep
theorem errs16_of {W : World} {l : List (String × DataW Unit)} (h : laidMetH Tryd.prog l W)
    (he : l.filter (fun x => errNames.any fun y => y.1 == x.1) = errNames.map fun x => (x.1, errD x.2)) : ∃ al, Errs W al := by
  have h1 := h.filter (fun x => errNames.any fun y => y.1 == x.1)
  rw [he] at h1
  exact errs_of h1
theorem tab16_of {W : World} {l : List (String × DataW Unit)} (h : laidMetH Tryd.prog l W)
    (hf : l.filter (fun x => x.1 == "internal/strconv.uint64pow10") = [("internal/strconv.uint64pow10", Lib.tabData .u64 Lib.pow10Tab)]) : Lib.TabIs Tryd.prog W "internal/strconv.uint64pow10" .u64 Lib.pow10Tab := by
  have h1 := h.filter (fun x => x.1 == "internal/strconv.uint64pow10")
  rw [hf, MakeChecks.laidMetH_plain _ _ _ (by kernel_rfl)] at h1
  exact Lib.tabIs_of_head (g := 21) (by kernel_rfl) (by kernel_rfl) Tryd.underlying122 Tryd.underlying106 (by kernel_rfl) (by kernel_rfl) h1
theorem le_of {W : World} {al : List Addr} (hE : Errs W al) (hO : Ops W) (ht : Lib.TabIs Tryd.prog W "internal/strconv.uint64pow10" .u64 Lib.pow10Tab) : Le W al := by
  obtain ⟨a0, a1, a2, a3, a4, a5, a6, a7, a8, a9, a10, a11, a12, a13, a14, a15, a16, a17, a18, rfl⟩ := hE.len
  obtain ⟨h0, h1, h2, h3, h4, h5, h6, h7, h8, _⟩ := hE.sent
  exact ⟨hO, h8, ht⟩
theorem wf64 {n : Int} (h : (Lit.int .i64 n).wf = true) : Li.In64 n := by
  simp only [Lit.wf, Bool.and_eq_true, decide_eq_true_eq] at h
  exact h
set_option maxRecDepth 100000 in
theorem viewPg16 {H : Type} {enc : TypeId × Value → H} {W : World} {base : Nat} {v : Value} {d : DataW H} {p : List MemPlace} (hv : Value.okWide Tryd.prog W .any base 25 v) (h : DataW.Trod enc Tryd.prog W 0 (fun _ => true) true 25 v d p) (hw : ∀ (l : List (DataW H)) el sp, d = .agg l → l[4]? = some (.slice el sp) → (el.length + sp.length) * 56 ≤ 140737488351232) :
    ∃ (pg : Sp.Pg) (a : Option Addr) (cap : Nat), v = pv pg (.slice a pg.steps.length cap) ∧ (Ss W a pg.steps ∧ (a = none → cap = 0)) ∧ pg.steps.length * 56 ≤ 140737488351232 ∧ Pin pg := by
  obtain ⟨cs, rfl, _⟩ := okWide_struct Tryd.underlying25 hv
  obtain ⟨fuel, hf⟩ := h
  obtain ⟨xs, n', _, hd, hcl, hxl, hfs⟩ := DataW.trod_struct Tryd.underlying25 hf
  have hxl' : xs.length = 5 := hxl
  rw [cellsPg] at hcl
  obtain ⟨l⟩ := cs
  have hcl' : l.length = 5 := by simpa [Value.cells] using hcl
  match l, hcl', xs, hxl' with
  | [x0, x1, x2, x3, x4], _, [y0, y1, y2, y3, y4], _ =>
    have f0 : DataW.trod enc Tryd.prog W 0 (fun _ => true) true n' 3 [x0] = some y0 := hfs 0 _ rfl
    have f1 : DataW.trod enc Tryd.prog W 0 (fun _ => true) true n' 3 [x1] = some y1 := hfs 1 _ rfl
    have f2 : DataW.trod enc Tryd.prog W 0 (fun _ => true) true n' 3 [x2] = some y2 := hfs 2 _ rfl
    have f3 : DataW.trod enc Tryd.prog W 0 (fun _ => true) true n' 3 [x3] = some y3 := hfs 3 _ rfl
    have f4 : DataW.trod enc Tryd.prog W 0 (fun _ => true) true n' 23 [x4] = some y4 := hfs 4 _ rfl
    obtain ⟨k0, e0, _, b0⟩ := DataW.trod_int Tryd.underlying3 f0
    obtain ⟨k1, e1, _, b1⟩ := DataW.trod_int Tryd.underlying3 f1
    obtain ⟨k2, e2, _, b2⟩ := DataW.trod_int Tryd.underlying3 f2
    obtain ⟨k3, e3, _, b3⟩ := DataW.trod_int Tryd.underlying3 f3
    cases e0; cases e1; cases e2; cases e3
    obtain ⟨d4, p4⟩ := y4
    obtain ⟨ss, a, cap, rfl, hS, hb⟩ := viewSl f4 (fun el sp e => hw _ el sp (Prod.mk.inj hd).1 (by rw [← e]; rfl))
    refine ⟨⟨k0, k1, k2, k3, ss⟩, a, cap, rfl, hS, hb, fun x hx => ?_⟩
    simp only [Sp.hd, List.mem_cons, List.not_mem_nil, or_false] at hx
    rcases hx with rfl | rfl | rfl | rfl
    · exact wf64 b0
    · exact wf64 b1
    · exact wf64 b2
    · exact wf64 b3
set_option maxRecDepth 100000 in
theorem viewP16 {H : Type} {enc : TypeId × Value → H} {W : World} {base : Nat} {v : Value} {d : DataW H} {p : List MemPlace} (hv : Value.okWide Tryd.prog W .any base 25 v) (h : DataW.Trod enc Tryd.prog W 0 (fun _ => true) true 25 v d p) (hw : ∀ n ∈ d.weights Tryd.prog 25, n ≤ reachBytes) :
    ∃ (pg : Sp.Pg) (a : Option Addr) (cap : Nat), v = pv pg (.slice a pg.steps.length cap) ∧ (Ss W a pg.steps ∧ (a = none → cap = 0)) ∧ pg.steps.length * 56 ≤ 140737488351232 ∧ Pin pg :=
  viewPg16 hv h fun l el sp e h4 => w_slice (d := .slice el sp) (fun n hn => hw n (by
    rw [e, DataW.weights, Tryd.underlying25]
    exact DataW.weights_mem_each (j := 4) (t := 23) (d := .slice el sp) rfl h4 n hn)) el sp rfl
set_option maxRecDepth 100000 in
theorem viewS16 {H : Type} {enc : TypeId × Value → H} {W : World} {base : Nat} {v : Value} {d : DataW H} {p : List MemPlace} (hv : Value.okWide Tryd.prog W .any base 38 v) (h : DataW.Trod enc Tryd.prog W 0 (fun _ => true) true 38 v d p) :
    ∃ s : Sp.St, v = sv s := by
  obtain ⟨cs, rfl, _⟩ := okWide_struct Tryd.underlying38 hv
  obtain ⟨fuel, hf⟩ := h
  obtain ⟨xs, n', _, hd, hcl, hxl, hfs⟩ := DataW.trod_struct Tryd.underlying38 hf
  have hxl' : xs.length = 7 := hxl
  rw [cellsS] at hcl
  obtain ⟨l⟩ := cs
  have hcl' : l.length = 7 := by simpa [Value.cells] using hcl
  match l, hcl', xs, hxl' with
  | [x0, x1, x2, x3, x4, x5, x6], _, [y0, y1, y2, y3, y4, y5, y6], _ =>
    have f0 : DataW.trod enc Tryd.prog W 0 (fun _ => true) true n' 3 [x0] = some y0 := hfs 0 _ rfl
    have f1 : DataW.trod enc Tryd.prog W 0 (fun _ => true) true n' 3 [x1] = some y1 := hfs 1 _ rfl
    have f2 : DataW.trod enc Tryd.prog W 0 (fun _ => true) true n' 3 [x2] = some y2 := hfs 2 _ rfl
    have f3 : DataW.trod enc Tryd.prog W 0 (fun _ => true) true n' 3 [x3] = some y3 := hfs 3 _ rfl
    have f4 : DataW.trod enc Tryd.prog W 0 (fun _ => true) true n' 3 [x4] = some y4 := hfs 4 _ rfl
    have f5 : DataW.trod enc Tryd.prog W 0 (fun _ => true) true n' 3 [x5] = some y5 := hfs 5 _ rfl
    have f6 : DataW.trod enc Tryd.prog W 0 (fun _ => true) true n' 3 [x6] = some y6 := hfs 6 _ rfl
    obtain ⟨k0, e0, _, _⟩ := DataW.trod_int Tryd.underlying3 f0
    obtain ⟨k1, e1, _, _⟩ := DataW.trod_int Tryd.underlying3 f1
    obtain ⟨k2, e2, _, _⟩ := DataW.trod_int Tryd.underlying3 f2
    obtain ⟨k3, e3, _, _⟩ := DataW.trod_int Tryd.underlying3 f3
    obtain ⟨k4, e4, _, _⟩ := DataW.trod_int Tryd.underlying3 f4
    obtain ⟨k5, e5, _, _⟩ := DataW.trod_int Tryd.underlying3 f5
    obtain ⟨k6, e6, _, _⟩ := DataW.trod_int Tryd.underlying3 f6
    cases e0; cases e1; cases e2; cases e3; cases e4; cases e5; cases e6
    exact ⟨⟨k0, k1, k2, k3, k4, k5, k6⟩, rfl⟩
end Go.Proofs.YtlbnldbelfgokaaDoor
