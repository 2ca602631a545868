/-
  What the rows of layer 15 list: the table of the operations, the sentinels.
-/
import Derived.Test.YtlbnldbelfgokaaDoorSr4
import Derived.LaidSub
import Derived.LaidMore
import Derived.ProofKit
import Derived.OpenShut
import Derived.ChangeArms
namespace Go.Proofs.YtlbnldbelfgokaaDoor
open Go.RowKit
theorem take1 {cs : List Value} {i : Nat} {v : Value} (h : (cs.drop i).take 1 = [v]) : cs[i]? = some v := by
  have := congrArg (·[0]?) h
  simpa [List.getElem?_take, List.getElem?_drop] using this
theorem cells1 : Tryd.prog.cellsOf 9 = 1 ∧ Tryd.prog.cellsOf 4 = 1 ∧ Tryd.prog.cellsOf 3 = 1 := ⟨by kernel_rfl, by kernel_rfl, by kernel_rfl⟩
def rowD {H : Type} (s : List UInt8) (b1 b2 b3 : Bool) (l m : Int) (b4 : Bool) (c : Int) : DataW H := .agg [.lit (.string s), .lit (.bool b1), .lit (.bool b2), .lit (.bool b3), .lit (.int .i64 l), .lit (.int .i64 m), .lit (.bool b4), .lit (.int .i64 c)]
theorem mk_bytes {s : ByteArray} {l : List UInt8} (h : s.data.toList = l) : s = ⟨l.toArray⟩ := by
  obtain ⟨d⟩ := s
  subst h
  simp
section
variable {H : Type} {enc : TypeId × Value → H} {W : World} {base fuel : Nat} {sp : Nat → Bool} {held : Bool}
theorem opRow {cs : List Value} {s : List UInt8} {b1 b2 b3 b4 : Bool} {l m c : Int} {p : List MemPlace}
    (h : DataW.trod enc Tryd.prog W base sp held fuel 92 cs = some (rowD s b1 b2 b3 l m b4 c, p)) :
    cs[0]? = some (.string ⟨s.toArray⟩) ∧ cs[1]? = some (.bool b1) ∧ cs[2]? = some (.bool b2) ∧ cs[3]? = some (.bool b3) ∧ cs[4]? = some (.int .i64 l) ∧ cs[5]? = some (.int .i64 m) ∧ cs[6]? = some (.bool b4) ∧ cs[7]? = some (.int .i64 c) := by
  obtain ⟨xs, n, rfl, hx, hl, hxl, hf⟩ := DataW.trod_struct Tryd.underlying92 h
  obtain ⟨k1, k2, k3⟩ := cells1
  have f0 : DataW.trod enc Tryd.prog W base sp held n 9 ((cs.drop 0).take (Tryd.prog.cellsOf 9)) = xs[0]? := hf 0 _ rfl
  have f1 : DataW.trod enc Tryd.prog W base sp held n 4 ((cs.drop 1).take (Tryd.prog.cellsOf 4)) = xs[1]? := hf 1 _ rfl
  have f2 : DataW.trod enc Tryd.prog W base sp held n 4 ((cs.drop 2).take (Tryd.prog.cellsOf 4)) = xs[2]? := hf 2 _ rfl
  have f3 : DataW.trod enc Tryd.prog W base sp held n 4 ((cs.drop 3).take (Tryd.prog.cellsOf 4)) = xs[3]? := hf 3 _ rfl
  have f4 : DataW.trod enc Tryd.prog W base sp held n 3 ((cs.drop 4).take (Tryd.prog.cellsOf 3)) = xs[4]? := hf 4 _ rfl
  have f5 : DataW.trod enc Tryd.prog W base sp held n 3 ((cs.drop 5).take (Tryd.prog.cellsOf 3)) = xs[5]? := hf 5 _ rfl
  have f6 : DataW.trod enc Tryd.prog W base sp held n 4 ((cs.drop 6).take (Tryd.prog.cellsOf 4)) = xs[6]? := hf 6 _ rfl
  have f7 : DataW.trod enc Tryd.prog W base sp held n 3 ((cs.drop 7).take (Tryd.prog.cellsOf 3)) = xs[7]? := hf 7 _ rfl
  rw [k1] at f0
  rw [k2] at f1 f2 f3 f6
  rw [k3] at f4 f5 f7
  have hm : xs.map (·.1) = [.lit (.string s), .lit (.bool b1), .lit (.bool b2), .lit (.bool b3), .lit (.int .i64 l), .lit (.int .i64 m), .lit (.bool b4), .lit (.int .i64 c)] := by
    have := congrArg Prod.fst hx
    simp only [rowD, DataW.agg.injEq] at this
    exact this.symm
  match xs, hm, f0, f1, f2, f3, f4, f5, f6, f7 with
  | [x0, x1, x2, x3, x4, x5, x6, x7], hm, f0, f1, f2, f3, f4, f5, f6, f7 =>
    simp only [List.map_cons, List.map_nil, List.cons.injEq, and_true] at hm
    obtain ⟨m0, m1, m2, m3, m4, m5, m6, m7⟩ := hm
    obtain ⟨t, c0, e0, _⟩ := DataW.trod_string Tryd.underlying9 (f0.trans rfl)
    obtain ⟨u1, c1, e1⟩ := DataW.trod_bool Tryd.underlying4 (f1.trans rfl)
    obtain ⟨u2, c2, e2⟩ := DataW.trod_bool Tryd.underlying4 (f2.trans rfl)
    obtain ⟨u3, c3, e3⟩ := DataW.trod_bool Tryd.underlying4 (f3.trans rfl)
    obtain ⟨u4, c4, e4, _⟩ := DataW.trod_int Tryd.underlying3 (f4.trans rfl)
    obtain ⟨u5, c5, e5, _⟩ := DataW.trod_int Tryd.underlying3 (f5.trans rfl)
    obtain ⟨u6, c6, e6⟩ := DataW.trod_bool Tryd.underlying4 (f6.trans rfl)
    obtain ⟨u7, c7, e7, _⟩ := DataW.trod_int Tryd.underlying3 (f7.trans rfl)
    subst e0 e1 e2 e3 e4 e5 e6 e7
    simp only [DataW.lit.injEq, Lit.string.injEq, Lit.bool.injEq, Lit.int.injEq, true_and] at m0 m1 m2 m3 m4 m5 m6 m7
    subst m1 m2 m3 m4 m5 m6 m7
    rw [← mk_bytes m0]
    exact ⟨take1 c0, take1 c1, take1 c2, take1 c3, take1 c4, take1 c5, take1 c6, take1 c7⟩
end
/-- the table as the rows list it -/
def opsD {H : Type} : DataW H := .agg ((List.range 12).map fun o => rowD (nmb o).data.toList (Sp.hs o) (Sp.hj o) (Sp.hn o) (Sp.ln o) (Sp.mn o) (Sp.hk o) (Sp.ct o))
theorem ops_cells : Tryd.prog.cellsOf 92 = 8 := by kernel_rfl
theorem ops_of {W : World} {l : List (String × DataW Unit)} (h : laidMetH Tryd.prog l W)
    (hf : l.filter (fun x => x.1 == "timbre/steps.operations") = [("timbre/steps.operations", opsD)]) : Ops W := by
  have h1 := h.filter (fun x => x.1 == "timbre/steps.operations")
  rw [hf, MakeChecks.laidMetH_plain _ _ _ (by kernel_rfl)] at h1
  obtain ⟨ps, ⟨g', t', cs, fuel, p, q, hg', ht', hvar, hd, _, _⟩, _⟩ := h1
  obtain rfl : 19 = g' := Option.some.inj ((show Tryd.prog.globalNamed "timbre/steps.operations" = some 19 by kernel_rfl).symm.trans hg')
  obtain rfl : 93 = t' := Option.some.inj ((show (Tryd.prog.globals[(19 : Nat)]?).map (·.type) = some 93 by kernel_rfl).symm.trans ht')
  obtain ⟨xs, m, rfl, hx, hl, hxl, hi⟩ := DataW.trod_array Tryd.underlying93 hd
  have hc : ∀ i, W.cell? ⟨19, i, none⟩ = cs.toList[i]? := fun i => by simpa using World.var?_cell hg' hvar i
  have hm : xs.map (·.1) = (List.range 12).map fun o => rowD (H := Unit) (nmb o).data.toList (Sp.hs o) (Sp.hj o) (Sp.hn o) (Sp.ln o) (Sp.mn o) (Sp.hk o) (Sp.ct o) := by
    have := congrArg Prod.fst hx
    simp only [opsD, DataW.agg.injEq] at this
    exact this.symm
  intro o ho
  have h2 := hi o ho
  rw [ops_cells] at h2
  obtain ⟨x, hxo⟩ : ∃ x, xs[o]? = some x := ⟨_, List.getElem?_eq_getElem (by rw [hxl]; exact ho)⟩
  have h3 : x.1 = rowD (nmb o).data.toList (Sp.hs o) (Sp.hj o) (Sp.hn o) (Sp.ln o) (Sp.mn o) (Sp.hk o) (Sp.ct o) := by
    have h4 := congrArg (·[o]?) hm
    simp only [List.getElem?_map, hxo, Option.map_some, List.getElem?_range ho] at h4
    exact Option.some.inj h4
  rw [hxo] at h2
  obtain ⟨x1, x2⟩ := x
  simp only at h3
  subst h3
  obtain ⟨r0, r1, r2, r3, r4, r5, r6, r7⟩ := opRow h2
  have hg : ∀ j, j < 8 → ((cs.toList.drop (o * 8)).take 8)[j]? = cs.toList[o * 8 + j]? := fun j hj => by rw [List.getElem?_take, if_pos hj, List.getElem?_drop]
  rw [hg _ (by decide)] at r0 r1 r2 r3 r4 r5 r6 r7
  refine ⟨(hc _).trans ?_, (hc _).trans r1, (hc _).trans r2, (hc _).trans r3, (hc _).trans r4, (hc _).trans r5, (hc _).trans r6, (hc _).trans r7⟩
  rw [Nat.add_zero] at r0
  rw [r0]
def e4Names : List (String × List UInt8) := [("timbre/api.ErrShort", [116, 105, 109, 98, 114, 101, 58, 32, 116, 111, 111, 32, 115, 104, 111, 114, 116]), ("timbre/api.ErrVarint", [116, 105, 109, 98, 114, 101, 58, 32, 118, 97, 114, 105, 110, 116]), ("timbre/api.ErrLimit", [116, 105, 109, 98, 114, 101, 58, 32, 108, 105, 109, 105, 116]), ("timbre/api.ErrTail", [116, 105, 109, 98, 114, 101, 58, 32, 116, 97, 105, 108]), ("timbre/api.ErrProgram", [116, 105, 109, 98, 114, 101, 58, 32, 112, 114, 111, 103, 114, 97, 109])]
theorem e4five_of {W : World} {l : List (String × DataW Unit)} (h : laidMetH Tryd.prog l W)
    (he : l.filter (fun x => !(x.1 == "timbre/steps.operations")) = e4Names.map fun x => (x.1, errD x.2)) : ∃ al, E4 W al := by
  have h1 := h.filter (fun x => !(x.1 == "timbre/steps.operations"))
  rw [he, MakeChecks.laidMetH_plain _ _ _ (by kernel_rfl)] at h1
  obtain ⟨ps, hv, hnd, hr⟩ := h1
  obtain ⟨al, h1, h2, h3⟩ := sents e4Names [1, 2, 3, 4, 8] ps (by kernel_rfl) (by decide +kernel) hv hr
  match al, h1 with
  | [a, b, c, d, e], h1 => exact ⟨[a, b, c, d, e, e, e, e, e], h1.1, h1.2.1, h1.2.2.1, h1.2.2.2.1, h1.2.2.2.2.1⟩
end Go.Proofs.YtlbnldbelfgokaaDoor
