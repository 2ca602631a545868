/-
  What the rows of layer 15 list: the table of the operations, the sentinels.
-/
import Derived.Test.YtmnbpmmilfkjiaaDoorSr4
import Derived.LaidSub
import Derived.LaidMore
import Derived.ProofKit
import Derived.OpenShut
import Derived.ChangeArms
import Derived.Test.YtmnbpmmilfkjiaaDoorCards
import Derived.SizedLaws
import Derived.Stop.Joined
import Derived.Test.YtmnbpmmilfkjiaaDoorErr
namespace Go.Proofs.YtmnbpmmilfkjiaaDoor
open Go.RowKit
theorem take1 {cs : List Value} {i : Nat} {v : Value} (h : (cs.drop i).take 1 = [v]) : cs[i]? = some v := by
  have := congrArg (·[0]?) h
  simpa [List.getElem?_take, List.getElem?_drop] using this
theorem cells1 : Tryd.prog.cellsOf 9 = 1 ∧ Tryd.prog.cellsOf 4 = 1 ∧ Tryd.prog.cellsOf 3 = 1 := ⟨by kernel_rfl, by kernel_rfl, by kernel_rfl⟩
def rowD {H : Type} (s : List UInt8) (b1 b2 b3 : Bool) (l m : Int) (b4 : Bool) (c : Int) : DataW H := .agg [.lit (.string s), .lit (.bool b1), .lit (.bool b2), .lit (.bool b3), .lit (.int .i64 l), .lit (.int .i64 m), .lit (.bool b4), .lit (.int .i64 c)]
theorem mk_bytes {s : ByteArray} {l : List UInt8} (h : s.data.toList = l) : s = ⟨l.toArray⟩ := by
  obtain ⟨d⟩ := s
  subst h
  simp
section
variable {H : Type} {enc : TypeId × Value → H} {W : World} {base fuel : Nat} {sp : Nat → Bool} {held : Bool}
theorem opRow {cs : List Value} {s : List UInt8} {b1 b2 b3 b4 : Bool} {l m c : Int} {p : List MemPlace}
    (h : DataW.trod enc Tryd.prog W base sp held fuel 75 cs = some (rowD s b1 b2 b3 l m b4 c, p)) :
    cs[0]? = some (.string ⟨s.toArray⟩) ∧ cs[1]? = some (.bool b1) ∧ cs[2]? = some (.bool b2) ∧ cs[3]? = some (.bool b3) ∧ cs[4]? = some (.int .i64 l) ∧ cs[5]? = some (.int .i64 m) ∧ cs[6]? = some (.bool b4) ∧ cs[7]? = some (.int .i64 c) := by
  obtain ⟨xs, n, rfl, hx, hl, hxl, hf⟩ := DataW.trod_struct Tryd.underlying75 h
  obtain ⟨k1, k2, k3⟩ := cells1
  have f0 : DataW.trod enc Tryd.prog W base sp held n 9 ((cs.drop 0).take (Tryd.prog.cellsOf 9)) = xs[0]? := hf 0 _ rfl
  have f1 : DataW.trod enc Tryd.prog W base sp held n 4 ((cs.drop 1).take (Tryd.prog.cellsOf 4)) = xs[1]? := hf 1 _ rfl
  have f2 : DataW.trod enc Tryd.prog W base sp held n 4 ((cs.drop 2).take (Tryd.prog.cellsOf 4)) = xs[2]? := hf 2 _ rfl
  have f3 : DataW.trod enc Tryd.prog W base sp held n 4 ((cs.drop 3).take (Tryd.prog.cellsOf 4)) = xs[3]? := hf 3 _ rfl
  have f4 : DataW.trod enc Tryd.prog W base sp held n 3 ((cs.drop 4).take (Tryd.prog.cellsOf 3)) = xs[4]? := hf 4 _ rfl
  have f5 : DataW.trod enc Tryd.prog W base sp held n 3 ((cs.drop 5).take (Tryd.prog.cellsOf 3)) = xs[5]? := hf 5 _ rfl
  have f6 : DataW.trod enc Tryd.prog W base sp held n 4 ((cs.drop 6).take (Tryd.prog.cellsOf 4)) = xs[6]? := hf 6 _ rfl
  have f7 : DataW.trod enc Tryd.prog W base sp held n 3 ((cs.drop 7).take (Tryd.prog.cellsOf 3)) = xs[7]? := hf 7 _ rfl
  rw [k1] at f0
  rw [k2] at f1 f2 f3 f6
  rw [k3] at f4 f5 f7
  have hm : xs.map (·.1) = [.lit (.string s), .lit (.bool b1), .lit (.bool b2), .lit (.bool b3), .lit (.int .i64 l), .lit (.int .i64 m), .lit (.bool b4), .lit (.int .i64 c)] := by
    have := congrArg Prod.fst hx
    simp only [rowD, DataW.agg.injEq] at this
    exact this.symm
  match xs, hm, f0, f1, f2, f3, f4, f5, f6, f7 with
  | [x0, x1, x2, x3, x4, x5, x6, x7], hm, f0, f1, f2, f3, f4, f5, f6, f7 =>
    simp only [List.map_cons, List.map_nil, List.cons.injEq, and_true] at hm
    obtain ⟨m0, m1, m2, m3, m4, m5, m6, m7⟩ := hm
    obtain ⟨t, c0, e0, _⟩ := DataW.trod_string Tryd.underlying9 (f0.trans rfl)
    obtain ⟨u1, c1, e1⟩ := DataW.trod_bool Tryd.underlying4 (f1.trans rfl)
    obtain ⟨u2, c2, e2⟩ := DataW.trod_bool Tryd.underlying4 (f2.trans rfl)
    obtain ⟨u3, c3, e3⟩ := DataW.trod_bool Tryd.underlying4 (f3.trans rfl)
    obtain ⟨u4, c4, e4, _⟩ := DataW.trod_int Tryd.underlying3 (f4.trans rfl)
    obtain ⟨u5, c5, e5, _⟩ := DataW.trod_int Tryd.underlying3 (f5.trans rfl)
    obtain ⟨u6, c6, e6⟩ := DataW.trod_bool Tryd.underlying4 (f6.trans rfl)
    obtain ⟨u7, c7, e7, _⟩ := DataW.trod_int Tryd.underlying3 (f7.trans rfl)
    subst e0 e1 e2 e3 e4 e5 e6 e7
    simp only [DataW.lit.injEq, Lit.string.injEq, Lit.bool.injEq, Lit.int.injEq, true_and] at m0 m1 m2 m3 m4 m5 m6 m7
    subst m1 m2 m3 m4 m5 m6 m7
    rw [← mk_bytes m0]
    exact ⟨take1 c0, take1 c1, take1 c2, take1 c3, take1 c4, take1 c5, take1 c6, take1 c7⟩
end
/-- the table as the rows list it -/
def opsD {H : Type} : DataW H := .agg ((List.range 12).map fun o => rowD (nmb o).data.toList (Sp.hs o) (Sp.hj o) (Sp.hn o) (Sp.ln o) (Sp.mn o) (Sp.hk o) (Sp.ct o))
theorem ops_cells : Tryd.prog.cellsOf 75 = 8 := by kernel_rfl
theorem ops_of {W : World} {l : List (String × DataW Unit)} (h : laidMetH Tryd.prog l W)
    (hf : l.filter (fun x => x.1 == "timbre/steps.operations") = [("timbre/steps.operations", opsD)]) : Ops W := by
  have h1 := h.filter (fun x => x.1 == "timbre/steps.operations")
  rw [hf, MakeChecks.laidMetH_plain _ _ _ (by kernel_rfl)] at h1
  obtain ⟨ps, ⟨g', t', cs, fuel, p, q, hg', ht', hvar, hd, _, _⟩, _⟩ := h1
  obtain rfl : 19 = g' := Option.some.inj ((show Tryd.prog.globalNamed "timbre/steps.operations" = some 19 by kernel_rfl).symm.trans hg')
  obtain rfl : 88 = t' := Option.some.inj ((show (Tryd.prog.globals[(19 : Nat)]?).map (·.type) = some 88 by kernel_rfl).symm.trans ht')
  obtain ⟨xs, m, rfl, hx, hl, hxl, hi⟩ := DataW.trod_array Tryd.underlying88 hd
  have hc : ∀ i, W.cell? ⟨19, i, none⟩ = cs.toList[i]? := fun i => by simpa using World.var?_cell hg' hvar i
  have hm : xs.map (·.1) = (List.range 12).map fun o => rowD (H := Unit) (nmb o).data.toList (Sp.hs o) (Sp.hj o) (Sp.hn o) (Sp.ln o) (Sp.mn o) (Sp.hk o) (Sp.ct o) := by
    have := congrArg Prod.fst hx
    simp only [opsD, DataW.agg.injEq] at this
    exact this.symm
  intro o ho
  have h2 := hi o ho
  rw [ops_cells] at h2
  obtain ⟨x, hxo⟩ : ∃ x, xs[o]? = some x := ⟨_, List.getElem?_eq_getElem (by rw [hxl]; exact ho)⟩
  have h3 : x.1 = rowD (nmb o).data.toList (Sp.hs o) (Sp.hj o) (Sp.hn o) (Sp.ln o) (Sp.mn o) (Sp.hk o) (Sp.ct o) := by
    have h4 := congrArg (·[o]?) hm
    simp only [List.getElem?_map, hxo, Option.map_some, List.getElem?_range ho] at h4
    exact Option.some.inj h4
  rw [hxo] at h2
  obtain ⟨x1, x2⟩ := x
  simp only at h3
  subst h3
  obtain ⟨r0, r1, r2, r3, r4, r5, r6, r7⟩ := opRow h2
  have hg : ∀ j, j < 8 → ((cs.toList.drop (o * 8)).take 8)[j]? = cs.toList[o * 8 + j]? := fun j hj => by rw [List.getElem?_take, if_pos hj, List.getElem?_drop]
  rw [hg _ (by decide)] at r0 r1 r2 r3 r4 r5 r6 r7
  refine ⟨(hc _).trans ?_, (hc _).trans r1, (hc _).trans r2, (hc _).trans r3, (hc _).trans r4, (hc _).trans r5, (hc _).trans r6, (hc _).trans r7⟩
  rw [Nat.add_zero] at r0
  rw [r0]
def e4Names : List (String × List UInt8) := [("timbre/api.ErrShort", [116, 105, 109, 98, 114, 101, 58, 32, 116, 111, 111, 32, 115, 104, 111, 114, 116]), ("timbre/api.ErrVarint", [116, 105, 109, 98, 114, 101, 58, 32, 118, 97, 114, 105, 110, 116]), ("timbre/api.ErrLimit", [116, 105, 109, 98, 114, 101, 58, 32, 108, 105, 109, 105, 116]), ("timbre/api.ErrTail", [116, 105, 109, 98, 114, 101, 58, 32, 116, 97, 105, 108]), ("timbre/api.ErrProgram", [116, 105, 109, 98, 114, 101, 58, 32, 112, 114, 111, 103, 114, 97, 109])]
theorem e4five_of {W : World} {l : List (String × DataW Unit)} (h : laidMetH Tryd.prog l W)
    (he : l.filter (fun x => !(x.1 == "timbre/steps.operations")) = e4Names.map fun x => (x.1, errD x.2)) : ∃ al, E4 W al := by
  have h1 := h.filter (fun x => !(x.1 == "timbre/steps.operations"))
  rw [he, MakeChecks.laidMetH_plain _ _ _ (by kernel_rfl)] at h1
  obtain ⟨ps, hv, hnd, hr⟩ := h1
  obtain ⟨al, h1, h2, h3⟩ := sents e4Names [1, 2, 3, 4, 0] ps (by kernel_rfl) (by decide +kernel) hv hr
  match al, h1 with
  | [a, b, c, d, e], h1 => exact ⟨[a, b, c, d, e, e, e, e, e], h1.1, h1.2.1, h1.2.2.1, h1.2.2.2.1, h1.2.2.2.2.1⟩
end Go.Proofs.YtmnbpmmilfkjiaaDoor
/-
  What every card on slices that came in wants.
-/
namespace Go.Proofs.YtmnbpmmilfkjiaaDoor
open Go.ChangeShapes Go.WideShapes Go.ChangeAt Go.RowKit
theorem cellsI : Tryd.prog.cellsOf 3 = 1 := by kernel_rfl
theorem bytesI : Tryd.prog.bytesOf 3 = 8 := by kernel_rfl
theorem laidOut : laidOutB Tryd.prog = true := by kernel_rfl
theorem ownK : ownKnob Tryd.prog.godebug = none := by kernel_rfl
theorem spotN {w : World} {a : Addr} {v : Value} (h : w.cell? a = some v) : a.spot = none := by
  unfold World.cell? at h
  split at h
  · split at h
    · cases h
    · rename_i hs; simpa using hs
  · cases h
end Go.Proofs.YtmnbpmmilfkjiaaDoor
/-
  From what the rows list (the nineteen sentinels read as their texts lay them) to what the walks ask: 'Errs'.
-/
namespace Go.Proofs.YtmnbpmmilfkjiaaDoor
open Go.RowKit
def errNames : List (String × List UInt8) := [("timbre/api.ErrShort", [116, 105, 109, 98, 114, 101, 58, 32, 116, 111, 111, 32, 115, 104, 111, 114, 116]), ("timbre/api.ErrVarint", [116, 105, 109, 98, 114, 101, 58, 32, 118, 97, 114, 105, 110, 116]), ("timbre/api.ErrLimit", [116, 105, 109, 98, 114, 101, 58, 32, 108, 105, 109, 105, 116]), ("timbre/api.ErrTail", [116, 105, 109, 98, 114, 101, 58, 32, 116, 97, 105, 108]), ("timbre/api.ErrRange", [116, 105, 109, 98, 114, 101, 58, 32, 114, 97, 110, 103, 101]), ("timbre/api.ErrText", [116, 105, 109, 98, 114, 101, 58, 32, 116, 101, 120, 116]), ("timbre/api.ErrLength", [116, 105, 109, 98, 114, 101, 58, 32, 108, 101, 110, 103, 116, 104]), ("timbre/api.ErrOrder", [116, 105, 109, 98, 114, 101, 58, 32, 111, 114, 100, 101, 114]), ("timbre/api.ErrProgram", [116, 105, 109, 98, 114, 101, 58, 32, 112, 114, 111, 103, 114, 97, 109]), ("timbre/api.ErrState", [116, 105, 109, 98, 114, 101, 58, 32, 115, 116, 97, 116, 101]), ("timbre/api.ErrRoot", [116, 105, 109, 98, 114, 101, 58, 32, 114, 111, 111, 116]), ("timbre/api.ErrPerm", [116, 105, 109, 98, 114, 101, 58, 32, 112, 101, 114, 109, 117, 116, 97, 116, 105, 111, 110]), ("timbre/api.ErrNumber", [116, 105, 109, 98, 114, 101, 58, 32, 110, 117, 109, 98, 101, 114]), ("timbre/api.ErrWorkers", [116, 105, 109, 98, 114, 101, 58, 32, 119, 111, 114, 107, 101, 114, 115]), ("timbre/api.ErrDone", [116, 105, 109, 98, 114, 101, 58, 32, 100, 111, 110, 101]), ("timbre/api.ErrUnknown", [116, 105, 109, 98, 114, 101, 58, 32, 117, 110, 107, 110, 111, 119, 110]), ("timbre/api.ErrMode", [116, 105, 109, 98, 114, 101, 58, 32, 109, 111, 100, 101]), ("timbre/api.ErrCommand", [116, 105, 109, 98, 114, 101, 58, 32, 99, 111, 109, 109, 97, 110, 100]), ("timbre/api.ErrExact", [116, 105, 109, 98, 114, 101, 58, 32, 101, 120, 97, 99, 116])]
theorem errs_of {W : World} (h : laidMetH Tryd.prog (errNames.map fun x => (x.1, errD x.2)) W) : ∃ al, Errs W al := by
  rw [MakeChecks.laidMetH_plain _ _ _ (by kernel_rfl)] at h
  obtain ⟨ps, hv, hnd, hr⟩ := h
  obtain ⟨al, h1, h2, h3⟩ := sents errNames [1, 2, 3, 4, 5, 6, 7, 8, 0, 9, 10, 11, 12, 13, 14, 15, 16, 17, 18] ps (by kernel_rfl) (by decide +kernel) hv hr
  exact ⟨al, h1, h3 hnd, fun a ha => (hr _ _ (h2 a ha)).1⟩
end Go.Proofs.YtmnbpmmilfkjiaaDoor
/-
  The nineteen sentinels beside the table of the operations.
-/
namespace Go.Proofs.YtmnbpmmilfkjiaaDoor
open Go.RowKit
theorem errs19_of {W : World} {l : List (String × DataW Unit)} (h : laidMetH Tryd.prog l W)
    (he : l.filter (fun x => !(x.1 == "timbre/steps.operations")) = errNames.map fun x => (x.1, errD x.2)) : ∃ al, Errs W al := by
  have h1 := h.filter (fun x => !(x.1 == "timbre/steps.operations"))
  rw [he] at h1
  exact errs_of h1
theorem e4_errs {W : World} {al : List Addr} (h : Errs W al) : E4 W al := by
  obtain ⟨a0, a1, a2, a3, a4, a5, a6, a7, a8, a9, a10, a11, a12, a13, a14, a15, a16, a17, a18, rfl⟩ := h.len
  obtain ⟨h0, h1, h2, h3, _, _, _, _, h8, _⟩ := h.sent
  exact ⟨h0, h1, h2, h3, h8⟩
end Go.Proofs.YtmnbpmmilfkjiaaDoor
