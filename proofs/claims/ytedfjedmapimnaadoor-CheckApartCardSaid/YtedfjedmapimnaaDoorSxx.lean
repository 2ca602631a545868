/-
  Package steps, reading: Decode.
-/
import Derived.Test.YtedfjedmapimnaaDoorSr3
import Derived.LaidSub
import Derived.LaidMore
import Derived.ProofKit
import Derived.OpenShut
import Derived.ChangeArms
import Derived.Test.YtedfjedmapimnaaDoorCards
import Derived.SizedLaws
import Derived.Stop.Joined
import Derived.Deep.Slices
import Derived.Test.YtedfjedmapimnaaDoorErr
namespace Go.Proofs.YtedfjedmapimnaaDoor
open Flo Go.RowKit
/-- what Decode tells -/
def DcE (al : List Addr) (bs : List Nat) (w : World) (e : Ending) (w' : World) : Prop :=
  Below w.heap.size w w' ∧ ((Sp.rw_ bs = none ∧ e = .returned (.tuple #[zp, ek al 8])) ∨
    ∃ (p : Sp.Pg) (v : Value), Sp.rw_ bs = some p ∧ e = .returned (.tuple #[pv p v, .nilIface]) ∧ OwS w' w.heap.size v p.steps)
theorem rw_n1 {bs : List Nat} (h : Sp.rp bs = none) : Sp.rw_ bs = none := by unfold Sp.rw_; rw [h]; rfl
theorem rw_n2 {bs : List Nat} {p : Sp.Pg} {j : Nat} (h : Sp.rp bs = some (p, j)) (hj : ¬ j = bs.length) : Sp.rw_ bs = none := by unfold Sp.rw_; rw [h, Option.bind_some]; simp only; rw [if_neg hj]
theorem rw_s {bs : List Nat} {p : Sp.Pg} {j : Nat} (h : Sp.rp bs = some (p, j)) (hj : j = bs.length) : Sp.rw_ bs = some p := by unfold Sp.rw_; rw [h, Option.bind_some]; simp only; rw [if_pos hj]
theorem ng_new {w : World} {al : List Addr} {g : Nat} (he : E4 w al) (hO : Ops w) (hg : w.heap.size ≤ g) : Ng g := by
  have h0 := cell_lt (hO 0 (by decide)).1
  have h1 := cell_lt he.prog
  have h2 := cell_lt he.short
  have h3 := cell_lt he.varint
  have h4 := cell_lt he.limit
  have h5 := cell_lt he.tail
  simp only at h0 h1 h2 h3 h4 h5
  refine ⟨?_, ?_, ?_, ?_, ?_, ?_⟩ <;> omega
end Go.Proofs.YtedfjedmapimnaaDoor
/-
  What the rows of layer 15 list: the table of the operations, the sentinels.
-/
namespace Go.Proofs.YtedfjedmapimnaaDoor
open Go.RowKit
theorem take1 {cs : List Value} {i : Nat} {v : Value} (h : (cs.drop i).take 1 = [v]) : cs[i]? = some v := by
  have := congrArg (·[0]?) h
  simpa [List.getElem?_take, List.getElem?_drop] using this
theorem cells1 : Tryd.prog.cellsOf 9 = 1 ∧ Tryd.prog.cellsOf 4 = 1 ∧ Tryd.prog.cellsOf 3 = 1 := ⟨by kernel_rfl, by kernel_rfl, by kernel_rfl⟩
def rowD {H : Type} (s : List UInt8) (b1 b2 b3 : Bool) (l m : Int) (b4 : Bool) (c : Int) : DataW H := .agg [.lit (.string s), .lit (.bool b1), .lit (.bool b2), .lit (.bool b3), .lit (.int .i64 l), .lit (.int .i64 m), .lit (.bool b4), .lit (.int .i64 c)]
theorem mk_bytes {s : ByteArray} {l : List UInt8} (h : s.data.toList = l) : s = ⟨l.toArray⟩ := by
  obtain ⟨d⟩ := s
  subst h
  simp
section
variable {H : Type} {enc : TypeId × Value → H} {W : World} {base fuel : Nat} {sp : Nat → Bool} {held : Bool}
theorem opRow {cs : List Value} {s : List UInt8} {b1 b2 b3 b4 : Bool} {l m c : Int} {p : List MemPlace}
    (h : DataW.trod enc Tryd.prog W base sp held fuel 68 cs = some (rowD s b1 b2 b3 l m b4 c, p)) :
    cs[0]? = some (.string ⟨s.toArray⟩) ∧ cs[1]? = some (.bool b1) ∧ cs[2]? = some (.bool b2) ∧ cs[3]? = some (.bool b3) ∧ cs[4]? = some (.int .i64 l) ∧ cs[5]? = some (.int .i64 m) ∧ cs[6]? = some (.bool b4) ∧ cs[7]? = some (.int .i64 c) := by
  obtain ⟨xs, n, rfl, hx, hl, hxl, hf⟩ := DataW.trod_struct Tryd.underlying68 h
  obtain ⟨k1, k2, k3⟩ := cells1
  have f0 : DataW.trod enc Tryd.prog W base sp held n 9 ((cs.drop 0).take (Tryd.prog.cellsOf 9)) = xs[0]? := hf 0 _ rfl
  have f1 : DataW.trod enc Tryd.prog W base sp held n 4 ((cs.drop 1).take (Tryd.prog.cellsOf 4)) = xs[1]? := hf 1 _ rfl
  have f2 : DataW.trod enc Tryd.prog W base sp held n 4 ((cs.drop 2).take (Tryd.prog.cellsOf 4)) = xs[2]? := hf 2 _ rfl
  have f3 : DataW.trod enc Tryd.prog W base sp held n 4 ((cs.drop 3).take (Tryd.prog.cellsOf 4)) = xs[3]? := hf 3 _ rfl
  have f4 : DataW.trod enc Tryd.prog W base sp held n 3 ((cs.drop 4).take (Tryd.prog.cellsOf 3)) = xs[4]? := hf 4 _ rfl
  have f5 : DataW.trod enc Tryd.prog W base sp held n 3 ((cs.drop 5).take (Tryd.prog.cellsOf 3)) = xs[5]? := hf 5 _ rfl
  have f6 : DataW.trod enc Tryd.prog W base sp held n 4 ((cs.drop 6).take (Tryd.prog.cellsOf 4)) = xs[6]? := hf 6 _ rfl
  have f7 : DataW.trod enc Tryd.prog W base sp held n 3 ((cs.drop 7).take (Tryd.prog.cellsOf 3)) = xs[7]? := hf 7 _ rfl
  rw [k1] at f0
  rw [k2] at f1 f2 f3 f6
  rw [k3] at f4 f5 f7
  have hm : xs.map (·.1) = [.lit (.string s), .lit (.bool b1), .lit (.bool b2), .lit (.bool b3), .lit (.int .i64 l), .lit (.int .i64 m), .lit (.bool b4), .lit (.int .i64 c)] := by
    have := congrArg Prod.fst hx
    simp only [rowD, DataW.agg.injEq] at this
    exact this.symm
  match xs, hm, f0, f1, f2, f3, f4, f5, f6, f7 with
  | [x0, x1, x2, x3, x4, x5, x6, x7], hm, f0, f1, f2, f3, f4, f5, f6, f7 =>
    simp only [List.map_cons, List.map_nil, List.cons.injEq, and_true] at hm
    obtain ⟨m0, m1, m2, m3, m4, m5, m6, m7⟩ := hm
    obtain ⟨t, c0, e0, _⟩ := DataW.trod_string Tryd.underlying9 (f0.trans rfl)
    obtain ⟨u1, c1, e1⟩ := DataW.trod_bool Tryd.underlying4 (f1.trans rfl)
    obtain ⟨u2, c2, e2⟩ := DataW.trod_bool Tryd.underlying4 (f2.trans rfl)
    obtain ⟨u3, c3, e3⟩ := DataW.trod_bool Tryd.underlying4 (f3.trans rfl)
    obtain ⟨u4, c4, e4, _⟩ := DataW.trod_int Tryd.underlying3 (f4.trans rfl)
    obtain ⟨u5, c5, e5, _⟩ := DataW.trod_int Tryd.underlying3 (f5.trans rfl)
    obtain ⟨u6, c6, e6⟩ := DataW.trod_bool Tryd.underlying4 (f6.trans rfl)
    obtain ⟨u7, c7, e7, _⟩ := DataW.trod_int Tryd.underlying3 (f7.trans rfl)
    subst e0 e1 e2 e3 e4 e5 e6 e7
    simp only [DataW.lit.injEq, Lit.string.injEq, Lit.bool.injEq, Lit.int.injEq, true_and] at m0 m1 m2 m3 m4 m5 m6 m7
    subst m1 m2 m3 m4 m5 m6 m7
    rw [← mk_bytes m0]
    exact ⟨take1 c0, take1 c1, take1 c2, take1 c3, take1 c4, take1 c5, take1 c6, take1 c7⟩
end
/-- the table as the rows list it -/
def opsD {H : Type} : DataW H := .agg ((List.range 12).map fun o => rowD (nmb o).data.toList (Sp.hs o) (Sp.hj o) (Sp.hn o) (Sp.ln o) (Sp.mn o) (Sp.hk o) (Sp.ct o))
theorem ops_cells : Tryd.prog.cellsOf 68 = 8 := by kernel_rfl
theorem ops_of {W : World} {l : List (String × DataW Unit)} (h : laidMetH Tryd.prog l W)
    (hf : l.filter (fun x => x.1 == "timbre/steps.operations") = [("timbre/steps.operations", opsD)]) : Ops W := by
  have h1 := h.filter (fun x => x.1 == "timbre/steps.operations")
  rw [hf, MakeChecks.laidMetH_plain _ _ _ (by kernel_rfl)] at h1
  obtain ⟨ps, ⟨g', t', cs, fuel, p, q, hg', ht', hvar, hd, _, _⟩, _⟩ := h1
  obtain rfl : 19 = g' := Option.some.inj ((show Tryd.prog.globalNamed "timbre/steps.operations" = some 19 by kernel_rfl).symm.trans hg')
  obtain rfl : 81 = t' := Option.some.inj ((show (Tryd.prog.globals[(19 : Nat)]?).map (·.type) = some 81 by kernel_rfl).symm.trans ht')
  obtain ⟨xs, m, rfl, hx, hl, hxl, hi⟩ := DataW.trod_array Tryd.underlying81 hd
  have hc : ∀ i, W.cell? ⟨19, i, none⟩ = cs.toList[i]? := fun i => by simpa using World.var?_cell hg' hvar i
  have hm : xs.map (·.1) = (List.range 12).map fun o => rowD (H := Unit) (nmb o).data.toList (Sp.hs o) (Sp.hj o) (Sp.hn o) (Sp.ln o) (Sp.mn o) (Sp.hk o) (Sp.ct o) := by
    have := congrArg Prod.fst hx
    simp only [opsD, DataW.agg.injEq] at this
    exact this.symm
  intro o ho
  have h2 := hi o ho
  rw [ops_cells] at h2
  obtain ⟨x, hxo⟩ : ∃ x, xs[o]? = some x := ⟨_, List.getElem?_eq_getElem (by rw [hxl]; exact ho)⟩
  have h3 : x.1 = rowD (nmb o).data.toList (Sp.hs o) (Sp.hj o) (Sp.hn o) (Sp.ln o) (Sp.mn o) (Sp.hk o) (Sp.ct o) := by
    have h4 := congrArg (·[o]?) hm
    simp only [List.getElem?_map, hxo, Option.map_some, List.getElem?_range ho] at h4
    exact Option.some.inj h4
  rw [hxo] at h2
  obtain ⟨x1, x2⟩ := x
  simp only at h3
  subst h3
  obtain ⟨r0, r1, r2, r3, r4, r5, r6, r7⟩ := opRow h2
  have hg : ∀ j, j < 8 → ((cs.toList.drop (o * 8)).take 8)[j]? = cs.toList[o * 8 + j]? := fun j hj => by rw [List.getElem?_take, if_pos hj, List.getElem?_drop]
  rw [hg _ (by decide)] at r0 r1 r2 r3 r4 r5 r6 r7
  refine ⟨(hc _).trans ?_, (hc _).trans r1, (hc _).trans r2, (hc _).trans r3, (hc _).trans r4, (hc _).trans r5, (hc _).trans r6, (hc _).trans r7⟩
  rw [Nat.add_zero] at r0
  rw [r0]
def e4Names : List (String × List UInt8) := [("timbre/api.ErrShort", [116, 105, 109, 98, 114, 101, 58, 32, 116, 111, 111, 32, 115, 104, 111, 114, 116]), ("timbre/api.ErrVarint", [116, 105, 109, 98, 114, 101, 58, 32, 118, 97, 114, 105, 110, 116]), ("timbre/api.ErrLimit", [116, 105, 109, 98, 114, 101, 58, 32, 108, 105, 109, 105, 116]), ("timbre/api.ErrTail", [116, 105, 109, 98, 114, 101, 58, 32, 116, 97, 105, 108]), ("timbre/api.ErrProgram", [116, 105, 109, 98, 114, 101, 58, 32, 112, 114, 111, 103, 114, 97, 109])]
theorem e4five_of {W : World} {l : List (String × DataW Unit)} (h : laidMetH Tryd.prog l W)
    (he : l.filter (fun x => !(x.1 == "timbre/steps.operations")) = e4Names.map fun x => (x.1, errD x.2)) : ∃ al, E4 W al := by
  have h1 := h.filter (fun x => !(x.1 == "timbre/steps.operations"))
  rw [he, MakeChecks.laidMetH_plain _ _ _ (by kernel_rfl)] at h1
  obtain ⟨ps, hv, hnd, hr⟩ := h1
  obtain ⟨al, h1, h2, h3⟩ := sents e4Names [1, 2, 3, 4, 0] ps (by kernel_rfl) (by decide +kernel) hv hr
  match al, h1 with
  | [a, b, c, d, e], h1 => exact ⟨[a, b, c, d, e, e, e, e, e], h1.1, h1.2.1, h1.2.2.1, h1.2.2.2.1, h1.2.2.2.2.1⟩
end Go.Proofs.YtedfjedmapimnaaDoor
/-
  What every card on slices that came in wants.
-/
namespace Go.Proofs.YtedfjedmapimnaaDoor
open Go.ChangeShapes Go.WideShapes Go.ChangeAt Go.RowKit
theorem cellsI : Tryd.prog.cellsOf 3 = 1 := by kernel_rfl
theorem bytesI : Tryd.prog.bytesOf 3 = 8 := by kernel_rfl
theorem laidOut : laidOutB Tryd.prog = true := by kernel_rfl
theorem ownK : ownKnob Tryd.prog.godebug = none := by kernel_rfl
theorem spotN {w : World} {a : Addr} {v : Value} (h : w.cell? a = some v) : a.spot = none := by
  unfold World.cell? at h
  split at h
  · split at h
    · cases h
    · rename_i hs; simpa using hs
  · cases h
end Go.Proofs.YtedfjedmapimnaaDoor
/-
  Arguments opened: a list of steps, a program, a list of bytes.
-/
namespace Go.Proofs.YtedfjedmapimnaaDoor
open Go.ChangeShapes Go.WideShapes Go.ChangeAt Go.RowKit Go.Deep
theorem cellsS : Tryd.prog.cellsOf 39 = 7 := by kernel_rfl
theorem bytesS : Tryd.prog.bytesOf 39 = 56 := by kernel_rfl
theorem cellsPg : Tryd.prog.cellsOf 24 = 5 := by kernel_rfl
theorem addr_add15 (b off i : Nat) : (⟨b, off, none⟩ : Addr).add i = ⟨b, off + i, none⟩ := by
  unfold Addr.add
  by_cases h : i = 0
  · subst h; simp
  · simp [h]
theorem sized_arg {H : Type} {ts : List TypeId} {ds : List (DataW H)} (h : (DataW.weightsEach Tryd.prog ts ds).all (· ≤ reachBytes) = true) {j : Nat} {t : TypeId} {d : DataW H} (ht : ts[j]? = some t) (hd : ds[j]? = some d) : ∀ n ∈ d.weights Tryd.prog t, n ≤ reachBytes := fun n hn => by
  have := List.all_eq_true.1 h _ (DataW.weights_mem_each ht hd n hn)
  simpa using this
set_option maxRecDepth 100000 in
theorem viewSl {H : Type} {enc : TypeId × Value → H} {W : World} {fuel : Nat} {x : Value} {d : DataW H} {p : List MemPlace}
    (hf : DataW.trod enc Tryd.prog W 0 (fun _ => true) true fuel 22 [x] = some (d, p)) (hw : ∀ el sp, d = .slice el sp → (el.length + sp.length) * 56 ≤ 140737488351232) :
    ∃ (ss : List Sp.St) (a : Option Addr) (cap : Nat), x = .slice a ss.length cap ∧ (Ss W a ss ∧ (a = none → cap = 0)) ∧ ss.length * 56 ≤ 140737488351232 := by
  rcases open_slice Tryd.underlying22 hf with ⟨hcs, hx⟩ | ⟨a, len, cap, m, q, D, Pl, hcs, _, hl, hm, hmm, hx, hel⟩
  · cases hcs
    exact ⟨[], none, 0, rfl, ⟨fun i s hi => by simp at hi, fun _ => rfl⟩, by simp⟩
  · cases hcs
    simp only [Prod.mk.injEq] at hx
    obtain ⟨rfl, rfl⟩ := hx
    simp only [if_true] at hmm
    have inh : Inhabited Sp.St := ⟨st0⟩
    obtain ⟨T, hT⟩ := choose_lt (α := Sp.St) (n := len) (p := fun i s => W.cells? 0 (a.add (i * 7)) 7 = some (sc1 s)) (fun i hi => by
      obtain ⟨cs', h1, h2⟩ := hel i (by omega)
      rw [cellsS] at h1
      obtain ⟨_, h3, _⟩ := World.cells?_some h1
      obtain ⟨xs, n', _, hd, _, hxl, hfs⟩ := DataW.trod_struct Tryd.underlying39 h2
      have hxl' : xs.length = 7 := hxl
      match cs', h3, xs, hxl' with
      | [x0, x1, x2, x3, x4, x5, x6], _, [y0, y1, y2, y3, y4, y5, y6], _ =>
        have f0 : DataW.trod enc Tryd.prog W 0 (fun _ => true) true n' 3 [x0] = some y0 := hfs 0 _ rfl
        have f1 : DataW.trod enc Tryd.prog W 0 (fun _ => true) true n' 3 [x1] = some y1 := hfs 1 _ rfl
        have f2 : DataW.trod enc Tryd.prog W 0 (fun _ => true) true n' 3 [x2] = some y2 := hfs 2 _ rfl
        have f3 : DataW.trod enc Tryd.prog W 0 (fun _ => true) true n' 3 [x3] = some y3 := hfs 3 _ rfl
        have f4 : DataW.trod enc Tryd.prog W 0 (fun _ => true) true n' 3 [x4] = some y4 := hfs 4 _ rfl
        have f5 : DataW.trod enc Tryd.prog W 0 (fun _ => true) true n' 3 [x5] = some y5 := hfs 5 _ rfl
        have f6 : DataW.trod enc Tryd.prog W 0 (fun _ => true) true n' 3 [x6] = some y6 := hfs 6 _ rfl
        obtain ⟨k0, e0, _, _⟩ := DataW.trod_int Tryd.underlying3 f0
        obtain ⟨k1, e1, _, _⟩ := DataW.trod_int Tryd.underlying3 f1
        obtain ⟨k2, e2, _, _⟩ := DataW.trod_int Tryd.underlying3 f2
        obtain ⟨k3, e3, _, _⟩ := DataW.trod_int Tryd.underlying3 f3
        obtain ⟨k4, e4, _, _⟩ := DataW.trod_int Tryd.underlying3 f4
        obtain ⟨k5, e5, _, _⟩ := DataW.trod_int Tryd.underlying3 f5
        obtain ⟨k6, e6, _, _⟩ := DataW.trod_int Tryd.underlying3 f6
        cases e0; cases e1; cases e2; cases e3; cases e4; cases e5; cases e6
        exact ⟨⟨k0, k1, k2, k3, k4, k5, k6⟩, h1⟩)
    have hln : ((List.range len).map T).length = len := by simp
    refine ⟨(List.range len).map T, some a, cap, by rw [hln], ⟨fun i s hi => ?_, fun h => by cases h⟩, ?_⟩
    · have hil : i < len := by have := (List.getElem?_eq_some_iff.1 hi).1; rw [hln] at this; exact this
      have hs : T i = s := by
        rw [List.getElem?_map, List.getElem?_range hil, Option.map_some] at hi
        exact Option.some.inj hi
      obtain ⟨b, off, sp⟩ := a
      obtain rfl : sp = none := by
        obtain ⟨_, _, g4⟩ := World.cells?_some (hT 0 (by omega))
        have g5 := g4 0 (by decide)
        have := spotN g5
        simpa [Addr.add] using this
      obtain ⟨_, _, g4⟩ := World.cells?_some (hT i hil)
      rw [hs] at g4
      have hc : ∀ j, j < 7 → W.cell? ⟨b, off + i * 7 + j, none⟩ = (sc1 s)[j]? := fun j hj => by
        have := g4 j hj
        rw [addr_add15, addr_add15] at this
        exact this
      exact ⟨b, off, rfl, hc 0 (by decide), hc 1 (by decide), hc 2 (by decide), hc 3 (by decide), hc 4 (by decide), hc 5 (by decide), hc 6 (by decide)⟩
    · have := hw _ _ rfl
      simp only [List.length_map, List.length_range] at this
      rw [hln]
      omega
theorem w_slice {H : Type} {d : DataW H} (hw : ∀ n ∈ d.weights Tryd.prog 22, n ≤ reachBytes) : ∀ el sp, d = .slice el sp → (el.length + sp.length) * 56 ≤ 140737488351232 := fun el sp e => by
  subst e
  have := hw _ (by rw [DataW.weights, Tryd.underlying22]; exact List.mem_cons_self)
  rw [bytesS] at this
  simpa only [reachBytes] using this
set_option maxRecDepth 100000 in
theorem viewL {H : Type} {enc : TypeId × Value → H} {W : World} {base : Nat} {v : Value} {d : DataW H} {p : List MemPlace} (hv : Value.okWide Tryd.prog W .any base 22 v) (h : DataW.Trod enc Tryd.prog W 0 (fun _ => true) true 22 v d p) (hw : ∀ n ∈ d.weights Tryd.prog 22, n ≤ reachBytes) :
    ∃ (ss : List Sp.St) (a : Option Addr) (cap : Nat), v = .slice a ss.length cap ∧ (Ss W a ss ∧ (a = none → cap = 0)) ∧ ss.length * 56 ≤ 140737488351232 := by
  obtain ⟨a, n, c, rfl⟩ := okWide_slice Tryd.underlying22 hv
  obtain ⟨fuel, hf⟩ := h
  exact viewSl hf (w_slice hw)
set_option maxRecDepth 100000 in
theorem viewPg {H : Type} {enc : TypeId × Value → H} {W : World} {base : Nat} {v : Value} {d : DataW H} {p : List MemPlace} (hv : Value.okWide Tryd.prog W .any base 24 v) (h : DataW.Trod enc Tryd.prog W 0 (fun _ => true) true 24 v d p) (hw : ∀ (l : List (DataW H)) el sp, d = .agg l → l[4]? = some (.slice el sp) → (el.length + sp.length) * 56 ≤ 140737488351232) :
    ∃ (pg : Sp.Pg) (a : Option Addr) (cap : Nat), v = pv pg (.slice a pg.steps.length cap) ∧ (Ss W a pg.steps ∧ (a = none → cap = 0)) ∧ pg.steps.length * 56 ≤ 140737488351232 := by
  obtain ⟨cs, rfl, _⟩ := okWide_struct Tryd.underlying24 hv
  obtain ⟨fuel, hf⟩ := h
  obtain ⟨xs, n', _, hd, hcl, hxl, hfs⟩ := DataW.trod_struct Tryd.underlying24 hf
  have hxl' : xs.length = 5 := hxl
  rw [cellsPg] at hcl
  obtain ⟨l⟩ := cs
  have hcl' : l.length = 5 := by simpa [Value.cells] using hcl
  match l, hcl', xs, hxl' with
  | [x0, x1, x2, x3, x4], _, [y0, y1, y2, y3, y4], _ =>
    have f0 : DataW.trod enc Tryd.prog W 0 (fun _ => true) true n' 3 [x0] = some y0 := hfs 0 _ rfl
    have f1 : DataW.trod enc Tryd.prog W 0 (fun _ => true) true n' 3 [x1] = some y1 := hfs 1 _ rfl
    have f2 : DataW.trod enc Tryd.prog W 0 (fun _ => true) true n' 3 [x2] = some y2 := hfs 2 _ rfl
    have f3 : DataW.trod enc Tryd.prog W 0 (fun _ => true) true n' 3 [x3] = some y3 := hfs 3 _ rfl
    have f4 : DataW.trod enc Tryd.prog W 0 (fun _ => true) true n' 22 [x4] = some y4 := hfs 4 _ rfl
    obtain ⟨k0, e0, _, _⟩ := DataW.trod_int Tryd.underlying3 f0
    obtain ⟨k1, e1, _, _⟩ := DataW.trod_int Tryd.underlying3 f1
    obtain ⟨k2, e2, _, _⟩ := DataW.trod_int Tryd.underlying3 f2
    obtain ⟨k3, e3, _, _⟩ := DataW.trod_int Tryd.underlying3 f3
    cases e0; cases e1; cases e2; cases e3
    obtain ⟨d4, p4⟩ := y4
    obtain ⟨ss, a, cap, rfl, hS, hb⟩ := viewSl f4 (fun el sp e => hw _ el sp (Prod.mk.inj hd).1 (by rw [← e]; rfl))
    exact ⟨⟨k0, k1, k2, k3, ss⟩, a, cap, rfl, hS, hb⟩
set_option maxRecDepth 100000 in
theorem viewP {H : Type} {enc : TypeId × Value → H} {W : World} {base : Nat} {v : Value} {d : DataW H} {p : List MemPlace} (hv : Value.okWide Tryd.prog W .any base 24 v) (h : DataW.Trod enc Tryd.prog W 0 (fun _ => true) true 24 v d p) (hw : ∀ n ∈ d.weights Tryd.prog 24, n ≤ reachBytes) :
    ∃ (pg : Sp.Pg) (a : Option Addr) (cap : Nat), v = pv pg (.slice a pg.steps.length cap) ∧ (Ss W a pg.steps ∧ (a = none → cap = 0)) ∧ pg.steps.length * 56 ≤ 140737488351232 :=
  viewPg hv h fun l el sp e h4 => w_slice (d := .slice el sp) (fun n hn => hw n (by
    rw [e, DataW.weights, Tryd.underlying24]
    exact DataW.weights_mem_each (j := 4) (t := 22) (d := .slice el sp) rfl h4 n hn)) el sp rfl
end Go.Proofs.YtedfjedmapimnaaDoor
/-
  From what the rows list (the nineteen sentinels read as their texts lay them) to what the walks ask: 'Errs'.
-/
namespace Go.Proofs.YtedfjedmapimnaaDoor
open Go.RowKit
def errNames : List (String × List UInt8) := [("timbre/api.ErrShort", [116, 105, 109, 98, 114, 101, 58, 32, 116, 111, 111, 32, 115, 104, 111, 114, 116]), ("timbre/api.ErrVarint", [116, 105, 109, 98, 114, 101, 58, 32, 118, 97, 114, 105, 110, 116]), ("timbre/api.ErrLimit", [116, 105, 109, 98, 114, 101, 58, 32, 108, 105, 109, 105, 116]), ("timbre/api.ErrTail", [116, 105, 109, 98, 114, 101, 58, 32, 116, 97, 105, 108]), ("timbre/api.ErrRange", [116, 105, 109, 98, 114, 101, 58, 32, 114, 97, 110, 103, 101]), ("timbre/api.ErrText", [116, 105, 109, 98, 114, 101, 58, 32, 116, 101, 120, 116]), ("timbre/api.ErrLength", [116, 105, 109, 98, 114, 101, 58, 32, 108, 101, 110, 103, 116, 104]), ("timbre/api.ErrOrder", [116, 105, 109, 98, 114, 101, 58, 32, 111, 114, 100, 101, 114]), ("timbre/api.ErrProgram", [116, 105, 109, 98, 114, 101, 58, 32, 112, 114, 111, 103, 114, 97, 109]), ("timbre/api.ErrState", [116, 105, 109, 98, 114, 101, 58, 32, 115, 116, 97, 116, 101]), ("timbre/api.ErrRoot", [116, 105, 109, 98, 114, 101, 58, 32, 114, 111, 111, 116]), ("timbre/api.ErrPerm", [116, 105, 109, 98, 114, 101, 58, 32, 112, 101, 114, 109, 117, 116, 97, 116, 105, 111, 110]), ("timbre/api.ErrNumber", [116, 105, 109, 98, 114, 101, 58, 32, 110, 117, 109, 98, 101, 114]), ("timbre/api.ErrWorkers", [116, 105, 109, 98, 114, 101, 58, 32, 119, 111, 114, 107, 101, 114, 115]), ("timbre/api.ErrDone", [116, 105, 109, 98, 114, 101, 58, 32, 100, 111, 110, 101]), ("timbre/api.ErrUnknown", [116, 105, 109, 98, 114, 101, 58, 32, 117, 110, 107, 110, 111, 119, 110]), ("timbre/api.ErrMode", [116, 105, 109, 98, 114, 101, 58, 32, 109, 111, 100, 101]), ("timbre/api.ErrCommand", [116, 105, 109, 98, 114, 101, 58, 32, 99, 111, 109, 109, 97, 110, 100]), ("timbre/api.ErrExact", [116, 105, 109, 98, 114, 101, 58, 32, 101, 120, 97, 99, 116])]
theorem errs_of {W : World} (h : laidMetH Tryd.prog (errNames.map fun x => (x.1, errD x.2)) W) : ∃ al, Errs W al := by
  rw [MakeChecks.laidMetH_plain _ _ _ (by kernel_rfl)] at h
  obtain ⟨ps, hv, hnd, hr⟩ := h
  obtain ⟨al, h1, h2, h3⟩ := sents errNames [1, 2, 3, 4, 5, 6, 7, 8, 0, 9, 10, 11, 12, 13, 14, 15, 16, 17, 18] ps (by kernel_rfl) (by decide +kernel) hv hr
  exact ⟨al, h1, h3 hnd, fun a ha => (hr _ _ (h2 a ha)).1⟩
end Go.Proofs.YtedfjedmapimnaaDoor
/-
  The nineteen sentinels beside the table of the operations.
-/
namespace Go.Proofs.YtedfjedmapimnaaDoor
open Go.RowKit
theorem errs19_of {W : World} {l : List (String × DataW Unit)} (h : laidMetH Tryd.prog l W)
    (he : l.filter (fun x => !(x.1 == "timbre/steps.operations")) = errNames.map fun x => (x.1, errD x.2)) : ∃ al, Errs W al := by
  have h1 := h.filter (fun x => !(x.1 == "timbre/steps.operations"))
  rw [he] at h1
  exact errs_of h1
theorem e4_errs {W : World} {al : List Addr} (h : Errs W al) : E4 W al := by
  obtain ⟨a0, a1, a2, a3, a4, a5, a6, a7, a8, a9, a10, a11, a12, a13, a14, a15, a16, a17, a18, rfl⟩ := h.len
  obtain ⟨h0, h1, h2, h3, _, _, _, _, h8, _⟩ := h.sent
  exact ⟨h0, h1, h2, h3, h8⟩
end Go.Proofs.YtedfjedmapimnaaDoor
