/-
  Arguments opened: a list of steps, a program, a list of bytes.
-/
import Derived.Test.YtlbnldbelfgokaaDoorSr4
import Derived.Test.YtlbnldbelfgokaaDoorVg6
import Derived.Deep.Slices
import Derived.SizedLaws
namespace Go.Proofs.YtlbnldbelfgokaaDoor
open Go.ChangeShapes Go.WideShapes Go.ChangeAt Go.RowKit Go.Deep
theorem cellsS : Tryd.prog.cellsOf 38 = 7 := by kernel_rfl
theorem bytesS : Tryd.prog.bytesOf 38 = 56 := by kernel_rfl
theorem cellsPg : Tryd.prog.cellsOf 25 = 5 := by kernel_rfl
theorem addr_add15 (b off i : Nat) : (⟨b, off, none⟩ : Addr).add i = ⟨b, off + i, none⟩ := by
  unfold Addr.add
  by_cases h : i = 0
  · subst h; simp
  · simp [h]
theorem sized_arg {H : Type} {ts : List TypeId} {ds : List (DataW H)} (h : (DataW.weightsEach Tryd.prog ts ds).all (· ≤ reachBytes) = true) {j : Nat} {t : TypeId} {d : DataW H} (ht : ts[j]? = some t) (hd : ds[j]? = some d) : ∀ n ∈ d.weights Tryd.prog t, n ≤ reachBytes := fun n hn => by
  have := List.all_eq_true.1 h _ (DataW.weights_mem_each ht hd n hn)
  simpa using this
set_option maxRecDepth 100000 in
theorem viewSl {H : Type} {enc : TypeId × Value → H} {W : World} {fuel : Nat} {x : Value} {d : DataW H} {p : List MemPlace}
    (hf : DataW.trod enc Tryd.prog W 0 (fun _ => true) true fuel 23 [x] = some (d, p)) (hw : ∀ el sp, d = .slice el sp → (el.length + sp.length) * 56 ≤ 140737488351232) :
    ∃ (ss : List Sp.St) (a : Option Addr) (cap : Nat), x = .slice a ss.length cap ∧ (Ss W a ss ∧ (a = none → cap = 0)) ∧ ss.length * 56 ≤ 140737488351232 := by
  rcases open_slice Tryd.underlying23 hf with ⟨hcs, hx⟩ | ⟨a, len, cap, m, q, D, Pl, hcs, _, hl, hm, hmm, hx, hel⟩
  · cases hcs
    exact ⟨[], none, 0, rfl, ⟨fun i s hi => by simp at hi, fun _ => rfl⟩, by simp⟩
  · cases hcs
    simp only [Prod.mk.injEq] at hx
    obtain ⟨rfl, rfl⟩ := hx
    simp only [if_true] at hmm
    have inh : Inhabited Sp.St := ⟨st0⟩
    obtain ⟨T, hT⟩ := choose_lt (α := Sp.St) (n := len) (p := fun i s => W.cells? 0 (a.add (i * 7)) 7 = some (sc1 s)) (fun i hi => by
      obtain ⟨cs', h1, h2⟩ := hel i (by omega)
      rw [cellsS] at h1
      obtain ⟨_, h3, _⟩ := World.cells?_some h1
      obtain ⟨xs, n', _, hd, _, hxl, hfs⟩ := DataW.trod_struct Tryd.underlying38 h2
      have hxl' : xs.length = 7 := hxl
      match cs', h3, xs, hxl' with
      | [x0, x1, x2, x3, x4, x5, x6], _, [y0, y1, y2, y3, y4, y5, y6], _ =>
        have f0 : DataW.trod enc Tryd.prog W 0 (fun _ => true) true n' 3 [x0] = some y0 := hfs 0 _ rfl
        have f1 : DataW.trod enc Tryd.prog W 0 (fun _ => true) true n' 3 [x1] = some y1 := hfs 1 _ rfl
        have f2 : DataW.trod enc Tryd.prog W 0 (fun _ => true) true n' 3 [x2] = some y2 := hfs 2 _ rfl
        have f3 : DataW.trod enc Tryd.prog W 0 (fun _ => true) true n' 3 [x3] = some y3 := hfs 3 _ rfl
        have f4 : DataW.trod enc Tryd.prog W 0 (fun _ => true) true n' 3 [x4] = some y4 := hfs 4 _ rfl
        have f5 : DataW.trod enc Tryd.prog W 0 (fun _ => true) true n' 3 [x5] = some y5 := hfs 5 _ rfl
        have f6 : DataW.trod enc Tryd.prog W 0 (fun _ => true) true n' 3 [x6] = some y6 := hfs 6 _ rfl
        obtain ⟨k0, e0, _, _⟩ := DataW.trod_int Tryd.underlying3 f0
        obtain ⟨k1, e1, _, _⟩ := DataW.trod_int Tryd.underlying3 f1
        obtain ⟨k2, e2, _, _⟩ := DataW.trod_int Tryd.underlying3 f2
        obtain ⟨k3, e3, _, _⟩ := DataW.trod_int Tryd.underlying3 f3
        obtain ⟨k4, e4, _, _⟩ := DataW.trod_int Tryd.underlying3 f4
        obtain ⟨k5, e5, _, _⟩ := DataW.trod_int Tryd.underlying3 f5
        obtain ⟨k6, e6, _, _⟩ := DataW.trod_int Tryd.underlying3 f6
        cases e0; cases e1; cases e2; cases e3; cases e4; cases e5; cases e6
        exact ⟨⟨k0, k1, k2, k3, k4, k5, k6⟩, h1⟩)
    have hln : ((List.range len).map T).length = len := by simp
    refine ⟨(List.range len).map T, some a, cap, by rw [hln], ⟨fun i s hi => ?_, fun h => by cases h⟩, ?_⟩
    · have hil : i < len := by have := (List.getElem?_eq_some_iff.1 hi).1; rw [hln] at this; exact this
      have hs : T i = s := by
        rw [List.getElem?_map, List.getElem?_range hil, Option.map_some] at hi
        exact Option.some.inj hi
      obtain ⟨b, off, sp⟩ := a
      obtain rfl : sp = none := by
        obtain ⟨_, _, g4⟩ := World.cells?_some (hT 0 (by omega))
        have g5 := g4 0 (by decide)
        have := spotN g5
        simpa [Addr.add] using this
      obtain ⟨_, _, g4⟩ := World.cells?_some (hT i hil)
      rw [hs] at g4
      have hc : ∀ j, j < 7 → W.cell? ⟨b, off + i * 7 + j, none⟩ = (sc1 s)[j]? := fun j hj => by
        have := g4 j hj
        rw [addr_add15, addr_add15] at this
        exact this
      exact ⟨b, off, rfl, hc 0 (by decide), hc 1 (by decide), hc 2 (by decide), hc 3 (by decide), hc 4 (by decide), hc 5 (by decide), hc 6 (by decide)⟩
    · have := hw _ _ rfl
      simp only [List.length_map, List.length_range] at this
      rw [hln]
      omega
theorem w_slice {H : Type} {d : DataW H} (hw : ∀ n ∈ d.weights Tryd.prog 23, n ≤ reachBytes) : ∀ el sp, d = .slice el sp → (el.length + sp.length) * 56 ≤ 140737488351232 := fun el sp e => by
  subst e
  have := hw _ (by rw [DataW.weights, Tryd.underlying23]; exact List.mem_cons_self)
  rw [bytesS] at this
  simpa only [reachBytes] using this
set_option maxRecDepth 100000 in
theorem viewL {H : Type} {enc : TypeId × Value → H} {W : World} {base : Nat} {v : Value} {d : DataW H} {p : List MemPlace} (hv : Value.okWide Tryd.prog W .any base 23 v) (h : DataW.Trod enc Tryd.prog W 0 (fun _ => true) true 23 v d p) (hw : ∀ n ∈ d.weights Tryd.prog 23, n ≤ reachBytes) :
    ∃ (ss : List Sp.St) (a : Option Addr) (cap : Nat), v = .slice a ss.length cap ∧ (Ss W a ss ∧ (a = none → cap = 0)) ∧ ss.length * 56 ≤ 140737488351232 := by
  obtain ⟨a, n, c, rfl⟩ := okWide_slice Tryd.underlying23 hv
  obtain ⟨fuel, hf⟩ := h
  exact viewSl hf (w_slice hw)
set_option maxRecDepth 100000 in
theorem viewPg {H : Type} {enc : TypeId × Value → H} {W : World} {base : Nat} {v : Value} {d : DataW H} {p : List MemPlace} (hv : Value.okWide Tryd.prog W .any base 25 v) (h : DataW.Trod enc Tryd.prog W 0 (fun _ => true) true 25 v d p) (hw : ∀ (l : List (DataW H)) el sp, d = .agg l → l[4]? = some (.slice el sp) → (el.length + sp.length) * 56 ≤ 140737488351232) :
    ∃ (pg : Sp.Pg) (a : Option Addr) (cap : Nat), v = pv pg (.slice a pg.steps.length cap) ∧ (Ss W a pg.steps ∧ (a = none → cap = 0)) ∧ pg.steps.length * 56 ≤ 140737488351232 := by
  obtain ⟨cs, rfl, _⟩ := okWide_struct Tryd.underlying25 hv
  obtain ⟨fuel, hf⟩ := h
  obtain ⟨xs, n', _, hd, hcl, hxl, hfs⟩ := DataW.trod_struct Tryd.underlying25 hf
  have hxl' : xs.length = 5 := hxl
  rw [cellsPg] at hcl
  obtain ⟨l⟩ := cs
  have hcl' : l.length = 5 := by simpa [Value.cells] using hcl
  match l, hcl', xs, hxl' with
  | [x0, x1, x2, x3, x4], _, [y0, y1, y2, y3, y4], _ =>
    have f0 : DataW.trod enc Tryd.prog W 0 (fun _ => true) true n' 3 [x0] = some y0 := hfs 0 _ rfl
    have f1 : DataW.trod enc Tryd.prog W 0 (fun _ => true) true n' 3 [x1] = some y1 := hfs 1 _ rfl
    have f2 : DataW.trod enc Tryd.prog W 0 (fun _ => true) true n' 3 [x2] = some y2 := hfs 2 _ rfl
    have f3 : DataW.trod enc Tryd.prog W 0 (fun _ => true) true n' 3 [x3] = some y3 := hfs 3 _ rfl
    have f4 : DataW.trod enc Tryd.prog W 0 (fun _ => true) true n' 23 [x4] = some y4 := hfs 4 _ rfl
    obtain ⟨k0, e0, _, _⟩ := DataW.trod_int Tryd.underlying3 f0
    obtain ⟨k1, e1, _, _⟩ := DataW.trod_int Tryd.underlying3 f1
    obtain ⟨k2, e2, _, _⟩ := DataW.trod_int Tryd.underlying3 f2
    obtain ⟨k3, e3, _, _⟩ := DataW.trod_int Tryd.underlying3 f3
    cases e0; cases e1; cases e2; cases e3
    obtain ⟨d4, p4⟩ := y4
    obtain ⟨ss, a, cap, rfl, hS, hb⟩ := viewSl f4 (fun el sp e => hw _ el sp (Prod.mk.inj hd).1 (by rw [← e]; rfl))
    exact ⟨⟨k0, k1, k2, k3, ss⟩, a, cap, rfl, hS, hb⟩
set_option maxRecDepth 100000 in
theorem viewP {H : Type} {enc : TypeId × Value → H} {W : World} {base : Nat} {v : Value} {d : DataW H} {p : List MemPlace} (hv : Value.okWide Tryd.prog W .any base 25 v) (h : DataW.Trod enc Tryd.prog W 0 (fun _ => true) true 25 v d p) (hw : ∀ n ∈ d.weights Tryd.prog 25, n ≤ reachBytes) :
    ∃ (pg : Sp.Pg) (a : Option Addr) (cap : Nat), v = pv pg (.slice a pg.steps.length cap) ∧ (Ss W a pg.steps ∧ (a = none → cap = 0)) ∧ pg.steps.length * 56 ≤ 140737488351232 :=
  viewPg hv h fun l el sp e h4 => w_slice (d := .slice el sp) (fun n hn => hw n (by
    rw [e, DataW.weights, Tryd.underlying25]
    exact DataW.weights_mem_each (j := 4) (t := 23) (d := .slice el sp) rfl h4 n hn)) el sp rfl
end Go.Proofs.YtlbnldbelfgokaaDoor
