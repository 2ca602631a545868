/-
  What the rows of layer 16 list where they list four sentinels; a slice's places.
-/
import Derived.Test.YtlbnldbelfgokaaDoorSl16
import Derived.Test.YtlbnldbelfgokaaDoorLs7
namespace Go.Proofs.YtlbnldbelfgokaaDoor
open Flo Go.ChangeShapes Go.WideShapes Go.ChangeAt Go.RowKit Go.Deep
set_option maxRecDepth 100000 in
theorem sentVar {W : World} : ∀ (l : List (String × List UInt8)) (gs : List Nat) (ps : List MemPlace),
    (l.map fun x => Tryd.prog.globalNamed x.1) = gs.map some → (∀ g ∈ gs, (Tryd.prog.globals[g]?).map (·.type) = some 27) →
    DataW.LaidVars Tryd.prog W (l.map fun x => (x.1, errD x.2)) ps →
    (∀ b off, MemPlace.cell b off ∈ ps → (∃ c t, W.heap[b]? = some (.cells c t (0, 0))) ∧ ∀ u v, W.cell? ⟨b, off, none⟩ = some (.iface u v) → Value.okWide Tryd.prog W .any 0 u v) →
    ∀ x ∈ l, ∃ tp p, W.var? Tryd.prog x.1 = some #[.iface tp p]
  | [], gs, ps, hg, _, h, _ => fun x hx => by cases hx
  | (n, t) :: l, gs, ps, hg, ht, h, hr => by
    cases gs with
    | nil => simp at hg
    | cons g gs =>
      simp only [List.map_cons, List.cons.injEq] at hg
      obtain ⟨hg0, hg1⟩ := hg
      obtain ⟨g', t', cs, fuel, p, q, h1, h2, h3, h4, h5, rfl⟩ := h
      obtain rfl := Option.some.inj (hg0.symm.trans h1)
      obtain rfl := Option.some.inj ((ht g (by simp)).symm.trans h2)
      obtain ⟨l0⟩ := cs
      have hc0 : W.cell? ⟨g, 0, none⟩ = l0[0]? := by simpa using World.var?_cell h1 h3 0
      have ok0 : ∀ u v, l0 = [.iface u v] → Value.okWide Tryd.prog W .any 0 u v := fun u v e => by
        subst e
        exact (hr g 0 (by simp [MemPlace.row])).2 u v (by simpa using hc0)
      obtain ⟨a, s, rfl, hc, hs, hz, rfl⟩ := errorString_of_trod Tryd.underlying27 err_row Tryd.underlying134 Tryd.underlying136 rfl rfl Tryd.underlying9 err_cellsS err_cells9 h4 ok0
      have ih := sentVar l gs q hg1 (fun g hg => ht g (by simp [hg])) h5 (fun b off hb => hr b off (by simp [hb]))
      intro x hx
      rcases List.mem_cons.1 hx with rfl | hx
      · exact ⟨_, _, h3⟩
      · exact ih x hx
def e16Names : List (String × List UInt8) := [("strconv.ErrRange", [118, 97, 108, 117, 101, 32, 111, 117, 116, 32, 111, 102, 32, 114, 97, 110, 103, 101]), ("strconv.ErrSyntax", [105, 110, 118, 97, 108, 105, 100, 32, 115, 121, 110, 116, 97, 120]), ("timbre/api.ErrText", [116, 105, 109, 98, 114, 101, 58, 32, 116, 101, 120, 116]), ("timbre/api.ErrProgram", [116, 105, 109, 98, 114, 101, 58, 32, 112, 114, 111, 103, 114, 97, 109])]
set_option maxRecDepth 100000 in
theorem lf4_of {W : World} {l : List (String × DataW Unit)} (h : laidMetH Tryd.prog l W)
    (he : l.filter (fun x => e16Names.any fun y => y.1 == x.1) = e16Names.map fun x => (x.1, errD x.2)) (hO : Ops W) (ht : Lib.TabIs Tryd.prog W "internal/strconv.uint64pow10" .u64 Lib.pow10Tab) : ∃ al, Lf W al ∧ al.getD 5 ⟨0, 0, none⟩ ≠ al.getD 8 ⟨0, 0, none⟩ := by
  have h1 := h.filter (fun x => e16Names.any fun y => y.1 == x.1)
  rw [he, MakeChecks.laidMetH_plain _ _ _ (by kernel_rfl)] at h1
  obtain ⟨ps, hv, hnd, hr⟩ := h1
  have hs := sentVar e16Names [23, 22, 0, 8] ps (by kernel_rfl) (by decide +kernel) hv hr
  obtain ⟨al, h1, h2, h3⟩ := sents e16Names [23, 22, 0, 8] ps (by kernel_rfl) (by decide +kernel) hv hr
  have hnd' := h3 hnd
  match al, h1, hnd' with
  | [a, b, c, d], h1, hnd' =>
    refine ⟨[c, c, c, c, c, c, c, c, d], ⟨⟨hO, h1.2.2.2.1, ht⟩, h1.2.2.1, hs ("strconv.ErrSyntax", _) (List.mem_cons_of_mem _ List.mem_cons_self), hs ("strconv.ErrRange", _) List.mem_cons_self⟩, ?_⟩
    intro e
    have e' : c = d := e
    simp [e'] at hnd'
set_option maxRecDepth 100000 in
theorem capP16 {H : Type} {enc : TypeId × Value → H} {W : World} {pg : Sp.Pg} {a : Option Addr} {n c : Nat} {d : DataW H} {p : List MemPlace} (h : DataW.Trod enc Tryd.prog W 0 (fun _ => true) true 25 (pv pg (.slice a n c)) d p) : n ≤ c := by
  obtain ⟨fuel, hf⟩ := h
  obtain ⟨xs, n', _, hd, hcl, hxl, hfs⟩ := DataW.trod_struct Tryd.underlying25 hf
  have hxl' : xs.length = 5 := hxl
  match xs, hxl' with
  | [y0, y1, y2, y3, y4], _ =>
    have f4 : DataW.trod enc Tryd.prog W 0 (fun _ => true) true n' 23 [.slice a n c] = some y4 := hfs 4 _ rfl
    rcases open_slice Tryd.underlying23 f4 with ⟨hcs, hx⟩ | ⟨a, len, cap, m, q, D, Pl, hcs, _, hl, hm, hmm, hx, hel⟩
    · cases hcs; exact Nat.le_refl _
    · cases hcs; exact hl
end Go.Proofs.YtlbnldbelfgokaaDoor
