/-
  For the second form of layer 16: four sentinels and their rows; arguments by bulk.
-/
import Derived.Test.YtebknahackkhnaaDoorVws
import Derived.Test.YtebknahackkhnaaDoorBku
namespace Go.Proofs.YtebknahackkhnaaDoor
open Flo Go.ChangeShapes Go.WideShapes Go.ChangeAt Go.RowKit Go.Deep
set_option maxRecDepth 100000 in
theorem lf4r_of {W : World} {l : List (String × DataW Unit)} (h : laidMetH Tryd.prog l W)
    (he : l.filter (fun x => e16Names.any fun y => y.1 == x.1) = e16Names.map fun x => (x.1, errD x.2)) (hO : Ops W) (ht : Lib.TabIs Tryd.prog W "internal/strconv.uint64pow10" .u64 Lib.pow10Tab) : ∃ al, Lf W al ∧ al.getD 5 ⟨0, 0, none⟩ ≠ al.getD 8 ⟨0, 0, none⟩ ∧ (∃ c t, W.heap[(al.getD 5 ⟨0, 0, none⟩).block]? = some (.cells c t (0, 0))) ∧ ∃ c t, W.heap[(al.getD 8 ⟨0, 0, none⟩).block]? = some (.cells c t (0, 0)) := by
  have h1 := h.filter (fun x => e16Names.any fun y => y.1 == x.1)
  rw [he, MakeChecks.laidMetH_plain _ _ _ (by kernel_rfl)] at h1
  obtain ⟨ps, hv, hnd, hr⟩ := h1
  have hs := sentVar e16Names [23, 22, 1, 0] ps (by kernel_rfl) (by decide +kernel) hv hr
  obtain ⟨al, h1, h2, h3⟩ := sents e16Names [23, 22, 1, 0] ps (by kernel_rfl) (by decide +kernel) hv hr
  have hnd' := h3 hnd
  match al, h1, h2, hnd' with
  | [a, b, c, d], h1, h2, hnd' =>
    refine ⟨[c, c, c, c, c, c, c, c, d], ⟨⟨hO, h1.2.2.2.1, ht⟩, h1.2.2.1, hs ("strconv.ErrSyntax", _) (List.mem_cons_of_mem _ List.mem_cons_self), hs ("strconv.ErrRange", _) List.mem_cons_self⟩, ?_, (hr _ _ (h2 c (by simp))).1, (hr _ _ (h2 d (by simp))).1⟩
    intro e
    have e' : c = d := e
    simp [e'] at hnd'
set_option maxRecDepth 100000 in
theorem viewPu16 {H : Type} {enc : TypeId × Value → H} {W : World} {base : Nat} {v : Value} {d : DataW H} {p : List MemPlace} (hv : Value.okWide Tryd.prog W .any base 24 v) (h : DataW.Trod enc Tryd.prog W 0 (fun _ => true) true 24 v d p) (hb : Rows.uptoBulk d ≤ 1048576) :
    ∃ (pg : Sp.Pg) (a : Option Addr) (cap : Nat), v = pv pg (.slice a pg.steps.length cap) ∧ (Ss W a pg.steps ∧ (a = none → cap = 0)) ∧ pg.steps.length * 56 ≤ 140737488351232 ∧ Pin pg :=
  viewPg16 hv h fun l el sp e h4 => by
    subst e
    have h1 := bulk_mem (List.mem_of_getElem? h4)
    simp only [Rows.uptoBulk] at hb h1
    have h2 := bulk_len el
    have h3 := bulk_len sp
    omega
end Go.Proofs.YtebknahackkhnaaDoor
