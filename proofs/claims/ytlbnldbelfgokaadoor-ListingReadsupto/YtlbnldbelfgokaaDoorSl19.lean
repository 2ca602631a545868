/-
  For the second form of layer 16 where all sentinels are listed: what reading asks.
-/
import Derived.Test.YtlbnldbelfgokaaDoorSl17
import Derived.Test.YtlbnldbelfgokaaDoorBku
namespace Go.Proofs.YtlbnldbelfgokaaDoor
open Flo Go.ChangeShapes Go.WideShapes Go.ChangeAt Go.RowKit Go.Deep
def e2Names : List (String × List UInt8) := [("strconv.ErrRange", [118, 97, 108, 117, 101, 32, 111, 117, 116, 32, 111, 102, 32, 114, 97, 110, 103, 101]), ("strconv.ErrSyntax", [105, 110, 118, 97, 108, 105, 100, 32, 115, 121, 110, 116, 97, 120])]
set_option maxRecDepth 100000 in
theorem lf21_of {W : World} {l : List (String × DataW Unit)} {al : List Addr} (h : laidMetH Tryd.prog l W)
    (he : l.filter (fun x => e2Names.any fun y => y.1 == x.1) = e2Names.map fun x => (x.1, errD x.2)) (hE : Errs W al) (hO : Ops W) (ht : Lib.TabIs Tryd.prog W "internal/strconv.uint64pow10" .u64 Lib.pow10Tab) : Lf W al := by
  have h1 := h.filter (fun x => e2Names.any fun y => y.1 == x.1)
  rw [he, MakeChecks.laidMetH_plain _ _ _ (by kernel_rfl)] at h1
  obtain ⟨ps, hv, hnd, hr⟩ := h1
  have hs := sentVar e2Names [23, 22] ps (by kernel_rfl) (by decide +kernel) hv hr
  have hle := le_of hE hO ht
  obtain ⟨a0, a1, a2, a3, a4, a5, a6, a7, a8, a9, a10, a11, a12, a13, a14, a15, a16, a17, a18, rfl⟩ := hE.len
  obtain ⟨h0, h1, h2, h3, h4, h5, _⟩ := hE.sent
  exact ⟨hle, h5, hs ("strconv.ErrSyntax", _) (List.mem_cons_of_mem _ List.mem_cons_self), hs ("strconv.ErrRange", _) List.mem_cons_self⟩
end Go.Proofs.YtlbnldbelfgokaaDoor
