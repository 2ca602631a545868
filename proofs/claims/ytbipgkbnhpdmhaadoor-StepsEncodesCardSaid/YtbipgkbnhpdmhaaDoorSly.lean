/-
  The nineteen sentinels beside the table of the operations.
-/
import Derived.Test.YtbipgkbnhpdmhaaDoorSlx
import Derived.Test.YtbipgkbnhpdmhaaDoorLaid
namespace Go.Proofs.YtbipgkbnhpdmhaaDoor
open Go.RowKit
theorem errs19_of {W : World} {l : List (String × DataW Unit)} (h : laidMetH Tryd.prog l W)
    (he : l.filter (fun x => !(x.1 == "timbre/steps.operations")) = errNames.map fun x => (x.1, errD x.2)) : ∃ al, Errs W al := by
  have h1 := h.filter (fun x => !(x.1 == "timbre/steps.operations"))
  rw [he] at h1
  exact errs_of h1
theorem e4_errs {W : World} {al : List Addr} (h : Errs W al) : E4 W al := by
  obtain ⟨a0, a1, a2, a3, a4, a5, a6, a7, a8, a9, a10, a11, a12, a13, a14, a15, a16, a17, a18, rfl⟩ := h.len
  obtain ⟨h0, h1, h2, h3, _, _, _, _, h8, _⟩ := h.sent
  exact ⟨h0, h1, h2, h3, h8⟩
end Go.Proofs.YtbipgkbnhpdmhaaDoor
