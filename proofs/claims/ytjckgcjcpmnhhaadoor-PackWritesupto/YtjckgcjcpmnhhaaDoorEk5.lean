/-
  The nineteen sentinels are the five that package pack answers.
-/
import Derived.Test.YtjckgcjcpmnhhaaDoorPk5
import Derived.Test.YtjckgcjcpmnhhaaDoorNum
namespace Go.Proofs.YtjckgcjcpmnhhaaDoor
open Go.RowKit
theorem e5_of {w : World} {al : List Addr} (he : Errs w al) : E5 w al := by
  obtain ⟨a0, a1, a2, a3, a4, a5, a6, a7, a8, a9, a10, a11, a12, a13, a14, a15, a16, a17, a18, rfl⟩ := he.len
  obtain ⟨h0, h1, h2, h3, _, _, _, _, _, _, _, _, h12, _⟩ := he.sent
  exact ⟨h0, h1, h2, h3, h12⟩
end Go.Proofs.YtjckgcjcpmnhhaaDoor
