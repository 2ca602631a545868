/-
  The program's naturals: Clone, below, halve, minus.
-/
import Derived.Test.YtmfnjmgdindlaaaNod
namespace Go.Proofs.Ytmfnjmgdindlaaa
open Flo Go.RowKit
theorem Row.rd {T : TypeId} {κ : IntKind} {w : World} {B k cap : Nat} {ao : Option Addr} {f : Nat → Nat} (h : Row T κ w B (.slice ao k cap) k f) : 0 < k → ∃ g, ao = some ⟨g, 0, none⟩ ∧ ∀ i, i < k → w.cell? ⟨g, i, none⟩ = some (.int κ (f i : Nat)) := by
  intro hk
  rcases h.cases with ⟨_, h1⟩ | ⟨g, cap', h1, _⟩
  · omega
  · cases h1
    exact ⟨g, rfl, fun i hi => h.cell i hi⟩
end Go.Proofs.Ytmfnjmgdindlaaa
