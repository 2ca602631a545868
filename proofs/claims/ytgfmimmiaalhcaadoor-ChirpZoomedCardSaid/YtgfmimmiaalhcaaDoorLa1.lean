/-
  Layer 10's statements: alike, lists alike, the list of bits.
-/
import Derived.Test.YtgfmimmiaalhcaaDoorInw
import Derived.Test.YtgfmimmiaalhcaaDoorRef
import Derived.Test.YtgfmimmiaalhcaaDoorPt7
import Derived.Test.YtgfmimmiaalhcaaDoorSap
import Derived.Deep.RegionLaw
namespace Go.Proofs.YtgfmimmiaalhcaaDoor
open Flo Go.RowKit

theorem RdC.each {w : World} {ao : Option Addr} {n cap : Nat} {zs : List (Nat × Nat)} (h : RdC w (.slice ao n cap) zs) {i : Nat} (hi : i < n) (hn : zs.length = n) : ∃ b off, ao = some ⟨b, off, none⟩ ∧ b < w.heap.size ∧ w.cell? ⟨b, off + i, none⟩ = some (.complex .f64 (zs.getD i (0, 0)).1 (zs.getD i (0, 0)).2) := by
  obtain ⟨ao', cap', e, h2⟩ := h
  cases e
  obtain ⟨b, off, e2, h3, h4⟩ := h2 (fun e => by have hz : zs.length = 0 := (by rw [e]; rfl); omega)
  exact ⟨b, off, e2, h3, h4 i (by omega)⟩
theorem cell_one_new10 (w : World) (o : Value) (t : TypeId) : ∀ (j : Nat) u, [o][j]? = some u → (w.alloc (.cells #[o] t)).cell? ((⟨w.heap.size, 0, none⟩ : Addr).add j) = some u := by
  intro j u hj
  match j, hj with
  | 0, hj => simp at hj; subst hj; simp [Addr.add]
end Go.Proofs.YtgfmimmiaalhcaaDoor
