/-
  Lists of bools that came in.
-/
import Derived.Test.YtonfdfmhnamimaaDoorVg6
import Derived.Deep.Grids
import Derived.Deep.Slices
namespace Go.Proofs.YtonfdfmhnamimaaDoor
open Go.ChangeShapes Go.WideShapes Go.ChangeAt Go.RowKit Go.Deep
theorem cellsB11 : Tryd.prog.cellsOf 4 = 1 := by kernel_rfl
theorem addr_add11 (b off i : Nat) : (⟨b, off, none⟩ : Addr).add i = ⟨b, off + i, none⟩ := by
  unfold Addr.add
  by_cases h : i = 0
  · subst h; simp
  · simp [h]
theorem viewB11 {H : Type} {enc : TypeId × Value → H} {W : World} {fuel : Nat} {a0 : Option Addr} {len cap : Nat} {d : DataW H} {p : List MemPlace}
    (hf : DataW.trod enc Tryd.prog W 0 (fun _ => true) true fuel 22 (Value.slice a0 len cap).cells.toList = some (d, p)) :
    ∀ i, i < len → ∃ b off s, a0 = some ⟨b, off, none⟩ ∧ b < W.heap.size ∧ W.cell? ⟨b, off + i, none⟩ = some (.bool s) := by
  rcases open_bools Tryd.underlying22 Tryd.underlying4 cellsB11 hf with ⟨hcs, hx⟩ | ⟨a, len', cap', B, hcs, _, hl, hm, hx, hcell⟩
  · simp [Value.cells] at hcs
    obtain ⟨rfl, rfl, rfl⟩ := hcs
    exact fun i hi => absurd hi (by omega)
  · simp [Value.cells] at hcs
    obtain ⟨rfl, rfl, rfl⟩ := hcs
    intro i hi
    have c0 := hcell 0 (by omega)
    obtain ⟨b, off, sp⟩ := a
    obtain rfl : sp = none := spotN c0
    refine ⟨b, off, B i, rfl, World.block_lt_of_cell? W _ c0, ?_⟩
    rw [← addr_add11]
    exact hcell i (by omega)
end Go.Proofs.YtonfdfmhnamimaaDoor
