/-
  Lists of bits, of whole numbers, of places that came in, opened once, nil or not.
-/
import Derived.Test.YtgfmimmiaalhcaaDoorVg6
import Derived.Test.YtgfmimmiaalhcaaDoorInw
import Derived.Deep.Grids
import Derived.Deep.Slices
namespace Go.Proofs.YtgfmimmiaalhcaaDoor
open Go.ChangeShapes Go.WideShapes Go.ChangeAt Go.RowKit Go.Deep
theorem cellsU : Tryd.prog.cellsOf 63 = 1 := by kernel_rfl
theorem bytesU : Tryd.prog.bytesOf 63 = 8 := by kernel_rfl
theorem cellsS : Tryd.prog.cellsOf 2 = 1 := by kernel_rfl
theorem bytesS : Tryd.prog.bytesOf 2 = 8 := by kernel_rfl
theorem add_at (b off i : Nat) : (⟨b, off, none⟩ : Addr).add i = ⟨b, off + i, none⟩ := by
  unfold Addr.add
  by_cases h : i = 0
  · subst h; simp
  · simp [h]
theorem getD_at10 {zs : List Nat} {i : Nat} (h : i < zs.length) : zs.getD i 0 = zs[i] := by simp [List.getD, h]
theorem viewU {H : Type} {enc : TypeId × Value → H} {W : World} {fuel : Nat} {a0 : Option Addr} {len cap : Nat} {d : DataW H} {p : List MemPlace}
    (hf : DataW.trod enc Tryd.prog W 0 (fun _ => true) true fuel 45 (Value.slice a0 len cap).cells.toList = some (d, p)) :
    ∃ zs : List Nat, zs.length = len ∧ InU W (.slice a0 len cap) zs ∧ (∀ x ∈ zs, x < 18446744073709551616) ∧ (len = 0 ∨ ∃ el sp, d = .slice el sp ∧ el.length = len) := by
  rcases open_ints Tryd.underlying45 Tryd.underlying63 cellsU hf with ⟨hcs, hx⟩ | ⟨a, len', cap', Z, hcs, _, hl, hm, hz, hx, hcell, hwz⟩
  · simp [Value.cells] at hcs
    obtain ⟨rfl, rfl, rfl⟩ := hcs
    exact ⟨[], rfl, ⟨_, _, rfl, fun i h => absurd h (by simp), fun i h => absurd h (by simp)⟩, fun x hx => (by cases hx), Or.inl rfl⟩
  · simp [Value.cells] at hcs
    obtain ⟨rfl, rfl, rfl⟩ := hcs
    simp only [Prod.mk.injEq] at hx
    obtain ⟨rfl, rfl⟩ := hx
    simp only [if_true] at hz
    have bd : ∀ i, i < len → (0 : Int) ≤ Z.getD i 0 ∧ Z.getD i 0 ≤ 18446744073709551615 := fun i hi => by
      have e : Z.getD i 0 = Z[i] := by simp [List.getD, show i < Z.length by omega]
      rw [e]; exact bounds_u64 (hwz _ (List.getElem_mem _))
    have gt : ∀ i, i < len → (((Z.take len).map Int.toNat).getD i 0 : Int) = Z.getD i 0 := fun i hi => by
      have e : Z.getD i 0 = Z[i] := by simp [List.getD, show i < Z.length by omega]
      have b := bd i hi
      rw [e] at b ⊢
      simp [List.getD, hi, show i < Z.length by omega]
      omega
    have ln : ((Z.take len).map Int.toNat).length = len := by simp; omega
    have hlim : ∀ i, i < len → ((Z.take len).map Int.toNat).getD i 0 < 18446744073709551616 := fun i hi => by
      have h1 := gt i hi
      have h2 := bd i hi
      omega
    refine ⟨(Z.take len).map Int.toNat, ln, ⟨some a, cap, by rw [ln], fun i hi => ?_, fun i hi => hlim i (by rw [← ln]; exact hi)⟩, fun x hx => ?_, Or.inr ⟨_, _, rfl, by simp [lits]; omega⟩⟩
    · rw [ln] at hi
      have c0 := hcell i (by omega)
      obtain ⟨b, off, sp⟩ := a
      obtain rfl : sp = none := by
        have := spotN (hcell 0 (by omega))
        simpa [Addr.add] using this
      rw [add_at] at c0
      exact ⟨b, off, rfl, block_lt_of_cell c0, by rw [gt i hi]; exact c0⟩
    · obtain ⟨i, hi, rfl⟩ := List.getElem_of_mem hx
      have h1 := hlim i (by rw [← ln]; exact hi)
      rw [getD_at10 hi] at h1
      exact h1

end Go.Proofs.YtgfmimmiaalhcaaDoor
