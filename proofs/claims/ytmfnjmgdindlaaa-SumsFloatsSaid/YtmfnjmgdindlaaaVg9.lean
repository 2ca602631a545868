/-
  Lists of whole numbers and of bits that came in, opened once, nil or not.
-/
import Derived.Test.YtmfnjmgdindlaaaRows
import Derived.Test.YtmfnjmgdindlaaaLw9
import Derived.ProofKit
import Derived.LaidMore
import Derived.OpenShut
import Derived.SizedLaws
import Derived.Stop.Joined
namespace Go.Proofs.Ytmfnjmgdindlaaa
open Go.ChangeShapes Go.WideShapes Go.ChangeAt Go.RowKit
theorem cellsI : Try.prog.cellsOf 3 = 1 := by kernel_rfl
theorem bytesI : Try.prog.bytesOf 3 = 8 := by kernel_rfl
theorem cellsU : Try.prog.cellsOf 39 = 1 := by kernel_rfl
theorem bytesU : Try.prog.bytesOf 39 = 8 := by kernel_rfl
theorem laidOut : laidOutB Try.prog = true := by kernel_rfl
theorem ownK : ownKnob Try.prog.godebug = none := by kernel_rfl
theorem spotN {w : World} {a : Addr} {v : Value} (h : w.cell? a = some v) : a.spot = none := by
  unfold World.cell? at h
  split at h
  · split at h
    · cases h
    · rename_i hs; simpa using hs
  · cases h
theorem add_at (b off i : Nat) : (⟨b, off, none⟩ : Addr).add i = ⟨b, off + i, none⟩ := by
  unfold Addr.add
  by_cases h : i = 0
  · subst h; simp
  · simp [h]
/-- a list of whole numbers that came in, each place by itself -/
def InI (w : World) (v : Value) (zs : List Int) : Prop :=
  ∃ ao cap, v = .slice ao zs.length cap ∧ ∀ i, i < zs.length → ∃ b off, ao = some ⟨b, off, none⟩ ∧ b < w.heap.size ∧ w.cell? ⟨b, off + i, none⟩ = some (.int .i64 (zs.getD i 0))
theorem viewI {H : Type} {enc : TypeId × Value → H} {W : World} {fuel : Nat} {a0 : Option Addr} {len cap : Nat} {d : DataW H} {p : List MemPlace}
    (hf : DataW.trod enc Try.prog W 0 (fun _ => true) true fuel 31 (Value.slice a0 len cap).cells.toList = some (d, p)) :
    ∃ zs : List Int, zs.length = len ∧ InI W (.slice a0 len cap) zs ∧ (∀ z ∈ zs, -9223372036854775808 ≤ z ∧ z ≤ 9223372036854775807) ∧ (len = 0 ∨ ∃ el sp, d = .slice el sp ∧ el.length = len) := by
  rcases open_ints Try.underlying31 Try.underlying3 cellsI hf with ⟨hcs, hx⟩ | ⟨a, len', cap', Z, hcs, _, hl, hm, hz, hx, hcell, hwz⟩
  · simp [Value.cells] at hcs
    obtain ⟨rfl, rfl, rfl⟩ := hcs
    exact ⟨[], rfl, ⟨_, _, rfl, fun i h => absurd h (by simp)⟩, fun z hz => absurd hz (by simp), Or.inl rfl⟩
  · simp [Value.cells] at hcs
    obtain ⟨rfl, rfl, rfl⟩ := hcs
    simp only [Prod.mk.injEq] at hx
    obtain ⟨rfl, rfl⟩ := hx
    simp only [if_true] at hz
    have ln : (Z.take len).length = len := by simp; omega
    refine ⟨Z.take len, ln, ⟨some a, cap, by rw [ln], fun i hi => ?_⟩, fun z hz => bounds_i64 (hwz z (List.mem_of_mem_take hz)), Or.inr ⟨_, _, rfl, by simp [lits]; omega⟩⟩
    rw [ln] at hi
    have c0 := hcell i (by omega)
    obtain ⟨b, off, sp⟩ := a
    obtain rfl : sp = none := by
      have := spotN (hcell 0 (by omega))
      simpa [Addr.add] using this
    have e : (Z.take len).getD i 0 = Z.getD i 0 := by simp [List.getD, hi]
    rw [add_at] at c0
    exact ⟨b, off, rfl, block_lt_of_cell c0, by rw [e]; exact c0⟩
theorem viewU {H : Type} {enc : TypeId × Value → H} {W : World} {fuel : Nat} {a0 : Option Addr} {len cap : Nat} {d : DataW H} {p : List MemPlace}
    (hf : DataW.trod enc Try.prog W 0 (fun _ => true) true fuel 22 (Value.slice a0 len cap).cells.toList = some (d, p)) :
    ∃ zs : List Nat, zs.length = len ∧ InU W (.slice a0 len cap) zs ∧ (∀ x ∈ zs, x < 18446744073709551616) ∧ (len = 0 ∨ ∃ el sp, d = .slice el sp ∧ el.length = len) := by
  rcases open_ints Try.underlying22 Try.underlying39 cellsU hf with ⟨hcs, hx⟩ | ⟨a, len', cap', Z, hcs, _, hl, hm, hz, hx, hcell, hwz⟩
  · simp [Value.cells] at hcs
    obtain ⟨rfl, rfl, rfl⟩ := hcs
    exact ⟨[], rfl, ⟨_, _, rfl, fun i h => absurd h (by simp), fun i h => absurd h (by simp)⟩, fun x hx => (by cases hx), Or.inl rfl⟩
  · simp [Value.cells] at hcs
    obtain ⟨rfl, rfl, rfl⟩ := hcs
    simp only [Prod.mk.injEq] at hx
    obtain ⟨rfl, rfl⟩ := hx
    simp only [if_true] at hz
    have bd : ∀ i, i < len → (0 : Int) ≤ Z.getD i 0 ∧ Z.getD i 0 ≤ 18446744073709551615 := fun i hi => by
      have e : Z.getD i 0 = Z[i] := by simp [List.getD, show i < Z.length by omega]
      rw [e]; exact bounds_u64 (hwz _ (List.getElem_mem _))
    have gt : ∀ i, i < len → (((Z.take len).map Int.toNat).getD i 0 : Int) = Z.getD i 0 := fun i hi => by
      have e : Z.getD i 0 = Z[i] := by simp [List.getD, show i < Z.length by omega]
      have b := bd i hi
      rw [e] at b ⊢
      simp [List.getD, hi, show i < Z.length by omega]
      omega
    have ln : ((Z.take len).map Int.toNat).length = len := by simp; omega
    have hlim : ∀ i, i < len → ((Z.take len).map Int.toNat).getD i 0 < 18446744073709551616 := fun i hi => by
      have h1 := gt i hi
      have h2 := bd i hi
      omega
    refine ⟨(Z.take len).map Int.toNat, ln, ⟨some a, cap, by rw [ln], fun i hi => ?_, fun i hi => hlim i (by rw [← ln]; exact hi)⟩, fun x hx => ?_, Or.inr ⟨_, _, rfl, by simp [lits]; omega⟩⟩
    · rw [ln] at hi
      have c0 := hcell i (by omega)
      obtain ⟨b, off, sp⟩ := a
      obtain rfl : sp = none := by
        have := spotN (hcell 0 (by omega))
        simpa [Addr.add] using this
      rw [add_at] at c0
      exact ⟨b, off, rfl, block_lt_of_cell c0, by rw [gt i hi]; exact c0⟩
    · obtain ⟨i, hi, rfl⟩ := List.getElem_of_mem hx
      have h1 := hlim i (by rw [← ln]; exact hi)
      rw [getD_at hi] at h1
      exact h1
theorem inI_each {W : World} {a0 : Option Addr} {n cap : Nat} {zs : List Int} (h : InI W (.slice a0 n cap) zs) (hl : zs.length = n) : ∀ i, i < n → ∃ b off z, a0 = some ⟨b, off, none⟩ ∧ b < W.heap.size ∧ W.cell? ⟨b, off + i, none⟩ = some (.int .i64 z) := fun i hi => by
  obtain ⟨ao, cap', e, h2⟩ := h
  cases e
  obtain ⟨b, off, e2, h3, h4⟩ := h2 i (by omega)
  exact ⟨b, off, _, e2, h3, h4⟩
end Go.Proofs.Ytmfnjmgdindlaaa
