/-
  A list of ints that came in, opened once, nil or not.
-/
import Derived.Test.YtljopkmpcolgfaaDoorCards
import Derived.Test.YtljopkmpcolgfaaDoorPq4
import Derived.Test.YtljopkmpcolgfaaDoorErr
import Derived.Test.YtljopkmpcolgfaaDoorLaid
import Derived.ProofKit
import Derived.LaidMore
import Derived.OpenShut
import Derived.SizedLaws
import Derived.Stop.Joined
namespace Go.Proofs.YtljopkmpcolgfaaDoor
open Go.ChangeShapes Go.WideShapes Go.ChangeAt Go.RowKit
theorem cellsI : Tryd.prog.cellsOf 3 = 1 := by kernel_rfl
theorem bytesI : Tryd.prog.bytesOf 3 = 8 := by kernel_rfl
theorem laidOut : laidOutB Tryd.prog = true := by kernel_rfl
theorem ownK : ownKnob Tryd.prog.godebug = none := by kernel_rfl
theorem spotN {w : World} {a : Addr} {v : Value} (h : w.cell? a = some v) : a.spot = none := by
  unfold World.cell? at h
  split at h
  · split at h
    · cases h
    · rename_i hs; simpa using hs
  · cases h
theorem viewZ {H : Type} {enc : TypeId × Value → H} {W : World} {fuel : Nat} {a0 : Option Addr} {len cap : Nat} {d : DataW H} {p : List MemPlace}
    (hf : DataW.trod enc Tryd.prog W 0 (fun _ => true) true fuel 28 (Value.slice a0 len cap).cells.toList = some (d, p)) :
    ∃ zs : List Int, zs.length = len ∧ InZ W (.slice a0 len cap) zs ∧ (∀ z ∈ zs, -9223372036854775808 ≤ z ∧ z ≤ 9223372036854775807) ∧ (len = 0 ∨ ∃ el sp, d = .slice el sp ∧ el.length = len) := by
  rcases open_ints Tryd.underlying28 Tryd.underlying3 cellsI hf with ⟨hcs, hx⟩ | ⟨a, len', cap', Z, hcs, _, hl, hm, hz, hx, hcell, hwz⟩
  · simp [Value.cells] at hcs
    obtain ⟨rfl, rfl, rfl⟩ := hcs
    exact ⟨[], rfl, ⟨⟨_, _, rfl, fun h => absurd rfl h⟩, fun _ _ h => (by cases h; rfl)⟩, fun z hz => absurd hz (by simp), Or.inl rfl⟩
  · simp [Value.cells] at hcs
    obtain ⟨rfl, rfl, rfl⟩ := hcs
    simp only [Prod.mk.injEq] at hx
    obtain ⟨rfl, rfl⟩ := hx
    simp only [if_true] at hz
    have ln : (Z.take len).length = len := by simp; omega
    refine ⟨Z.take len, ln, ⟨⟨some a, cap, by rw [ln], fun hne => ?_⟩, fun _ _ h => (by cases h)⟩, fun z hz => bounds_i64 (hwz z (List.mem_of_mem_take hz)), Or.inr ⟨_, _, rfl, by simp [lits]; omega⟩⟩
    have h0 : 0 < len := by
      rcases Nat.eq_zero_or_pos len with h | h
      · exact absurd (List.eq_nil_of_length_eq_zero (by rw [ln, h])) hne
      · exact h
    have c0 := hcell 0 (by omega)
    obtain ⟨b, off, sp⟩ := a
    obtain rfl : sp = none := spotN c0
    refine ⟨b, off, rfl, cell_lt c0, fun i hi => ?_⟩
    rw [ln] at hi
    have e : (Z.take len).getD i 0 = Z.getD i 0 := by simp [List.getD, hi]
    rw [e, ← add_nat]
    exact hcell i (by omega)
end Go.Proofs.YtljopkmpcolgfaaDoor
