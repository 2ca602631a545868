/-
  The contract of the statements' own 'floats': a new list of the floats of these bits; nothing that was there has turned.
-/
import Derived.Test.YtmfnjmgdindlaaaLow
import Derived.Outline
namespace Go.Proofs.Ytmfnjmgdindlaaa
open Flo Go.RowKit
theorem info24 : (Try.prog.info? 26).map (fun i => (i.zero, i.size, i.bytes)) = some (some (.float .f64 0), 1, 8) := by kernel_rfl
def fl (zs : List Nat) : List Value := zs.map (Value.float .f64)
theorem fl_len (zs : List Nat) : (fl zs).length = zs.length := by simp [fl]
theorem fl_snoc (zs : List Nat) (k : Nat) (h : k < zs.length) : fl (zs.take (k + 1)) = fl (zs.take k) ++ [.float .f64 (zs.getD k 0)] := by
  unfold fl
  have e : zs.getD k 0 = zs[k] := by simp [List.getD, h]
  rw [List.take_succ_eq_append_getElem h, List.map_append, e]
  rfl
/-- A list of bits that came in. -/
def InS (w : World) (v : Value) (zs : List Nat) : Prop :=
  ∃ ao cap, v = .slice ao zs.length cap ∧ (zs ≠ [] → ∃ b off, ao = some ⟨b, off, none⟩ ∧ b < w.heap.size ∧ ∀ i, i < zs.length → w.cell? ⟨b, off + i, none⟩ = some (.int .u64 ((zs.getD i 0 : Nat) : Int)))
theorem InS.below {w w' : World} {v : Value} {zs : List Nat} (h : InS w v zs) (hb : Below w.heap.size w w') : InS w' v zs := by
  obtain ⟨ao, cap, rfl, h2⟩ := h
  refine ⟨ao, cap, rfl, fun hz => ?_⟩
  obtain ⟨b, off, rfl, h3, h4⟩ := h2 hz
  exact ⟨b, off, rfl, Nat.lt_of_lt_of_le h3 hb.size, fun i hi => (hb.cell (p := ⟨b, off + i, none⟩) h3).trans (h4 i hi)⟩
/-- A list of floats that can be read. -/
def Rd (w : World) (v : Value) (xs : List Nat) : Prop :=
  ∃ ao cap, v = .slice ao xs.length cap ∧ (xs ≠ [] → ∃ b off, ao = some ⟨b, off, none⟩ ∧ ∀ i, i < xs.length → w.cell? ⟨b, off + i, none⟩ = some (.float .f64 (xs.getD i 0)))
/-- Two lists, alike. -/
def sl (xs ys : List Nat) : Bool := decide (xs.length = ys.length ∧ ∀ i, i < xs.length → bt (xs.getD i 0) = bt (ys.getD i 0))
theorem sl_true {xs ys : List Nat} (h : xs.length = ys.length) (h2 : ∀ i, i < xs.length → bt (xs.getD i 0) = bt (ys.getD i 0)) : true = sl xs ys := (decide_eq_true ⟨h, h2⟩).symm
theorem sl_len {xs ys : List Nat} (h : xs.length ≠ ys.length) : false = sl xs ys := (decide_eq_false fun q => h q.1).symm
theorem sl_at {xs ys : List Nat} {k : Nat} (hk : k < xs.length) (h : bt (xs.getD k 0) ≠ bt (ys.getD k 0)) : false = sl xs ys := (decide_eq_false fun q => h (q.2 k hk)).symm
def lim (xs : List Nat) : Prop := ∀ x ∈ xs, x < 18446744073709551616
theorem lim_at {xs : List Nat} (h : lim xs) (i : Nat) (hi : i < xs.length) : xs.getD i 0 < 18446744073709551616 := by
  have e : xs.getD i 0 = xs[i] := by simp [List.getD, hi]
  rw [e]; exact h _ (List.getElem_mem _)
end Go.Proofs.Ytmfnjmgdindlaaa
