/-
  Lists of bits that came in, each place by itself; the pairs that they are.
-/
import Derived.Test.YtgfmimmiaalhcaaDoorDs0
import Derived.Test.YtgfmimmiaalhcaaDoorClx
namespace Go.Proofs.YtgfmimmiaalhcaaDoor
open Flo Go.RowKit
/-- a list of bits that came in, each place by itself -/
def InU (w : World) (v : Value) (zs : List Nat) : Prop :=
  ∃ ao cap, v = .slice ao zs.length cap ∧ (∀ i, i < zs.length → ∃ b off, ao = some ⟨b, off, none⟩ ∧ b < w.heap.size ∧ w.cell? ⟨b, off + i, none⟩ = some (.int .u64 ((zs.getD i 0 : Nat) : Int))) ∧ (∀ i, i < zs.length → zs.getD i 0 < 18446744073709551616)
theorem InU.below {w w' : World} {v : Value} {zs : List Nat} (h : InU w v zs) (hb : Below w.heap.size w w') : InU w' v zs := by
  obtain ⟨ao, cap, e, h2, h3⟩ := h
  refine ⟨ao, cap, e, fun i hi => ?_, h3⟩
  obtain ⟨b, off, e2, h4, h5⟩ := h2 i hi
  exact ⟨b, off, e2, Nat.lt_of_lt_of_le h4 hb.size, (hb.cell (p := ⟨b, off + i, none⟩) h4).trans h5⟩
/-- the pairs, as far as pair k -/
def prk (zs : List Nat) (k : Nat) : List (Nat × Nat) := (List.range k).map fun i => (zs.getD (2 * i) 0, zs.getD (2 * i + 1) 0)
def prs (zs : List Nat) : List (Nat × Nat) := prk zs (zs.length / 2)
theorem prk_len (zs : List Nat) (k : Nat) : (prk zs k).length = k := by simp [prk]
theorem prs_len (zs : List Nat) : (prs zs).length = zs.length / 2 := prk_len ..
theorem prk_snoc (zs : List Nat) (k : Nat) : prk zs (k + 1) = prk zs k ++ [(zs.getD (2 * k) 0, zs.getD (2 * k + 1) 0)] := by simp [prk, List.range_succ]
theorem prs_lim {zs : List Nat} (h : ∀ i, i < zs.length → zs.getD i 0 < 18446744073709551616) : Lim (prs zs) := by
  intro i hi
  rw [prs_len] at hi
  unfold prs prk
  rw [getD_map_range _ _ _ _ hi]
  exact ⟨h _ (by omega), h _ (by omega)⟩
/-- a list of whole numbers that came in, each place by itself -/
def InS (w : World) (v : Value) (zs : List Int) : Prop :=
  ∃ ao cap, v = .slice ao zs.length cap ∧ ∀ i, i < zs.length → ∃ b off, ao = some ⟨b, off, none⟩ ∧ b < w.heap.size ∧ w.cell? ⟨b, off + i, none⟩ = some (.int .i64 (zs.getD i 0))
/-- a place's cells, from p on -/
structure PlAt (w : World) (q p : Nat) (k s n m : Int) : Prop where
  c0 : w.cell? ⟨q, p, none⟩ = some (.int .i64 k)
  c1 : w.cell? ⟨q, p + 1, none⟩ = some (.int .i64 s)
  c2 : w.cell? ⟨q, p + 2, none⟩ = some (.int .i64 n)
  c3 : w.cell? ⟨q, p + 3, none⟩ = some (.int .i64 m)
  b0 : -9223372036854775808 ≤ k ∧ k ≤ 9223372036854775807
  b1 : -9223372036854775808 ≤ s ∧ s ≤ 9223372036854775807
  b2 : -9223372036854775808 ≤ n ∧ n ≤ 9223372036854775807
  b3 : -9223372036854775808 ≤ m ∧ m ≤ 9223372036854775807
/-- a list of places -/
def InP (w : World) (ao : Option Addr) (len : Nat) : Prop :=
  ∀ i, i < len → ∃ q o k s n m, ao = some ⟨q, o, none⟩ ∧ q < w.heap.size ∧ PlAt w q (o + i * 4) k s n m
end Go.Proofs.YtgfmimmiaalhcaaDoor
