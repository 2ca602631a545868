/-
  The document's reading: the orders that aren't ended, in memory.
-/
import Derived.Test.YtfoblbpbhldngaaDoorOy1
import Derived.Test.YtfoblbpbhldngaaDoorOd12
import Derived.Test.YtfoblbpbhldngaaDoorOq4
namespace Go.Proofs.YtfoblbpbhldngaaDoor
open Flo Go.RowKit Tr
/-- the orders that aren't ended: a row of its own; the orders lie elsewhere -/
structure Gq (X B : Nat) (w : World) (sv : Value) (fs : List Tr) (ss : List Value) : Prop where
  own : w.ownsRow B 71 3 sv fs.length (cso fs ss)
  len : ss.length = fs.length
  sl : ∀ s ∈ ss, ∃ a l c, s = .slice a l c
  kid : ∀ (j : Nat) t s, fs[j]? = some t → ss[j]? = some s → Os (fun b => (B ≤ b ∧ b ≠ X) ∧ some b ≠ sv.ownBlock) w t (.agg #[.int .i64 t.k, .int .i64 t.n, s])
  nl : ∀ (j : Nat) t s, fs[j]? = some t → ss[j]? = some s → (t.ks = [] ∧ s = .slice none 0 0) ∨ ∃ x, t.ks = [x]
/-- all but the blocks g and the row's stay -/
structure Ch (w w' : World) (g : Nat) (sv : Value) : Prop where
  os : w'.os = w.os
  tape : w'.tape = w.tape
  output : w'.output = w.output
  size : w.heap.size ≤ w'.heap.size
  block : ∀ b, b < w.heap.size → b ≠ g → some b ≠ sv.ownBlock → w'.heap[b]? = w.heap[b]?
theorem Ch.gb {w w' : World} {g : Nat} {sv : Value} (h : w.grownBy w' (some g)) : Ch w w' g sv := ⟨h.os, h.tape, h.output, h.size, fun b hb hn _ => h.block b hb (fun e => hn (Option.some.inj e))⟩
theorem Ch.refl (w : World) (g : Nat) (sv : Value) : Ch w w g sv := ⟨rfl, rfl, rfl, Nat.le_refl _, fun _ _ _ _ => rfl⟩
theorem Ch.bel {w w' : World} {g : Nat} {sv : Value} (h : Below w.heap.size w w') : Ch w w' g sv := ⟨h.os, h.tape, h.output, h.size, fun b hb _ _ => h.block b hb⟩
theorem Ch.tr {w w1 w2 : World} {g : Nat} {sv sv1 : Value} (h : Ch w w1 g sv) (k : Ch w1 w2 g sv1) (hn : ∀ b, sv1.ownBlock = some b → sv.ownBlock = some b ∨ w.heap.size ≤ b) : Ch w w2 g sv :=
  ⟨k.os.trans h.os, k.tape.trans h.tape, k.output.trans h.output, Nat.le_trans h.size k.size, fun b hb h1 h2 => by
    rw [k.block b (Nat.lt_of_lt_of_le hb h.size) h1 (fun e => ?_)]
    · exact h.block b hb h1 h2
    · rcases hn b e.symm with h3 | h3
      · exact h2 h3.symm
      · omega⟩
theorem Ch.below {w0 w w' : World} {g B : Nat} {sv : Value} (hb : Below B w0 w) (h : Ch w w' g sv) (hg : B ≤ g) (hB : B ≤ w.heap.size) (hs : ∀ b, sv.ownBlock = some b → B ≤ b) : Below B w0 w' :=
  ⟨h.os.trans hb.os, h.tape.trans hb.tape, h.output.trans hb.output, Nat.le_trans hb.size h.size, fun k hk => by
    rw [h.block k (by omega) (by omega) (fun e => by have := hs k e.symm; omega)]
    exact hb.block k hk⟩
theorem Gq.nil (X B : Nat) (w : World) : Gq X B w (.slice none 0 0) [] [] := ⟨World.ownsRow_nil _ _ _ _, rfl, (fun s h => by cases h), (fun j t s h => by simp at h), fun j t s h => by simp at h⟩
/-- it stays where only the block g and new blocks are touched -/
theorem Gq.gb {X B : Nat} {w w' : World} {g : Nat} {sv : Value} {fs : List Tr} {ss : List Value} (h : Gq X B w sv fs ss) (hg : w.grownBy w' (some g)) (hB : g < B) : Gq X B w' sv fs ss := by
  refine ⟨h.own.kept hg ?_, h.len, h.sl, fun j t s h1 h2 => (h.kid j t s h1 h2).gb hg (fun b hb => by have := hb.1.1; omega), h.nl⟩
  cases hv : sv.ownBlock with
  | none => exact .inl rfl
  | some b => exact .inr (fun e => by have h1 := (h.own.lt b hv).1; have := Option.some.inj e; omega)
theorem Gq.bel {X B : Nat} {w w' : World} {sv : Value} {fs : List Tr} {ss : List Value} (h : Gq X B w sv fs ss) (hb : Below w.heap.size w w') : Gq X B w' sv fs ss := by
  refine ⟨h.own.kept (below_gb hb none) ?_, h.len, h.sl, (fun j t s h1 h2 => (h.kid j t s h1 h2).bel hb), h.nl⟩
  cases hv : sv.ownBlock with
  | none => exact .inl rfl
  | some b => exact .inr (by simp)
/-- one more that has no Kids yet -/
theorem Gq.push {X B g : Nat} {w w' : World} {sv sv' : Value} {fs : List Tr} {ss : List Value} {k n : Int} (h : Gq X B w sv fs ss) (hf : fit k n) (hown : w'.ownsRow B 71 3 sv' (fs.length + 1) (cso fs ss ++ [.int .i64 k, .int .i64 n, .slice none 0 0])) (hg : Ch w w' g sv) (hB : g < B) (hnew : ∀ b, sv'.ownBlock = some b → sv.ownBlock = some b ∨ w.heap.size ≤ b) : Gq X B w' sv' (fs ++ [⟨k, n, []⟩]) (ss ++ [.slice none 0 0]) := by
  refine ⟨by rw [cso_snoc _ _ _ _ h.len, List.length_append]; exact hown, by simp [h.len], (fun x hx => ?_), (fun j u v h1 h2 => ?_), fun j u v h1 h2 => ?_⟩
  · rcases List.mem_append.1 hx with hx | hx
    · exact h.sl x hx
    · rw [List.mem_singleton.1 hx]; exact ⟨_, _, _, rfl⟩
  · by_cases hj : j < fs.length
    · rw [List.getElem?_append_left hj] at h1
      rw [List.getElem?_append_left (by rw [h.len]; exact hj)] at h2
      refine Os.keep2 (fun b hb hl => ⟨hb.1, fun e => ?_⟩) (fun b hb hl => hg.block b hl (by have := hb.1.1; omega) hb.2) u _ (h.kid j u v h1 h2)
      rcases hnew b e.symm with h3 | h3
      · exact hb.2 h3.symm
      · omega
    · rw [List.getElem?_append_right (by omega)] at h1
      rw [List.getElem?_append_right (by rw [h.len]; omega)] at h2
      rw [h.len] at h2
      cases hjj : j - fs.length with
      | succ n => rw [hjj] at h1; simp at h1
      | zero =>
        rw [hjj] at h1 h2
        obtain rfl : (⟨k, n, []⟩ : Tr) = u := by simpa using h1
        obtain rfl : (.slice none 0 0 : Value) = v := by simpa using h2
        exact Os.leaf hf
  · by_cases hj : j < fs.length
    · rw [List.getElem?_append_left hj] at h1
      rw [List.getElem?_append_left (by rw [h.len]; exact hj)] at h2
      exact h.nl j u v h1 h2
    · rw [List.getElem?_append_right (by omega)] at h1
      rw [List.getElem?_append_right (by rw [h.len]; omega)] at h2
      rw [h.len] at h2
      cases hjj : j - fs.length with
      | succ n => rw [hjj] at h1; simp at h1
      | zero =>
        rw [hjj] at h1 h2
        obtain rfl : (⟨k, n, []⟩ : Tr) = u := by simpa using h1
        obtain rfl : (.slice none 0 0 : Value) = v := by simpa using h2
        exact .inl ⟨rfl, rfl⟩
/-- a block that is not there yet is left out -/
theorem Gq.anew {X X' B : Nat} {w : World} {sv : Value} {fs : List Tr} {ss : List Value} (h : Gq X B w sv fs ss) (hX : w.heap.size ≤ X') : Gq X' B w sv fs ss :=
  ⟨h.own, h.len, h.sl, fun j t s h1 h2 => Os.keep2 (fun b hb hl => ⟨⟨hb.1.1, by omega⟩, hb.2⟩) (fun _ _ _ => rfl) _ _ (h.kid j t s h1 h2), h.nl⟩
/-- the block that is left out may be written -/
theorem Gq.spare {X B : Nat} {w w' : World} {sv : Value} {fs : List Tr} {ss : List Value} (h : Gq X B w sv fs ss) (hg : w.grownBy w' (some X)) (hs : ∀ b, sv.ownBlock = some b → b ≠ X) : Gq X B w' sv fs ss := by
  refine ⟨h.own.kept hg ?_, h.len, h.sl, fun j t s h1 h2 => (h.kid j t s h1 h2).gb hg (fun b hb => hb.1.2), h.nl⟩
  cases hv : sv.ownBlock with
  | none => exact .inl rfl
  | some b => exact .inr (fun e => hs b hv (Option.some.inj e))
end Go.Proofs.YtfoblbpbhldngaaDoor
