/-
  Package steps: writeStep.
-/
import Derived.Test.YtedfjedmapimnaaDoorSp6
import Derived.Test.YtedfjedmapimnaaDoorPkq
namespace Go.Proofs.YtedfjedmapimnaaDoor
open Flo Go.RowKit
/-- a set less some boxes -/
def Ex (F B : Nat → Prop) (k : Nat) : Prop := F k ∧ ¬ B k
theorem Ops.fr {S : Nat → Prop} {w w' : World} (h : Ops w) (hf : Fr S w w') (hS : ¬ S 19) : Ops w' := fun o ho => by
  obtain ⟨h0, h1, h2, h3, h4, h5, h6, h7⟩ := h o ho
  exact ⟨hf.cell h0 hS, hf.cell h1 hS, hf.cell h2 hS, hf.cell h3 hS, hf.cell h4 hS, hf.cell h5 hS, hf.cell h6 hS, hf.cell h7 hS⟩
theorem Bst.fr {S : Nat → Prop} {w w' : World} {g : Nat} {op dst src jump count n k : Int} (h : Bst w g op dst src jump count n k) (hf : Fr S w w') (hS : ¬ S g) : Bst w' g op dst src jump count n k :=
  ⟨hf.cell h.c0 hS, hf.cell h.c1 hS, hf.cell h.c2 hS, hf.cell h.c3 hS, hf.cell h.c4 hS, hf.cell h.c5 hS, hf.cell h.c6 hS⟩
/-- which fields there are, in memory -/
def Bha (w : World) (g o : Nat) : Prop := ∀ i, i < 6 → w.cell? ⟨g, i, none⟩ = some (.bool ((Sp.hl o).getD i false))
theorem Bha.fr {S : Nat → Prop} {w w' : World} {g o : Nat} (h : Bha w g o) (hf : Fr S w w') (hS : ¬ S g) : Bha w' g o := fun i hi => hf.cell (h i hi) hS
theorem Bha.new (w : World) (o : Nat) : Bha (w.alloc (.cells #[.bool true, .bool (Sp.hs o), .bool (Sp.hj o), .bool true, .bool (Sp.hn o), .bool (Sp.hk o)] 128)) w.heap.size o := fun i hi =>
  match i, hi with
  | 0, _ => by simp [Sp.hl]
  | 1, _ => by simp [Sp.hl]
  | 2, _ => by simp [Sp.hl]
  | 3, _ => by simp [Sp.hl]
  | 4, _ => by simp [Sp.hl]
  | 5, _ => by simp [Sp.hl]
  | n + 6, h => absurd h (by omega)
/-- the fields that are written, as far as i -/
def prk (s : Sp.St) (o i : Nat) : List Nat := Sp.pr ((Sp.hl o).take i) ((Sp.nl s).take i)
theorem prk_succ (s : Sp.St) (o i : Nat) (hi : i < 6) : prk s o (i + 1) = prk s o i ++ (bif (Sp.hl o).getD i false then [((Sp.nl s).getD i 0).toNat] else []) :=
  match i, hi with
  | 0, _ => by simp [prk, Sp.hl, Sp.nl, Sp.pr]
  | 1, _ => by simp [prk, Sp.hl, Sp.nl, Sp.pr]
  | 2, _ => by simp [prk, Sp.hl, Sp.nl, Sp.pr]
  | 3, _ => by simp [prk, Sp.hl, Sp.nl, Sp.pr]
  | 4, _ => by simp [prk, Sp.hl, Sp.nl, Sp.pr]
  | 5, _ => by simp [prk, Sp.hl, Sp.nl, Sp.pr]
  | n + 6, h => absurd h (by omega)
theorem prk_six (s : Sp.St) (o : Nat) : prk s o 6 = Sp.pr (Sp.hl o) (Sp.nl s) := rfl
theorem prk_len (s : Sp.St) (o : Nat) : ∀ i, i ≤ 6 → (prk s o i).length ≤ i
  | 0, _ => by simp [prk, Sp.pr]
  | i + 1, hi => by
    rw [prk_succ s o i (by omega), List.length_append]
    have := prk_len s o i (by omega)
    cases (Sp.hl o).getD i false <;> simp <;> omega
theorem nl_bd {s : Sp.St} (h : Sp.fm s = true) (i : Nat) : 0 ≤ (Sp.nl s).getD i 0 ∧ (Sp.nl s).getD i 0 ≤ 262144 := by
  obtain ⟨h1, h2, h3, h4, h5, h6, h7⟩ := Sp.fm_fields h
  match i with
  | 0 => simp [Sp.nl]; omega
  | 1 => simp [Sp.nl]; omega
  | 2 => simp [Sp.nl]; omega
  | 3 => simp [Sp.nl]; omega
  | 4 => simp [Sp.nl]; omega
  | 5 => simp [Sp.nl]; omega
  | n + 6 => simp [Sp.nl]
theorem vs_len : ∀ (l : List Nat), (∀ x ∈ l, x < 18446744073709551616) → (Sp.vs l).length ≤ 10 * l.length
  | [], _ => by simp [Sp.vs]
  | x :: l, h => by
    rw [Sp.vs_cons, List.length_append, List.length_cons]
    have h1 := Pk.vi_len (h x (by simp))
    have h2 := vs_len l fun y hy => h y (by simp [hy])
    omega
end Go.Proofs.YtedfjedmapimnaaDoor
