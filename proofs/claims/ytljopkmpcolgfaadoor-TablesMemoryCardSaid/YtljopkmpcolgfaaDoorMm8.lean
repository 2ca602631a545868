/-
  What lies beside the Tables in the walk of TablesMemory.
-/
import Derived.Test.YtljopkmpcolgfaaDoorTh8
import Derived.RangeFuncNested
import Derived.RangeFuncBox
import Derived.Maps.OwnIn
namespace Go.Proofs.YtljopkmpcolgfaaDoor
open Flo Go.RowKit Go.Maps Go.MuLone
/-- the boxes of 'stop' and of the result -/
structure Mb (w : World) (N : Nat) (stop : Int) : Prop where
  cS : w.cell? ⟨N, 0, none⟩ = some (.int .i64 stop)
  cR : w.cell? ⟨N + 1, 0, none⟩ = some (.bool false)
  fR : w.frozen? ⟨N + 1, 0, none⟩ = false
section
variable {S : Nat → Prop} {w w' : World} {N : Nat} {stop : Int}
theorem Mb.lt (h : Mb w N stop) : N + 1 < w.heap.size := World.block_lt_of_cell? w _ h.cR
theorem Mb.fr (h : Mb w N stop) (hf : Fr S w w') (h1 : ¬ S N) (h2 : ¬ S (N + 1)) : Mb w' N stop :=
  ⟨hf.cell h.cS h1, hf.cell h.cR h2, (hf.frozen (p := ⟨N + 1, 0, none⟩) h.lt h2).trans h.fR⟩
theorem Mb.below (h : Mb w N stop) (hb : Below w.heap.size w w') : Mb w' N stop :=
  h.fr (S := fun k => w.heap.size ≤ k) (Fr.of_below hb fun _ h _ => h) (by have := h.lt; omega) (by have := h.lt; omega)
end
/-- what the first half of TablesMemory keeps -/
structure A8 (w0 w : World) (N1 t bm n G2 G3 : Nat) (stop : Int) : Prop where
  tb : TB (fun k => k < N1) w t bm [n] 1
  c2 : Cel w G2 n
  c3 : Cel w G3 n
  mb : Mb w w0.heap.size stop
  bl : Below w0.heap.size w0 w
section
variable {S : Nat → Prop} {w0 w w' : World} {N1 t bm n G2 G3 : Nat} {stop : Int}
/-- a row of one's own is written -/
theorem A8.write (h : A8 w0 w N1 t bm n G2 G3 stop) (hf : Fr S w w') (h1 : ∀ k, k < w.heap.size → S k → N1 ≤ k ∧ k ≠ G2 ∧ k ≠ G3) (hN : w0.heap.size + 2 ≤ N1) : A8 w0 w' N1 t bm n G2 G3 stop := by
  have hl := h.mb.lt
  have hs := h.bl.size
  exact ⟨h.tb.under hf fun k hk hs hF => by have := (h1 k hk hs).1; omega, h.c2.fr hf fun hs => (h1 _ h.c2.lt hs).2.1 rfl, h.c3.fr hf fun hs => (h1 _ h.c3.lt hs).2.2 rfl,
    h.mb.fr hf (fun hs => by have := (h1 _ (by omega) hs).1; omega) (fun hs => by have := (h1 _ hl hs).1; omega), hf.below h.bl hs fun k hk hs => by have := (h1 k hk hs).1; omega⟩
theorem A8.below (h : A8 w0 w N1 t bm n G2 G3 stop) (hb : Below w.heap.size w w') : A8 w0 w' N1 t bm n G2 G3 stop := ⟨h.tb.below hb, h.c2.below hb, h.c3.below hb, h.mb.below hb, below_tr h.bl hb⟩
theorem A8.drewN (h : A8 w0 w N1 t bm n G2 G3 stop) (k : Nat) : A8 w0 (w.drewN k) N1 t bm n G2 G3 stop := h.below (below_drewN (Below.refl _ _) k)
/-- a call on the Tables -/
theorem A8.call (h : A8 w0 w N1 t bm n G2 G3 stop) (hn : 0 < n) (hf : Fr (Go.Proofs.YtljopkmpcolgfaaDoor.tb t bm) w w') (hT : TB (fun k => k < N1) w' t bm [n] 1) (h1 : w0.heap.size + 2 ≤ t) (h2 : w0.heap.size + 2 ≤ bm) : A8 w0 w' N1 t bm n G2 G3 stop :=
  ⟨hT, h.c2.fr hf (h.tb.row_ne h.c2 hn), h.c3.fr hf (h.tb.row_ne h.c3 hn), h.mb.fr hf (by rintro (e | e) <;> omega) (by rintro (e | e) <;> omega), fr_below hf h.bl (by omega) (by omega) h.bl.size⟩
end
theorem nm_new (n : Nat) : nm n [] 0 = 1 := by simp [nm]
theorem ins_nil (n : Nat) : ins n [] = [n] := rfl
theorem ins_one (n : Nat) : ins n [n] = [n] := by simp [ins]
theorem nm_one (n : Nat) : nm n [n] 1 = 1 := by simp [nm]
/-- a row of some complex numbers -/
def SomeC (w : World) (N : Nat) (v : Value) (n : Nat) : Prop := ∃ xs, w.ownsRow N 35 1 v n xs
theorem SomeC.cell {w : World} {N G n C i : Nat} (h : SomeC w N (.slice (some ⟨G, 0, none⟩) n C) n) (hi : i < n) : ∃ u, w.cell? ⟨G, i, none⟩ = some u := by
  obtain ⟨xs, h⟩ := h
  have hl := h.1
  exact ⟨xs[i]'(by omega), by rw [h.cellAt i (by omega), List.getElem?_eq_getElem]⟩
theorem ints_up {Q Q2 : Nat → Prop} {n0 : Nat} {A B : World} {sv : Value} {zs : List Nat} (h : Ints Q A sv zs) (hb : Below n0 A B) (h1 : ∀ b, Q b → b < n0) (h2 : ∀ b, Q b → Q2 b) : Ints Q2 B sv zs := by
  rcases h with h | ⟨b, cap, hz, e, hq, hc⟩
  · exact .inl h
  · exact .inr ⟨b, cap, hz, e, h2 b hq, fun j hj => (hb.cell (p := ⟨b, j, none⟩) (h1 b hq)).trans (hc j hj)⟩
theorem own_blk8 {β : Type} (B D : Nat) (o : Obj) (h : D < B) : OwnFrom B (fun (_ : β) (W : World) => W.heap[D]? = some o) := fun _ _ _ _ hs hg hr =>
  (hg.block D (Array.getElem?_eq_some_iff.1 hs).1 (fun e => by have := (hr D e.symm).1; omega)).trans hs
/-- what the second half of TablesMemory keeps: the boxes, the list 'was' (the one number n), the iterator -/
structure K8 (w : World) (N X t bm Bw g lc Bs n : Nat) (stop : Int) : Prop where
  mb : Mb w N stop
  cW : w.cell? ⟨Bw, 0, none⟩ = some (.slice (some ⟨g, 0, none⟩) 1 lc)
  cG : w.cell? ⟨g, 0, none⟩ = some (.int .i64 (n : Int))
  it : It X w Bs [n]
  xW : X ≤ Bw
  xG : X ≤ g
  t1 : N + 2 ≤ t ∧ t < X
  t2 : N + 2 ≤ bm ∧ bm < X
section
variable {S : Nat → Prop} {w w' : World} {N X t bm Bw g lc Bs n : Nat} {stop : Int}
theorem K8.fr' (h : K8 w N X t bm Bw g lc Bs n stop) (hf : Fr S w w') (hS : ∀ k, S k → (N + 2 ≤ k ∧ k < X) ∨ w.heap.size ≤ k) : K8 w' N X t bm Bw g lc Bs n stop := by
  have h1 := h.mb.lt
  have h2 := World.block_lt_of_cell? w _ h.cW
  have h3 := World.block_lt_of_cell? w _ h.cG
  have h4 := h.xW
  have h5 := h.xG
  have h6 := h.t1
  refine ⟨h.mb.fr hf (fun e => by have := hS _ e; omega) (fun e => by have := hS _ e; omega), hf.cell h.cW (fun e => by have := hS _ e; simp at this h2; omega), hf.cell h.cG (fun e => by have := hS _ e; simp at this h3; omega), h.it.fr hf (fun b hb hl e => by have := hS _ e; omega), h.xW, h.xG, h.t1, h.t2⟩
theorem K8.fr (h : K8 w N X t bm Bw g lc Bs n stop) (hf : Fr (tb t bm) w w') : K8 w' N X t bm Bw g lc Bs n stop :=
  h.fr' hf fun _ hk => by have := h.t1; have := h.t2; rcases hk with rfl | rfl <;> omega
theorem K8.below (h : K8 w N X t bm Bw g lc Bs n stop) (hb : Below w.heap.size w w') : K8 w' N X t bm Bw g lc Bs n stop :=
  h.fr' (S := fun k => w.heap.size ≤ k) (Fr.of_below hb fun _ h _ => h) (fun _ hk => .inr hk)
end
end Go.Proofs.YtljopkmpcolgfaaDoor
