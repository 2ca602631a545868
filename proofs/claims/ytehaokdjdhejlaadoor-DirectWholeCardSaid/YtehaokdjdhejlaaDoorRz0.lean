/-
  Lists of int64 in rows of their own; the state of DirectWhole's first loop.
-/
import Derived.Test.YtehaokdjdhejlaaDoorLa2
import Derived.Test.YtehaokdjdhejlaaDoorDw0
import Derived.Test.YtehaokdjdhejlaaDoorFrm
import Derived.Deep.DeepCutAuto
namespace Go.Proofs.YtehaokdjdhejlaaDoor
open Flo Go.RowKit
theorem umod10 {a : Int} {m : Nat} (hm : 0 < m) : ∃ A : Nat, A < m ∧ (IntKind.u64.wrap a).tmod m = (A : Int) := by
  refine ⟨((IntKind.u64.wrap a).tmod m).toNat, ?_, ?_⟩
  all_goals
    rw [IntKind.wrap_u64, Int.tmod_eq_emod_of_nonneg (by omega)]
    have h1 := Int.emod_nonneg (a % 18446744073709551616) (b := (m : Int)) (by omega)
    have h2 := Int.emod_lt_of_pos (a % 18446744073709551616) (b := (m : Int)) (by omega)
    omega
theorem infoI64 : (Tryd.prog.info? 2).map (fun i => (i.zero, i.size, i.bytes)) = some (some (.int .i64 0), 1, 8) := by kernel_rfl
theorem makeI64 (w : World) (n : Nat) (hn : n ≤ 1024) :
    ∃ w', (Instr.makeSlice 56 (.int .i64 (n : Int)) (.int .i64 (n : Int))).run Tryd.prog w = .ok (.slice (some ⟨w.heap.size, 0, none⟩) n n) w' ∧
      Hid (w'.ownsRow w.heap.size 2 1 (.slice (some ⟨w.heap.size, 0, none⟩) n n) n (List.replicate n (.int .i64 0))) ∧ Hid (Below w.heap.size w w') := by
  obtain ⟨i0, hi0, h⟩ := Option.map_eq_some_iff.1 infoI64
  simp only [Prod.mk.injEq] at h
  obtain ⟨hz0, hz1, hz2⟩ := h
  obtain ⟨w', h1, h2, h3⟩ := run_make_full (P := Tryd.prog) w w.heap.size 56 2 i0 (.int .i64 0) 1 Tryd.underlying56 hi0 hz0 hz1 .i64 .i64 n (by rw [hz2]; omega) (by unfold maxLen; omega) (Nat.le_refl _)
  refine ⟨w', h1, ?_, (Below.refl _ w).grown h3 (Nat.le_refl _) (fun b e => by cases e)⟩
  have e : (Value.int .i64 0).cells = #[.int .i64 0] := rfl
  rw [e, Nat.mul_one, toList_madeCells_one] at h2
  exact h2
/-- a list of whole numbers in a row of its own -/
structure Rz (w : World) (B g n : Nat) (zs : List Int) : Prop where
  own : w.ownsRow B 2 1 (.slice (some ⟨g, 0, none⟩) n n) n (zs.map fun z => .int .i64 z)
  len : zs.length = n
theorem Rz.cell {w : World} {B g n : Nat} {zs : List Int} (h : Rz w B g n zs) {k : Nat} (hk : k < n) : w.cell? ⟨g, k, none⟩ = some (.int .i64 (zs.getD k 0)) := by
  have := h.own.cellAt k (by omega)
  rw [List.getElem?_map, List.getElem?_eq_getElem (by rw [h.len]; exact hk)] at this
  simp [List.getD, show k < zs.length by rw [h.len]; exact hk]
  simpa using this
theorem Rz.frozen {w : World} {B g n : Nat} {zs : List Int} (h : Rz w B g n zs) (k : Nat) : w.frozen? ⟨g, k, none⟩ = false := by
  have := h.own.frozenAt k
  simpa using this
theorem Rz.put {w : World} {B g n : Nat} {zs : List Int} (h : Rz w B g n zs) (k : Nat) (z : Int) : Rz (w.setCell ⟨g, k, none⟩ (.int .i64 z)) B g n (zs.set k z) := by
  have h1 := (h.own.stored k (.int .i64 z)).1
  refine ⟨?_, by rw [List.length_set, h.len]⟩
  rw [List.map_set]
  exact h1
theorem Rz.keep {w w' : World} {B g n : Nat} {zs : List Int} (h : Rz w B g n zs) (hb : Below w.heap.size w w') : Rz w' B g n zs := ⟨own_blw h.own hb, h.len⟩
/-- the pairs of two lists, as floats, as far as j -/
def xlp (rs is : List Int) (j : Nat) : List (Nat × Nat) := (List.range j).map fun i => (Rp.fl (rs.getD i 0), Rp.fl (is.getD i 0))
theorem xlp_len (rs is : List Int) (j : Nat) : (xlp rs is j).length = j := by simp [xlp]
theorem xlp_snoc (rs is : List Int) (j : Nat) : xlp rs is (j + 1) = xlp rs is j ++ [(Rp.fl (rs.getD j 0), Rp.fl (is.getD j 0))] := by simp [xlp, List.range_succ]
theorem getD_seti {zs : List Int} {i j : Nat} (z : Int) (h : i ≠ j) : (zs.set i z).getD j 0 = zs.getD j 0 := by simp [List.getD, h]
theorem getD_seti' {zs : List Int} {i : Nat} (z : Int) (h : i < zs.length) : (zs.set i z).getD i 0 = z := by simp [List.getD, h]
theorem xlp_set {rs is : List Int} {j : Nat} (a b : Int) : xlp (rs.set j a) (is.set j b) j = xlp rs is j := by
  unfold xlp
  apply List.map_congr_left
  intro i hi
  have : i < j := List.mem_range.1 hi
  rw [getD_seti a (by omega), getD_seti b (by omega)]
/-- the two lists of whole numbers and the list of their pairs so far -/
structure Stw (w : World) (gr gi Bx n j : Nat) (v : Value) (rs is : List Int) : Prop where
  rr : Rz w gr gr n rs
  ri : Rz w gi gi n is
  hx : w.ownsRow Bx 37 1 v j (cz (xlp rs is j))
  ne : gr ≠ gi
  lr : gr < Bx
  li : gi < Bx
  br : ∀ i, (rs.getD i 0).natAbs < 1099511627776
  bi : ∀ i, (is.getD i 0).natAbs < 1099511627776
  sz : Bx ≤ w.heap.size
theorem Stw.put {w : World} {gr gi Bx n j : Nat} {v : Value} {rs is : List Int} (h : Stw w gr gi Bx n j v rs is) (hj : j < n) (a b : Int) (ha : a.natAbs < 1099511627776) (hb : b.natAbs < 1099511627776) :
    Stw ((w.setCell ⟨gr, j, none⟩ (.int .i64 a)).setCell ⟨gi, j, none⟩ (.int .i64 b)) gr gi Bx n j v (rs.set j a) (is.set j b) := by
  have k1 : (w.setCell ⟨gr, j, none⟩ (.int .i64 a)).heap[gi]? = w.heap[gi]? := Below.heap_setCell _ _ _ _ (fun e => h.ne e.symm)
  have k2 : ((w.setCell ⟨gr, j, none⟩ (.int .i64 a)).setCell ⟨gi, j, none⟩ (.int .i64 b)).heap[gr]? = (w.setCell ⟨gr, j, none⟩ (.int .i64 a)).heap[gr]? := Below.heap_setCell _ _ _ _ h.ne
  have r1 := h.rr.put j a
  have r2 : Rz (w.setCell ⟨gr, j, none⟩ (.int .i64 a)) gi gi n is := ⟨owns_block h.ri.own (fun b hb => by cases hb; exact k1), h.ri.len⟩
  refine ⟨⟨owns_block r1.own (fun b hb => by cases hb; exact k2), r1.len⟩, r2.put j b, ?_, h.ne, h.lr, h.li, fun i => ?_, fun i => ?_, by simp [World.setCell]; exact h.sz⟩
  · rw [xlp_set]
    refine owns_block (owns_block h.hx (w' := w.setCell ⟨gr, j, none⟩ (.int .i64 a)) (fun c hc => ?_)) (fun c hc => ?_)
    · exact Below.heap_setCell _ _ _ _ (fun e => by have := (h.hx.lt c hc).1; have := h.lr; simp at e; omega)
    · exact Below.heap_setCell _ _ _ _ (fun e => by have := (h.hx.lt c hc).1; have := h.li; simp at e; omega)
  · by_cases c : j = i
    · subst c; rw [getD_seti' a (by rw [h.rr.len]; exact hj)]; exact ha
    · rw [getD_seti a c]; exact h.br i
  · by_cases c : j = i
    · subst c; rw [getD_seti' b (by rw [h.ri.len]; exact hj)]; exact hb
    · rw [getD_seti b c]; exact h.bi i
theorem rep0 (n i : Nat) : (List.replicate n (0 : Int)).getD i 0 = 0 := by
  by_cases h : i < n <;> simp [List.getD, h]
theorem Stw.drew {w : World} {gr gi Bx n j : Nat} {v : Value} {rs is : List Int} (h : Stw w gr gi Bx n j v rs is) : Stw w.drew gr gi Bx n j v rs is :=
  ⟨⟨h.rr.own, h.rr.len⟩, ⟨h.ri.own, h.ri.len⟩, h.hx, h.ne, h.lr, h.li, h.br, h.bi, h.sz⟩
theorem Stw.app {w w' : World} {gr gi Bx n j : Nat} {v v' : Value} {rs is : List Int} (h : Stw w gr gi Bx n j v rs is) (o : Obj) (hown : w'.ownsRow Bx 37 1 v' (j + 1) (cz (xlp rs is (j + 1)))) (hg : (w.alloc o).grownBy w' v.ownBlock) : Stw w' gr gi Bx n (j + 1) v' rs is := by
  have key : ∀ b, b < Bx → w'.heap[b]? = w.heap[b]? := fun b hb => by
    have hB := h.sz
    have h1 := hg.block b (by simp; omega) (fun e => by have := (h.hx.lt b e.symm).1; omega)
    rw [h1]
    exact Below.heap_alloc _ _ _ (by omega)
  exact ⟨⟨owns_block h.rr.own (fun b hb => by cases hb; exact key _ h.lr), h.rr.len⟩, ⟨owns_block h.ri.own (fun b hb => by cases hb; exact key _ h.li), h.ri.len⟩, hown, h.ne, h.lr, h.li, h.br, h.bi, by have h1 := hg.size; have h2 := h.sz; simp at h1; omega⟩
/-- 1, 2, 4 -/
def n124 (A : Nat) : Nat := if A = 0 then 1 else if A = 1 then 2 else 4
end Go.Proofs.YtehaokdjdhejlaaDoor
