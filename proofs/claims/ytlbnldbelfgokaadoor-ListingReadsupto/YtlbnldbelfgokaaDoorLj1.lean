/-
  Rows of texts of one's own; pieces of a text. 
-/
import Derived.Test.YtlbnldbelfgokaaDoorLj0
import Derived.Test.YtlbnldbelfgokaaDoorLr2
import Derived.Test.YtlbnldbelfgokaaDoorSap
namespace Go.Proofs.YtlbnldbelfgokaaDoor
open Flo Go.RowKit
/-- a byte of a text -/
theorem txi (l : List UInt8) (i : Nat) (hi : i < l.length) (w : World) : (Instr.index 9 (.string (txb l)) (.int .i64 (i : Int))).run Tryd.prog w = .ok (.int .u8 ((l.getD i 0).toNat : Int)) w := by
  have hs : (i : Int) < (txb l).size := by show (i : Int) < (l.length : Int); omega
  rw [run_index_string w 9 (txb l) .i64 (i : Int) Tryd.underlying9, dif_pos ⟨by omega, hs⟩]
  congr 3
  simp [txb, List.getD, hi]
  rfl
def tcs (ws : List (List UInt8)) : List Value := ws.map fun u => Value.string (txb u)
theorem tcs_len (ws : List (List UInt8)) : (tcs ws).length = ws.length := by simp [tcs]
theorem tcs_snoc (ws : List (List UInt8)) (u : List UInt8) : tcs (ws ++ [u]) = tcs ws ++ [.string (txb u)] := by simp [tcs]
theorem tcs_one (ws : List (List UInt8)) : ∀ u ∈ tcs ws, u.oneCell' = true := by
  intro u hu
  simp only [tcs, List.mem_map] at hu
  obtain ⟨x, _, rfl⟩ := hu; rfl
/-- a row of texts of one's own -/
def OwT (w : World) (B : Nat) (v : Value) (ws : List (List UInt8)) : Prop := w.ownsRow B 9 1 v ws.length (tcs ws)
theorem OwT.fr {S : Nat → Prop} {w w' : World} {B : Nat} {v : Value} {ws : List (List UInt8)} (h : OwT w B v ws) (hf : Fr S w w') (hS : ∀ b, v.ownBlock = some b → ¬ S b) : OwT w' B v ws := Fr.owns hf h hS
theorem OwT.call {w w' : World} {B : Nat} {v : Value} {ws : List (List UInt8)} (h : OwT w B v ws) (hb : Below w.heap.size w w') : OwT w' B v ws := OwT.fr h (Fr.bel hb) fun _ _ => id
theorem OwT.lt {w : World} {B : Nat} {v : Value} {ws : List (List UInt8)} (h : OwT w B v ws) : ∀ b, v.ownBlock = some b → B ≤ b ∧ b < w.heap.size := fun b hb => World.ownsRow.lt (show w.ownsRow B 9 1 v ws.length (tcs ws) from h) b hb
/-- its cells -/
def Tx (w : World) (v : Value) (ws : List (List UInt8)) : Prop := ∃ ao cap, v = .slice ao ws.length cap ∧ (ao = none → cap = 0) ∧ ws.length ≤ cap ∧ ∀ (i : Nat) (u : List UInt8), ws[i]? = some u → ∃ b, ao = some ⟨b, 0, none⟩ ∧ w.cell? ⟨b, i, none⟩ = some (.string (txb u))
theorem OwT.tx {w : World} {B : Nat} {v : Value} {ws : List (List UInt8)} (h : OwT w B v ws) : Tx w v ws := by
  have hh : w.ownsRow B 9 1 v ws.length (tcs ws) := h
  rcases hh.2 with ⟨rfl, h1⟩ | ⟨g, cap, cur, rfl, _, _, h4, _⟩
  · exact ⟨none, 0, by rw [h1], fun _ => rfl, by omega, fun i u hi => by rw [List.eq_nil_of_length_eq_zero h1] at hi; simp at hi⟩
  · refine ⟨some ⟨g, 0, none⟩, cap, rfl, (fun e => by cases e), h4, fun i u hi => ⟨g, rfl, ?_⟩⟩
    have hlt : i < ws.length := (List.getElem?_eq_some_iff.1 hi).1
    rw [hh.cellAt i (by omega)]
    simp [tcs, hi]
theorem Tx.below {w w' : World} {v : Value} {ws : List (List UInt8)} (h : Tx w v ws) (hb : Below w.heap.size w w') : Tx w' v ws := by
  obtain ⟨ao, cap, h1, h2, h3, h4⟩ := h
  refine ⟨ao, cap, h1, h2, h3, fun i u hi => ?_⟩
  obtain ⟨b, e1, e2⟩ := h4 i u hi
  exact ⟨b, e1, (hb.cell (p := ⟨b, i, none⟩) (cell_lt e2)).trans e2⟩
theorem infoTx : (Tryd.prog.info? 9).map (fun i => (i.zero, i.size, i.bytes)) = some (some (.string ⟨#[]⟩), 1, 16) := by kernel_rfl
theorem appT {ops : Array Oper} {rest : List Oper} {o : Oper} {a : Act} {Q : Exit → Act → World → Prop} (w : World) (hgd : o.guard = none) (sl x : Operand)
    (ho : o.op = .call { callee := .builtin .append, args := #[sl, x], argTypes := #[45, 45] })
    (B : Nat) (ws : List (List UInt8)) (u : List UInt8) (q : Nat) (v : Value) (hs : a.eval sl = v) (hx : a.eval x = .slice (some ⟨q, 0, none⟩) 1 1) (hrow : OwT w B v ws)
    (hcell : w.cell? ⟨q, 0, none⟩ = some (.string (txb u))) (hk : (ws.length + 1) * 16 ≤ 140737488355328) (hB : B ≤ w.heap.size)
    (h : ∀ v' w', OwT w' B v' (ws ++ [u]) → w.grownBy w' v.ownBlock → wpList Tryd.prog ops Q rest (a.put o.dst v') w') : wpList Tryd.prog ops Q (o :: rest) a w := by
  obtain ⟨i0, hi0, hz0, hz1, hz2⟩ := info_parts infoTx
  refine wpList_append_fr w hgd sl x 45 ho B 9 i0 _ 1 16 Tryd.underlying45 hi0 hz0 hz1 hz2 rfl (by decide) v ws.length _ hs hrow ⟨q, 0, none⟩ 1 1 [.string (txb u)] hx rfl ?_ ?_ ?_ ?_ hB ?_
  · intro j y hj
    match j, hj with
    | 0, hj => simp at hj; subst hj; simpa [Addr.add] using hcell
  · intro y hy; simp at hy; subst hy; rfl
  · unfold maxLen; omega
  · omega
  · intro v' w1 hown' hgrow _
    refine h v' w1 ?_ hgrow
    unfold OwT
    rw [tcs_snoc, List.length_append]
    exact hown'
/-- how far a text is cut: the pieces, where the next one begins, how far it is known -/
def CP (c : UInt8) (l : List UInt8) (i : Nat) (fr : Nat) (ws : List (List UInt8)) : Prop :=
  fr ≤ i ∧ i ≤ l.length ∧ ws.length ≤ i ∧ Li.sp c l = ws ++ Li.sp c (l.drop fr) ∧ c ∉ (l.drop fr).take (i - fr)
theorem CP.start (c : UInt8) (l : List UInt8) : CP c l 0 0 [] := ⟨Nat.le_refl _, Nat.zero_le _, Nat.zero_le _, by simp, by simp⟩
theorem drop_at8 (l : List UInt8) (i : Nat) (hi : i < l.length) : l.drop i = l.getD i 0 :: l.drop (i + 1) := by
  rw [List.drop_eq_getElem_cons hi]; simp [List.getD, hi]
theorem CP.go {c : UInt8} {l : List UInt8} {i fr : Nat} {ws : List (List UInt8)} (h : CP c l i fr ws) (hi : i < l.length) (hc : l.getD i 0 ≠ c) : CP c l (i + 1) fr ws := by
  obtain ⟨h1, h2, h3, h4, h5⟩ := h
  refine ⟨by omega, hi, by omega, h4, ?_⟩
  rw [show i + 1 - fr = (i - fr) + 1 by omega, List.take_add_one, List.getElem?_drop, show fr + (i - fr) = i by omega, List.getElem?_eq_getElem hi, List.mem_append]
  rintro (h | h)
  · exact h5 h
  · simp at h
    exact hc (by simp [List.getD, hi, h])
theorem CP.cut {c : UInt8} {l : List UInt8} {i fr : Nat} {ws : List (List UInt8)} (h : CP c l i fr ws) (hi : i < l.length) (hc : l.getD i 0 = c) : CP c l (i + 1) (i + 1) (ws ++ [(l.drop fr).take (i - fr)]) := by
  obtain ⟨h1, h2, h3, h4, h5⟩ := h
  refine ⟨Nat.le_refl _, hi, by simp; omega, ?_, by simp⟩
  rw [h4]
  have e : l.drop fr = (l.drop fr).take (i - fr) ++ Li.jn c [] ++ l.drop i := by
    have h9 := List.take_append_drop (i - fr) (l.drop fr)
    rw [List.drop_drop, show fr + (i - fr) = i by omega] at h9
    simp [Li.jn, h9]
  obtain ⟨w1, ws1, g1, g2, g3, g4⟩ := Li.sp_parts c (l.drop (i + 1))
  have e2 : l.drop fr = (l.drop fr).take (i - fr) ++ Li.jn c (w1 :: ws1) := by
    rw [Li.jn_cons, ← g2, ← hc, ← drop_at8 l i hi]
    have h9 := List.take_append_drop (i - fr) (l.drop fr)
    rw [List.drop_drop, show fr + (i - fr) = i by omega] at h9
    exact h9.symm
  rw [g1, List.append_assoc]
  congr 1
  have h9 := Li.sp_join (c := c) ((l.drop fr).take (i - fr)) (w1 :: ws1) h5 (by
    intro v hv
    rcases List.mem_cons.1 hv with rfl | hv
    · exact g3
    · exact g4 v hv)
  rw [← e2] at h9
  exact h9
theorem CP.done {c : UInt8} {l : List UInt8} {fr : Nat} {ws : List (List UInt8)} (h : CP c l l.length fr ws) : Li.sp c l = ws ++ [(l.drop fr).take (l.length - fr)] := by
  obtain ⟨h1, h2, h3, h4, h5⟩ := h
  rw [h4]
  congr 1
  have h9 := Li.sp_join (c := c) ((l.drop fr).take (l.length - fr)) [] h5 (by simp)
  have e : (l.drop fr).take (l.length - fr) ++ Li.jn c [] = l.drop fr := by
    rw [show Li.jn c [] = [] from rfl, List.append_nil, List.take_of_length_le (by simp)]
  rw [e] at h9
  exact h9
end Go.Proofs.YtlbnldbelfgokaaDoor
