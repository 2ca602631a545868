/-
  One number more at the end of a list of the call's own.
-/
import Derived.Test.YtedfjedmapimnaaDoorProg
import Derived.Test.YtedfjedmapimnaaDoorIln
namespace Go.Proofs.YtedfjedmapimnaaDoor
open Flo Go.RowKit
theorem ow8 {B : Nat} {e : TypeId} {k : Nat} {v : Value} {n : Nat} {xs : List Value} {w w' : World} (h : w.ownsRow B e k v n xs) (hb : Below w.heap.size w w') : w'.ownsRow B e k v n xs :=
  h.kept (row := none) ⟨hb.os, hb.tape, hb.output, hb.size, fun j hj _ => hb.block j hj⟩ (by cases hv : v.ownBlock <;> simp)
theorem infoI9 : (Tryd.prog.info? 3).map (fun i => (i.zero, i.size, i.bytes)) = some (some (.int .i64 0), 1, 8) := by kernel_rfl
/-- one number more -/
theorem appI {ops : Array Oper} {rest : List Oper} {o : Oper} {a : Act} {Q : Exit → Act → World → Prop} (w : World) (hgd : o.guard = none) (sl x : Operand)
    (ho : o.op = .call { callee := .builtin .append, args := #[sl, x], argTypes := #[41, 41] })
    (B : Nat) (zs : List Nat) (z : Nat) (q : Nat) (v : Value) (hs : a.eval sl = v) (hx : a.eval x = .slice (some ⟨q, 0, none⟩) 1 1) (hrow : w.ownsRow B 3 1 v zs.length (il zs))
    (hcell : w.cell? ⟨q, 0, none⟩ = some (.int .i64 (z : Int))) (hk : (zs.length + 1) * 8 ≤ 140737488355328) (hB : B ≤ w.heap.size)
    (h : ∀ v' w', w'.ownsRow B 3 1 v' (zs ++ [z]).length (il (zs ++ [z])) → w.grownBy w' v.ownBlock → wpList Tryd.prog ops Q rest (a.put o.dst v') w') : wpList Tryd.prog ops Q (o :: rest) a w := by
  obtain ⟨i0, hi0, hz0, hz1, hz2⟩ := info_parts infoI9
  refine wpList_append_own w hgd sl x 41 ho B 3 i0 (.int .i64 0) 1 8 Tryd.underlying41 hi0 hz0 hz1 hz2 rfl (by decide) v zs.length _ hs hrow ⟨q, 0, none⟩ 1 1 [.int .i64 (z : Int)] hx rfl ?_ ?_ ?_ ?_ hB ?_
  · intro j u hj
    match j, hj with
    | 0, hj => simp at hj; subst hj; simpa [Addr.add] using hcell
  · intro u hu; simp at hu; subst hu; rfl
  · unfold maxLen; omega
  · omega
  · intro v' w1 hown' hgrow _
    refine h v' w1 ?_ hgrow
    rw [il_snoc, List.length_append]
    exact hown'
end Go.Proofs.YtedfjedmapimnaaDoor
