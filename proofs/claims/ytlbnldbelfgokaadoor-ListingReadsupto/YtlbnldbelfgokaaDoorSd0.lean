/-
  timbreref15: the table.
-/
import Derived.Test.YtlbnldbelfgokaaDoorSp3
import Derived.Laws.Tables
namespace Go.Proofs.YtlbnldbelfgokaaDoor
open Flo Go.RowKit
theorem wpList_bsl {P : Program} {ops : Array Oper} {rest : List Oper} {o : Oper} {a : Act} {w w' : World} {Q : Exit → Act → World → Prop} (hg : o.guard = none) (t : TypeId) (n : Nat) (parts : Array (Nat × Operand)) (ho : o.op = .buildSlice t n parts) (v : Value)
    (hr : (Instr.buildSlice t n (parts.map fun (i, x) => (i, a.eval x))).run P w = .ok v w') (h : wpList P ops Q rest (a.put o.dst v) w') : wpList P ops Q (o :: rest) a w := by
  refine wpList_plain hg fun _ hK => ?_
  unfold Oper.wp execOp
  simp only [ho, Sem.run_bind, hr, Result.andThen_ok]
  exact hK _ _ h
def rowsA : Array Value := #[.string ⟨#[]⟩, .bool false, .bool false, .bool false, .bool false, .string ⟨#[103, 97, 116, 104, 101, 114]⟩, .bool true, .bool true, .bool false, .bool false, .string ⟨#[115, 99, 97, 116, 116, 101, 114]⟩, .bool true, .bool true, .bool false, .bool false, .string ⟨#[122, 101, 114, 111]⟩, .bool false, .bool false, .bool false, .bool false, .string ⟨#[116, 119, 105, 115, 116]⟩, .bool false, .bool false, .bool true, .bool true, .string ⟨#[102, 108, 121]⟩, .bool false, .bool true, .bool true, .bool false, .string ⟨#[100, 105, 114, 101, 99, 116]⟩, .bool true, .bool true, .bool true, .bool false, .string ⟨#[99, 104, 105, 114, 112]⟩, .bool false, .bool false, .bool true, .bool false, .string ⟨#[102, 105, 108, 108]⟩, .bool false, .bool false, .bool true, .bool false, .string ⟨#[116, 105, 109, 101, 115]⟩, .bool true, .bool false, .bool false, .bool false, .string ⟨#[99, 111, 110, 106]⟩, .bool false, .bool false, .bool false, .bool false, .string ⟨#[111, 118, 101, 114]⟩, .bool false, .bool false, .bool true, .bool false]
set_option maxHeartbeats 1000000 in
theorem rows_c (w : World) : Calls Tryd.prog 36 #[] w fun e w' => e = .returned (.slice (some ⟨w.heap.size, 0, none⟩) 12 12) ∧ w' = w.alloc (.cells rowsA 84) := by
  go_enter Tryd.func36, Tryd.ntmps36
  go_wp2_with (refine wpList_bsl (w' := w.alloc (.cells rowsA 84)) rfl 85 12 _ rfl (.slice (some ⟨w.heap.size, 0, none⟩) 12 12) (by kernel_rfl) ?_)
  go_ret
  exact ⟨rfl, rfl⟩
/-- the table in memory -/
def Rws (w : World) (g : Nat) : Prop := ∀ o, o < 12 → w.cell? ⟨g, o * 5, none⟩ = some (.string (nmb o)) ∧ w.cell? ⟨g, o * 5 + 1, none⟩ = some (.bool (Sp.hs o)) ∧ w.cell? ⟨g, o * 5 + 2, none⟩ = some (.bool (Sp.hj o)) ∧ w.cell? ⟨g, o * 5 + 3, none⟩ = some (.bool (Sp.hn o)) ∧ w.cell? ⟨g, o * 5 + 4, none⟩ = some (.bool (Sp.hk o))
theorem rws_new (w : World) : Rws (w.alloc (.cells rowsA 84)) w.heap.size := by
  have h : ∀ i, (w.alloc (.cells rowsA 84)).cell? ⟨w.heap.size, i, none⟩ = rowsA[i]? := fun i => by simp
  intro o ho
  rw [h, h, h, h, h]
  match o, ho with
  | 0, _ => exact ⟨rfl, rfl, rfl, rfl, rfl⟩
  | 1, _ => exact ⟨rfl, rfl, rfl, rfl, rfl⟩
  | 2, _ => exact ⟨rfl, rfl, rfl, rfl, rfl⟩
  | 3, _ => exact ⟨rfl, rfl, rfl, rfl, rfl⟩
  | 4, _ => exact ⟨rfl, rfl, rfl, rfl, rfl⟩
  | 5, _ => exact ⟨rfl, rfl, rfl, rfl, rfl⟩
  | 6, _ => exact ⟨rfl, rfl, rfl, rfl, rfl⟩
  | 7, _ => exact ⟨rfl, rfl, rfl, rfl, rfl⟩
  | 8, _ => exact ⟨rfl, rfl, rfl, rfl, rfl⟩
  | 9, _ => exact ⟨rfl, rfl, rfl, rfl, rfl⟩
  | 10, _ => exact ⟨rfl, rfl, rfl, rfl, rfl⟩
  | 11, _ => exact ⟨rfl, rfl, rfl, rfl, rfl⟩
theorem Rws.below {w w' : World} {g : Nat} (h : Rws w g) (hb : Below w.heap.size w w') : Rws w' g := fun o ho => by
  obtain ⟨h0, h1, h2, h3, h4⟩ := h o ho
  exact ⟨(hb.cell (cell_lt h0)).trans h0, (hb.cell (cell_lt h1)).trans h1, (hb.cell (cell_lt h2)).trans h2, (hb.cell (cell_lt h3)).trans h3, (hb.cell (cell_lt h4)).trans h4⟩
theorem rows2_c (w : World) : Calls Tryd.prog 36 #[] w fun e w' => e = .returned (.slice (some ⟨w.heap.size, 0, none⟩) 12 12) ∧ Rws w' w.heap.size ∧ Below w.heap.size w w' := by
  refine (rows_c w).mono ?_
  rintro e w' ⟨rfl, rfl⟩
  exact ⟨rfl, rws_new w, (Below.refl _ _).alloc (Nat.le_refl _) _⟩
end Go.Proofs.YtlbnldbelfgokaaDoor
