/-
  Package pack: what a Reader holds; Read, At, Left, Done, fixed.
-/
import Derived.Test.YtedfjedmapimnaaDoorPkq
import Derived.Test.YtedfjedmapimnaaDoorNum
import Derived.Test.YtedfjedmapimnaaDoorPkr
namespace Go.Proofs.YtedfjedmapimnaaDoor
open Flo Go.RowKit
/-- nothing but draws -/
structure Qt (w w' : World) : Prop where
  os : w'.os = w.os
  tape : w'.tape = w.tape
  output : w'.output = w.output
  heap : w'.heap = w.heap
theorem Qt.refl (w : World) : Qt w w := ⟨rfl, rfl, rfl, rfl⟩
theorem Qt.trans {a b c : World} (h : Qt a b) (h2 : Qt b c) : Qt a c := ⟨h2.os.trans h.os, h2.tape.trans h.tape, h2.output.trans h.output, h2.heap.trans h.heap⟩
theorem Qt.drew (w : World) : Qt w w.drew := ⟨rfl, rfl, rfl, rfl⟩
theorem Qt.fr {w w' : World} (h : Qt w w') (S : Nat → Prop) : Fr S w w' := ⟨h.os, h.tape, h.output, by rw [h.heap]; exact Nat.le_refl _, fun k _ _ => by rw [h.heap]⟩
theorem Qt.below {w w' : World} (h : Qt w w') (B : Nat) : Below B w w' := ⟨h.os, h.tape, h.output, by rw [h.heap]; exact Nat.le_refl _, fun k _ => by rw [h.heap]⟩
/-- the five sentinels that package pack answers -/
structure E4 (w : World) (al : List Addr) : Prop where
  short : w.cell? ⟨1, 0, none⟩ = some (ek al 0)
  varint : w.cell? ⟨2, 0, none⟩ = some (ek al 1)
  limit : w.cell? ⟨3, 0, none⟩ = some (ek al 2)
  tail : w.cell? ⟨4, 0, none⟩ = some (ek al 3)
  prog : w.cell? ⟨0, 0, none⟩ = some (ek al 8)
theorem E4.below {w w' : World} {al : List Addr} (h : E4 w al) (hb : Below w.heap.size w w') : E4 w' al :=
  ⟨(hb.cell (p := ⟨1, 0, none⟩) (cell_lt h.short)).trans h.short, (hb.cell (p := ⟨2, 0, none⟩) (cell_lt h.varint)).trans h.varint, (hb.cell (p := ⟨3, 0, none⟩) (cell_lt h.limit)).trans h.limit, (hb.cell (p := ⟨4, 0, none⟩) (cell_lt h.tail)).trans h.tail, (hb.cell (p := ⟨0, 0, none⟩) (cell_lt h.prog)).trans h.prog⟩
/-- a Reader at g: its bytes, how many of them have been read; its blocks are among R -/
structure RrV (R : Nat → Prop) (w : World) (g : Nat) (v : Value) (bs : List Nat) (k : Nat) : Prop where
  c0 : w.cell? ⟨g, 0, none⟩ = some v
  c1 : w.cell? ⟨g, 1, none⟩ = some (.int .i64 (k : Int))
  free : w.frozen? ⟨g, 1, none⟩ = false
  own : OwB w v bs
  ne : v.ownBlock ≠ some g
  rg : R g
  rv : ∀ b, v.ownBlock = some b → R b
  le : k ≤ bs.length
  big : bs.length ≤ 140737488355328
  byt : ∀ b ∈ bs, b < 256
def Rr (R : Nat → Prop) (w : World) (g : Nat) (bs : List Nat) (k : Nat) : Prop := ∃ v, RrV R w g v bs k
section
variable {R S T : Nat → Prop} {w w' : World} {g k : Nat} {v : Value} {bs : List Nat}
theorem RrV.lt (h : RrV R w g v bs k) : g < w.heap.size := World.block_lt_of_cell? w _ h.c0
theorem RrV.under (h : RrV R w g v bs k) (hf : Fr S w w') (hS : ∀ k, k < w.heap.size → S k → ¬ R k) : RrV R w' g v bs k :=
  ⟨hf.cell h.c0 fun hs => hS _ h.lt hs h.rg, hf.cell h.c1 fun hs => hS _ h.lt hs h.rg, (hf.frozen h.lt fun hs => hS _ h.lt hs h.rg).trans h.free, Fr.owns hf h.own fun b hb hs => hS b (World.ownsRow.lt h.own b hb).2 hs (h.rv b hb), h.ne, h.rg, h.rv, h.le, h.big, h.byt⟩
theorem RrV.to (h : RrV R w g v bs k) (hG : ∀ k, k < w.heap.size → R k → T k) : RrV T w g v bs k := ⟨h.c0, h.c1, h.free, h.own, h.ne, hG _ h.lt h.rg, fun b hb => hG b (World.ownsRow.lt h.own b hb).2 (h.rv b hb), h.le, h.big, h.byt⟩
theorem Rr.under (h : Rr R w g bs k) (hf : Fr S w w') (hS : ∀ k, k < w.heap.size → S k → ¬ R k) : Rr R w' g bs k := by
  obtain ⟨v, h⟩ := h; exact ⟨v, h.under hf hS⟩
theorem Rr.to (h : Rr R w g bs k) (hG : ∀ k, k < w.heap.size → R k → T k) : Rr T w g bs k := by
  obtain ⟨v, h⟩ := h; exact ⟨v, h.to hG⟩
theorem Rr.le (h : Rr R w g bs k) : k ≤ bs.length := by obtain ⟨v, h⟩ := h; exact h.le
theorem Rr.big (h : Rr R w g bs k) : bs.length ≤ 140737488355328 := by obtain ⟨v, h⟩ := h; exact h.big
theorem Rr.byt (h : Rr R w g bs k) : ∀ b ∈ bs, b < 256 := by obtain ⟨v, h⟩ := h; exact h.byt
theorem Rr.lt (h : Rr R w g bs k) : g < w.heap.size := by obtain ⟨v, h⟩ := h; exact h.lt
/-- moved -/
theorem RrV.move (h : RrV R w g v bs k) {j : Nat} (hj : j ≤ bs.length) : RrV R (w.setCell ⟨g, 1, none⟩ (.int .i64 (j : Int))) g v bs j :=
  ⟨by rw [World.cell?_setCell_other _ _ _ _ (by simp)]; exact h.c0, World.cell?_setCell_same _ _ _ h.c1, by rw [World.frozen?_setCell]; exact h.free,
   owns_block h.own fun b hb => Below.heap_setCell _ _ _ _ fun e => h.ne (by rw [hb]; exact congrArg some e), h.ne, h.rg, h.rv, hj, h.big, h.byt⟩
theorem RrV.qt (h : RrV R w g v bs k) (hq : Qt w w') : RrV R w' g v bs k := h.under (hq.fr (fun _ => False)) fun _ _ h => h.elim
theorem Rr.qt (h : Rr R w g bs k) (hq : Qt w w') : Rr R w' g bs k := h.under (hq.fr (fun _ => False)) fun _ _ h => h.elim
theorem mv_fr (w : World) (g : Nat) (u : Value) : Fr (fun k => k = g) w (w.setCell ⟨g, 1, none⟩ u) := Fr.setCell (S := fun k => k = g) (p := ⟨g, 1, none⟩) (Fr.refl _ w) rfl u
/-- the cell of a byte -/
theorem RrV.byte (h : RrV R w g v bs k) (i : Nat) (hi : i < bs.length) : ∃ q cap, v = .slice (some ⟨q, 0, none⟩) bs.length cap ∧ w.cell? ⟨q, i, none⟩ = some (.int .u8 (bs.getD i 0 : Nat)) := by
  have hh : w.ownsRow 0 5 1 v bs.length (bc bs) := h.own
  rcases hh.2 with ⟨rfl, h1⟩ | ⟨q, cap, cur, rfl, hbg, hg, hnc, hcm, hcs, htake⟩
  · omega
  · refine ⟨q, cap, rfl, ?_⟩
    have h1 := hh.cellAt i (by omega)
    rw [h1]
    simp [bc, List.getD, hi]
theorem RrV.slice (h : RrV R w g v bs k) : ∃ n ao cap, v = .slice ao n cap ∧ Hid (n = bs.length) := h.own.slice
end
/-- what Done answers -/
def dnv (al : List Addr) (k n : Nat) : Value := if k < n then ek al 3 else .nilIface
end Go.Proofs.YtedfjedmapimnaaDoor
/-
  Package pack: a Reader's Uint.
-/
namespace Go.Proofs.YtedfjedmapimnaaDoor
open Flo Go.RowKit
/-- the error that is told -/
def ue {α : Type} (al : List Addr) (r : Except Nat α) : Value := match r with | .ok _ => .nilIface | .error c => ek al c
theorem drop_at {bs : List Nat} {i : Nat} (h : i < bs.length) : bs.drop i = bs.getD i 0 :: bs.drop (i + 1) := by
  rw [List.drop_eq_getElem_cons h]; simp [List.getD, h]
theorem getD_mem {bs : List Nat} {i : Nat} (h : i < bs.length) : bs.getD i 0 ∈ bs := by
  have : bs.getD i 0 = bs[i] := by simp [List.getD, h]
  rw [this]; exact List.getElem_mem h
theorem orsh {X b i : Nat} (hX : X < 128 ^ i) (hi : i ≤ 9) (hb : i = 9 → b ≤ 1) : bits .or .u64 (X : Int) (IntKind.u64.wrap ((b : Int) % 128 * 2 ^ (7 * i))) = ((X + b % 128 * 128 ^ i : Nat) : Int) := by
  have e1 : (128 : Nat) ^ i = 2 ^ (7 * i) := by rw [Nat.pow_mul]
  have e9 : (128 : Nat) ^ 9 = 9223372036854775808 := by decide
  have hlt : b % 128 * 128 ^ i < 18446744073709551616 := by
    by_cases h9 : i = 9
    · subst h9
      have : b % 128 * 128 ^ 9 ≤ 1 * 128 ^ 9 := Nat.mul_le_mul_right _ (by have := hb rfl; omega)
      omega
    · have h4 : 128 ^ (i + 1) ≤ 128 ^ 9 := Nat.pow_le_pow_right (by decide) (by omega)
      have h5 : b % 128 * 128 ^ i ≤ 127 * 128 ^ i := Nat.mul_le_mul_right _ (by omega)
      rw [Nat.pow_succ] at h4
      omega
  have hXl : X < 18446744073709551616 := by
    have h4 : 128 ^ i ≤ 128 ^ 9 := Nat.pow_le_pow_right (by decide) hi
    omega
  have e2 : (b : Int) % 128 * 2 ^ (7 * i) = ((b % 128 * 128 ^ i : Nat) : Int) := by rw [e1]; simp
  have e3 : IntKind.u64.wrap ((b % 128 * 128 ^ i : Nat) : Int) = ((b % 128 * 128 ^ i : Nat) : Int) := wrapId _ hlt
  rw [e2, e3, u64_or_nat _ _ hXl hlt]
  congr 1
  rw [e1] at hX ⊢
  rw [Nat.mul_comm, Nat.or_comm, ← Nat.two_pow_add_eq_or_of_lt hX, Nat.add_comm]
theorem orsh2 {X b i : Nat} (hX : X < 128 ^ i) (hi : i ≤ 9) (hb : i = 9 → b ≤ 1) : bits .or .u64 (X : Int) ((b : Int) % 128 * 2 ^ (7 * i)) = ((X + b % 128 * 128 ^ i : Nat) : Int) := by
  have e1 : (128 : Nat) ^ i = 2 ^ (7 * i) := by rw [Nat.pow_mul]
  have e9 : (128 : Nat) ^ 9 = 9223372036854775808 := by decide
  have hlt : b % 128 * 128 ^ i < 18446744073709551616 := by
    by_cases h9 : i = 9
    · subst h9
      have : b % 128 * 128 ^ 9 ≤ 1 * 128 ^ 9 := Nat.mul_le_mul_right _ (by have := hb rfl; omega)
      omega
    · have h4 : 128 ^ (i + 1) ≤ 128 ^ 9 := Nat.pow_le_pow_right (by decide) (by omega)
      have h5 : b % 128 * 128 ^ i ≤ 127 * 128 ^ i := Nat.mul_le_mul_right _ (by omega)
      rw [Nat.pow_succ] at h4
      omega
  have e2 : (b : Int) % 128 * 2 ^ (7 * i) = ((b % 128 * 128 ^ i : Nat) : Int) := by rw [e1]; simp
  have e3 : IntKind.u64.wrap ((b % 128 * 128 ^ i : Nat) : Int) = ((b % 128 * 128 ^ i : Nat) : Int) := wrapId _ hlt
  have := orsh hX hi hb
  rwa [e2, e3, ← e2] at this
theorem ux_ok (x n : Nat) : Pk.ux (.ok (x, n)) = x := rfl
theorem ud_ok (x n : Nat) : Pk.ud (.ok (x, n)) = n := rfl
/-- behind a refusal -/
theorem RrV.stay {R S : Nat → Prop} {w w' : World} {g k : Nat} {v : Value} {bs : List Nat} (h : RrV R w g v bs k) (hq : Qt w w') : Rr R w' g bs k ∧ Fr S w w' := ⟨⟨v, h.qt hq⟩, hq.fr S⟩
end Go.Proofs.YtedfjedmapimnaaDoor
/-
  Package pack: a Reader's Upto, Int, fixed.
-/
namespace Go.Proofs.YtedfjedmapimnaaDoor
open Flo Go.RowKit
/-- a number of at most so much -/
def upr (most : Int) (r : Except Nat (Nat × Nat)) : Except Nat (Nat × Nat) := match r with | .ok (x, n) => if most < 0 ∨ most < (x : Int) then .error 2 else .ok (x, n) | .error c => .error c
theorem upr_err (most : Int) (c : Nat) : upr most (.error c) = .error c := rfl
theorem upr_lim {most : Int} {x n : Nat} (h : most < 0 ∨ most < (x : Int)) : upr most (.ok (x, n)) = .error 2 := if_pos h
theorem upr_ok {most : Int} {x n : Nat} (h : ¬ (most < 0 ∨ most < (x : Int))) : upr most (.ok (x, n)) = .ok (x, n) := if_neg h
theorem upr_bd {bs : List Nat} (h : ∀ b ∈ bs, b < 256) (k : Nat) (hk : k ≤ bs.length) (most : Int) : k + Pk.ud (upr most (Pk.rv 0 0 (bs.drop k))) ≤ bs.length := by
  have h1 := (Pk.rv_bd h k hk).2
  cases hr : Pk.rv 0 0 (bs.drop k) with
  | error c => exact hk
  | ok p =>
    obtain ⟨x, n⟩ := p
    rw [hr] at h1
    by_cases hl : most < 0 ∨ most < (x : Int)
    · rw [upr_lim hl]; exact hk
    · rw [upr_ok hl]; exact h1
end Go.Proofs.YtedfjedmapimnaaDoor
