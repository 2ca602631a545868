/-
  Package steps, reading: readProgram.
-/
import Derived.Test.YtedfjedmapimnaaDoorSl1
namespace Go.Proofs.YtedfjedmapimnaaDoor
open Flo Go.RowKit
def zp : Value := .agg #[.int .i64 0, .int .i64 0, .int .i64 0, .int .i64 0, .slice none 0 0]
/-- what readProgram tells -/
def RpE (al : List Addr) (bs : List Nat) (R : Nat → Prop) (g : Nat) (w : World) (e : Ending) (w' : World) : Prop :=
  Fr (fun k => k = g) w w' ∧ ((Sp.rp bs = none ∧ ∃ c, e = .returned (.tuple #[zp, ek al c])) ∨
    ∃ (p : Sp.Pg) (j : Nat) (v : Value), Sp.rp bs = some (p, j) ∧ e = .returned (.tuple #[pv p v, .nilIface]) ∧ Rr R w' g bs j ∧ OwS w' w.heap.size v p.steps)
section
variable {bs : List Nat}
theorem rp_n1 (h : Sp.rf bs [true, true, true, true] 0 = none) : Sp.rp bs = none := by unfold Sp.rp; rw [h]; rfl
theorem rp_n2 {xs : List Nat} {j : Nat} (h : Sp.rf bs [true, true, true, true] 0 = some (xs, j)) (h2 : Sp.rn bs 65536 j = none) : Sp.rp bs = none := by unfold Sp.rp; rw [h, Option.bind_some]; simp only; rw [h2]; rfl
theorem rp_n3 {xs : List Nat} {j c i : Nat} (h : Sp.rf bs [true, true, true, true] 0 = some (xs, j)) (h2 : Sp.rn bs 65536 j = some (c, i)) (h3 : Sp.rss bs c i = none) : Sp.rp bs = none := by
  unfold Sp.rp; rw [h, Option.bind_some]; simp only; rw [h2, Option.bind_some]; simp only; rw [h3]; rfl
theorem rp_s {xs : List Nat} {j c i m : Nat} {ss : List Sp.St} (h : Sp.rf bs [true, true, true, true] 0 = some (xs, j)) (h2 : Sp.rn bs 65536 j = some (c, i)) (h3 : Sp.rss bs c i = some (ss, m)) : Sp.rp bs = some (Sp.pgo xs ss, m) := by
  unfold Sp.rp; rw [h, Option.bind_some]; simp only; rw [h2, Option.bind_some]; simp only; rw [h3]; rfl
end
/-- a box of a program: its cells, and that they may be written -/
structure Bpf (w : World) (b : Nat) (p : Sp.Pg) (v : Value) : Prop where
  bx : Bpg w b p v
  fz : ∀ i, w.frozen? ⟨b, i, none⟩ = false
theorem Bpf.fr {S : Nat → Prop} {w w' : World} {b : Nat} {p : Sp.Pg} {v : Value} (h : Bpf w b p v) (hf : Fr S w w') (hS : ¬ S b) : Bpf w' b p v :=
  ⟨h.bx.fr hf hS, fun i => (hf.frozen (p := ⟨b, i, none⟩) (cell_lt (a := ⟨b, 0, none⟩) h.bx.c0) hS).trans (h.fz i)⟩
theorem Bpf.new (w : World) (p : Sp.Pg) (v : Value) : Bpf (w.alloc (.cells #[.int .i64 p.len, .int .i64 p.cells, .int .i64 p.inn, .int .i64 p.out, v] 24)) w.heap.size p v := ⟨Bpg.new w p v, fun i => by simp⟩
theorem Bpf.set4 {w : World} {b : Nat} {p : Sp.Pg} {v : Value} (h : Bpf w b p v) (v' : Value) : Bpf (w.setCell ⟨b, 4, none⟩ v') b p v' :=
  ⟨⟨by simp [World.cell?_setCell_other, h.bx.c0], by simp [World.cell?_setCell_other, h.bx.c1], by simp [World.cell?_setCell_other, h.bx.c2], by simp [World.cell?_setCell_other, h.bx.c3], World.cell?_setCell_same _ _ _ h.bx.c4⟩, fun i => by rw [World.frozen?_setCell]; exact h.fz i⟩
theorem fr_new (S : Nat → Prop) (w : World) (o : Obj) : Fr S w (w.alloc o) := (Fr.refl S w).alloc o
theorem Fr.up {S : Nat → Prop} {a b c : World} (h : Fr S a b) (h2 : Fr (fun _ => False) b c) : Fr S a c := h.trans h2 fun _ h => h.elim
theorem Fr.bel {w w' : World} (h : Below w.heap.size w w') : Fr (fun _ => False) w w' := Fr.of_below h fun k h1 h2 => by omega
/-- readProgram's own memory -/
structure StP (R : Nat → Prop) (g b0 b1 : Nat) (bs : List Nat) (w wx : World) (hd : Sp.Pg) (B : Nat) (v : Value) (ss : List Sp.St) (j : Nat) : Prop where
  rr : Rr R wx g bs j
  x : Bpf wx b0 ⟨0, 0, 0, 0, []⟩ (.slice none 0 0)
  y : Bpf wx b1 hd v
  ow : OwS wx B v ss
  fr : Fr (fun k => k = g) w wx
  bb : b0 < b1 ∧ b1 < B ∧ B ≤ wx.heap.size
  gb : g < b0
  b0w : w.heap.size = b0
  hR : ∀ k, R k → k < b0
section
variable {R : Nat → Prop} {g b0 b1 B j : Nat} {bs : List Nat} {w wx wy : World} {hd : Sp.Pg} {v : Value} {ss : List Sp.St}
theorem StP.row (h : StP R g b0 b1 bs w wx hd B v ss j) : ∀ b, v.ownBlock = some b → B ≤ b ∧ b < wx.heap.size := fun b hb => World.ownsRow.lt h.ow b hb
theorem StP.call (h : StP R g b0 b1 bs w wx hd B v ss j) (hf : Fr (fun k => k = g) wx wy) {i : Nat} (hr : Rr R wy g bs i) : StP R g b0 b1 bs w wy hd B v ss i :=
  ⟨hr, h.x.fr hf (by have := h.gb; omega), h.y.fr hf (by have := h.gb; have := h.bb; omega), h.ow.fr hf fun b hb => by have := (h.row b hb).1; have := h.gb; have := h.bb; omega, h.fr.then hf, ⟨h.bb.1, h.bb.2.1, Nat.le_trans h.bb.2.2 hf.size⟩, h.gb, h.b0w, h.hR⟩
theorem StP.new (h : StP R g b0 b1 bs w wx hd B v ss j) (o : Obj) : StP R g b0 b1 bs w (wx.alloc o) hd B v ss j :=
  h.call (fr_new _ _ _) (h.rr.under (fr_new (fun _ => False) wx o) fun _ _ h => h.elim)
/-- behind an append and the store of what it gave -/
theorem StP.push (h : StP R g b0 b1 bs w wx hd B v ss j) {v' : Value} {ss' : List Sp.St} (ho : OwS wy B v' ss') (hg : wx.grownBy wy v.ownBlock) (hn : ∀ b, v'.ownBlock = some b → v.ownBlock = some b ∨ wx.heap.size ≤ b) :
    Bpf wy b1 hd v ∧ StP R g b0 b1 bs w (wy.setCell ⟨b1, 4, none⟩ v') hd B v' ss' j := by
  have f1 : Fr (fun k => v.ownBlock = some k) wx wy := (Fr.refl _ wx).grown hg fun _ hk => hk
  have hbb := h.bb
  have n0 : ¬ v.ownBlock = some b0 := fun e => by have := (h.row _ e).1; omega
  have n1 : ¬ v.ownBlock = some b1 := fun e => by have := (h.row _ e).1; omega
  have ng : ¬ v.ownBlock = some g := fun e => by have := (h.row _ e).1; have := h.gb; omega
  have y1 := h.y.fr f1 n1
  have f2 := set_fr wy b1 4 v'
  refine ⟨y1, ⟨?_, ?_, y1.set4 v', ?_, ?_, ⟨hbb.1, hbb.2.1, ?_⟩, h.gb, h.b0w, h.hR⟩⟩
  · exact (h.rr.under f1 fun k _ h1 h2 => by have := (h.row _ h1).1; have := h.hR k h2; omega).under f2 fun k _ h1 h2 => by have := h.hR k h2; omega
  · exact (h.x.fr f1 n0).fr f2 (by omega)
  · refine OwS.fr ho f2 fun b hb => ?_
    rcases hn b hb with h1 | h1
    · have := (h.row _ h1).1; omega
    · omega
  · refine (h.fr.trans f1 fun k hk => .inr ?_).trans f2 fun k hk => .inr ?_
    · have := (h.row _ hk).1; have := h.b0w; omega
    · have := h.b0w; omega
  · have := hg.size
    have h3 := f2.size
    omega
end
end Go.Proofs.YtedfjedmapimnaaDoor
