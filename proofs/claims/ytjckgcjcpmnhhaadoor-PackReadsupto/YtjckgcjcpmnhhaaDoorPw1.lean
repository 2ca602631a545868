/-
  The statements' own 'write': a Value written by the program, and the document's form of it: numbers.
-/
import Derived.Test.YtjckgcjcpmnhhaaDoorPr3
import Derived.Test.YtjckgcjcpmnhhaaDoorPv2
namespace Go.Proofs.YtjckgcjcpmnhhaaDoor
open Flo Go.RowKit
/-- a Value's box at b -/
structure Bx (w : World) (b : Nat) (k : Int) (u v : Nat) (s : ByteArray) (l : Value) (n : Int) : Prop where
  c0 : w.cell? ⟨b, 0, none⟩ = some (.int .i64 k)
  c1 : w.cell? ⟨b, 1, none⟩ = some (.int .u64 (u : Int))
  c2 : w.cell? ⟨b, 2, none⟩ = some (.int .u64 (v : Int))
  c3 : w.cell? ⟨b, 3, none⟩ = some (.string s)
  c4 : w.cell? ⟨b, 4, none⟩ = some l
  c5 : w.cell? ⟨b, 5, none⟩ = some (.int .i64 n)
theorem Bx.under {S : Nat → Prop} {w w' : World} {b : Nat} {k : Int} {u v : Nat} {s : ByteArray} {l : Value} {n : Int} (h : Bx w b k u v s l n) (hf : Fr S w w') (hb : ¬ S b) : Bx w' b k u v s l n :=
  ⟨hf.cell h.c0 hb, hf.cell h.c1 hb, hf.cell h.c2 hb, hf.cell h.c3 hb, hf.cell h.c4 hb, hf.cell h.c5 hb⟩
/-- what 'write' leaves: the Writer with these bytes more, and the document's bytes in a row of its own -/
structure WrO (F : Nat → Prop) (w w' : World) (g : Nat) (ys wb : List Nat) (v' : Value) : Prop where
  wr : ∃ F2 : Nat → Prop, Wr F2 w' g (ys ++ wb) ∧ (∀ k, F2 k → F k ∨ w.heap.size ≤ k) ∧ ∀ b, v'.ownBlock = some b → ¬ F2 b
  fr : Fr F w w'
  own : OwB w' v' wb
  new : ∀ b, v'.ownBlock = some b → w.heap.size ≤ b
/-- the blocks that the Writer may touch behind a box -/
def Fx (F : Nat → Prop) (w : World) : Nat → Prop := fun k => (F k ∧ k < w.heap.size) ∨ w.heap.size + 1 ≤ k
section
variable {F : Nat → Prop} {w w1 w2 w3 : World} {g : Nat} {ys wb : List Nat} {v' : Value}
theorem wrO_of (h1 : Fr F w w1) (hw1 : w1.heap.size = w.heap.size + 1) (h2 : Wr (Fx F w) w2 g (ys ++ wb)) (h3 : Fr (Fx F w) w1 w2) (h4 : NewB w2 w3 v' wb) : WrO F w w3 g ys wb v' := by
  have hs := h3.size
  have hb : Fr (fun _ => False) w2 w3 := Fr.of_below h4.below fun k hk hk2 => by omega
  refine ⟨⟨fun k => Fx F w k ∧ k < w2.heap.size, ?_, fun k hk => ?_, fun b hb' hf => ?_⟩, ?_, h4.own, fun b hb' => ?_⟩
  · exact (h2.to fun k hk hf => ⟨hf, hk⟩).under hb fun _ _ hh => hh.elim
  · rcases hk.1 with h5 | h5
    · exact .inl h5.1
    · exact .inr (by omega)
  · have := h4.new b hb'; have := hf.2; omega
  · refine (h1.trans h3 fun k hk => ?_).trans hb fun _ hh => hh.elim
    rcases hk with h5 | h5
    · exact .inl h5.1
    · exact .inr (by omega)
  · have := h4.new b hb'; omega
end
theorem box_bx (w : World) (k : Int) (u v : Nat) (s : ByteArray) (l : Value) (n : Int) : Bx (w.alloc (.cells #[.int .i64 k, .int .u64 (u : Int), .int .u64 (v : Int), .string s, l, .int .i64 n] 30)) w.heap.size k u v s l n :=
  ⟨by simp, by simp, by simp, by simp, by simp, by simp⟩
theorem box_wr {F : Nat → Prop} {w : World} {g : Nat} {ys : List Nat} (h : Wr F w g ys) (o : Obj) : Wr (Fx F w) (w.alloc o) g ys :=
  (h.to fun k hk hf => (.inl ⟨hf, hk⟩ : Fx F w k)).under ((Fr.refl (fun _ => False) w).alloc o) fun _ _ hh => hh.elim
set_option maxRecDepth 100000 in
set_option maxHeartbeats 4000000 in
theorem write_0 (F : Nat → Prop) (g : Nat) (ys : List Nat) (k n : Int) (u v : Nat) (s : ByteArray) (lo : Option Addr) (ln lc : Nat) (w : World) (h : Wr F w g ys) (hl : ys.length ≤ 140737400000000) (hu : u < 18446744073709551616) (hk : k = 0 ∨ k = 8) :
    Calls Tryd.prog 9 #[.pointer (some ⟨g, 0, none⟩), vl k u v s (.slice lo ln lc) n] w fun e w' => ∃ v', e = .returned (.tuple #[v', .bool true]) ∧ WrO F w w' g ys (Pk.vi u) v' := by
  unfold vl
  obtain ⟨w1, hw1⟩ : ∃ w1, Hid (w1 = w.alloc (.cells #[.int .i64 k, .int .u64 (u : Int), .int .u64 (v : Int), .string s, .slice lo ln lc, .int .i64 n] 30)) := ⟨_, rfl⟩
  have hbx : Hid (Bx w1 w.heap.size k u v s (.slice lo ln lc) n) := by rw [hw1.out]; exact box_bx w k u v s _ n
  have hW1 : Hid (Wr (Fx F w) w1 g ys) := by rw [hw1.out]; exact box_wr h _
  have hf1 : Hid (Fr F w w1 ∧ w1.heap.size = w.heap.size + 1) := by rw [hw1.out]; exact ⟨(Fr.refl F w).alloc _, by simp⟩
  have hFx : Hid (∀ j, w1.heap.size ≤ j → Fx F w j) := fun j hj => .inr (by have := hf1.out.2; omega)
  have hb0 := hbx.out.c0
  have hb1 := hbx.out.c1
  clear h
  rcases hk with rfl | rfl
  all_goals (
    go_enter Tryd.func9, Tryd.ntmps9
    go_wp2_with fail
    rw [← hw1.out]
    refine (wuint_c (Fx F w) g ys u w1 hW1.out hFx.out hu (by omega)).mono ?_
    rintro e w2 ⟨rfl, h2, h3⟩
    have h2H : Hid (Wr (Fx F w) w2 g (ys ++ Pk.vi u)) := h2
    have h3H : Hid (Fr (Fx F w) w1 w2) := h3
    have hb2 := (hbx.out.under h3 (fun hh => by
      rcases hh with h5 | h5
      · exact absurd h5.2 (Nat.lt_irrefl _)
      · omega)).c1
    clear h2 h3 hb0 hb1
    go_wp2_with fail
    refine (puint_c u w2 hu).mono ?_
    rintro e w3 ⟨v3, rfl, h4⟩
    have h4H : Hid (NewB w2 w3 v3 (Pk.vi u)) := h4
    clear h4
    go_wp2
    go_ret2
    exact ⟨_, rfl, wrO_of hf1.out.1 hf1.out.2 h2H.out h3H.out h4H.out⟩)
end Go.Proofs.YtjckgcjcpmnhhaaDoor
