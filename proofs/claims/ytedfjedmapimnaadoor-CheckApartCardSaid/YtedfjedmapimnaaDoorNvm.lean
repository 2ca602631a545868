/-
  Rows of words in memory, the call's own: what the cells hold is a function of the place.
-/
import Derived.Test.YtedfjedmapimnaaDoorProg
import Derived.Test.YtedfjedmapimnaaDoorWrd
import Derived.Test.YtedfjedmapimnaaDoorWdg
import Derived.WalkLawsBesides
import Derived.Outline
import Derived.Deep.QuietTactic
import Derived.BigQuiet
import Derived.WalkSmall
namespace Go.Proofs.YtedfjedmapimnaaDoor
open Flo Go.RowKit
def Cl (κ : IntKind) (k : Nat) (f : Nat → Nat) : List Value := (Wd.tab k f).map fun (x : Nat) => Value.int κ (x : Int)
theorem Cl_len (κ : IntKind) (k : Nat) (f : Nat → Nat) : (Cl κ k f).length = k := by simp [Cl, Wd.tab_len]
theorem Cl_get (κ : IntKind) {k i : Nat} (f : Nat → Nat) (h : i < k) : (Cl κ k f)[i]? = some (.int κ (f i : Nat)) := by
  simp [Cl, Wd.tab_get f h]
theorem Cl_succ (κ : IntKind) (k : Nat) (f : Nat → Nat) : Cl κ (k + 1) f = Cl κ k f ++ [.int κ (f k : Nat)] := by simp [Cl, Wd.tab_succ]
theorem Cl_zero (κ : IntKind) (f : Nat → Nat) : Cl κ 0 f = [] := rfl
theorem Cl_set (κ : IntKind) (k i x : Nat) (f : Nat → Nat) : (Cl κ k f).set i (.int κ (x : Nat)) = Cl κ k (fun j => if j = i then x else f j) := by
  unfold Cl; rw [← Wd.tab_set, List.map_set]
theorem Cl_congr (κ : IntKind) {k : Nat} {f f' : Nat → Nat} (h : ∀ j, j < k → f j = f' j) : Cl κ k f = Cl κ k f' := by
  unfold Cl; rw [Wd.tab_congr h]
/-- a row of k words, in a block of its own from B on (or nil) -/
def Row (T : TypeId) (κ : IntKind) (w : World) (B : Nat) (v : Value) (k : Nat) (f : Nat → Nat) : Prop := w.ownsRow B T 1 v k (Cl κ k f)
section
variable {T : TypeId} {κ : IntKind} {w w' : World} {B k : Nat} {v : Value} {f f' : Nat → Nat}
theorem Row.cases (h : Row T κ w B v k f) : (v = .slice none 0 0 ∧ k = 0) ∨ ∃ g cap, v = .slice (some ⟨g, 0, none⟩) k cap ∧ B ≤ g ∧ g < w.heap.size ∧ cap ≤ maxLen := by
  rcases h.2 with h1 | ⟨g, cap, cur, rfl, h1, h2, h3, h4, h5, h6⟩
  · exact .inl h1
  · exact .inr ⟨g, cap, rfl, h1, (Array.getElem?_eq_some_iff.1 h2).1, h4⟩
theorem Row.slice (h : Row T κ w B v k f) : ∃ ao cap, v = .slice ao k cap := by
  rcases h.cases with ⟨rfl, rfl⟩ | ⟨g, cap, rfl, _⟩
  · exact ⟨_, _, rfl⟩
  · exact ⟨_, _, rfl⟩
theorem Row.max (h : Row T κ w B v k f) : k ≤ 9223372036854775807 := by
  rcases h.2 with ⟨_, h1⟩ | ⟨g, cap, cur, rfl, h1, h2, h3, h4, h5, h6⟩
  · omega
  · unfold maxLen at h4; omega
theorem Row.lt (h : Row T κ w B v k f) : ∀ b, v.ownBlock = some b → B ≤ b ∧ b < w.heap.size := World.ownsRow.lt h
theorem Row.congr (h : Row T κ w B v k f) (e : ∀ j, j < k → f j = f' j) : Row T κ w B v k f' := by
  unfold Row at *; rw [← Cl_congr κ e]; exact h
theorem Row.nil (T : TypeId) (κ : IntKind) (w : World) (B : Nat) (f : Nat → Nat) : Row T κ w B (.slice none 0 0) 0 f := World.ownsRow_nil _ _ _ _
theorem Row.base (h : Row T κ w B v k f) {C : Nat} (hC : ∀ b, v.ownBlock = some b → C ≤ b) : Row T κ w C v k f := by
  obtain ⟨h1, h2⟩ := h
  refine ⟨h1, ?_⟩
  rcases h2 with h2 | ⟨g, cap, cur, rfl, h3, h4⟩
  · exact .inl h2
  · exact .inr ⟨g, cap, cur, rfl, hC g rfl, h4⟩
theorem Row.mono (h : Row T κ w B v k f) {C : Nat} (hC : C ≤ B) : Row T κ w C v k f := h.base fun b hb => Nat.le_trans hC (h.lt b hb).1
theorem Row.block (h : Row T κ w B v k f) (hb : ∀ b, v.ownBlock = some b → w'.heap[b]? = w.heap[b]?) : Row T κ w' B v k f := by
  obtain ⟨h1, h2⟩ := h
  refine ⟨h1, ?_⟩
  rcases h2 with h2 | ⟨g, cap, cur, rfl, h3, h4, h5⟩
  · exact .inl h2
  · exact .inr ⟨g, cap, cur, rfl, h3, (hb g rfl).trans h4, h5⟩
theorem Row.below (h : Row T κ w B v k f) {C : Nat} (hb : Below C w w') (hC : ∀ b, v.ownBlock = some b → b < C) : Row T κ w' B v k f :=
  h.block fun b e => hb.block b (hC b e)
theorem Row.under (h : Row T κ w B v k f) (hb : Below w.heap.size w w') : Row T κ w' B v k f := h.below hb fun b e => (h.lt b e).2
theorem Row.kept (h : Row T κ w B v k f) {r : Option Nat} (hg : w.grownBy w' r) (hne : ∀ b, v.ownBlock = some b → some b ≠ r) : Row T κ w' B v k f :=
  h.block fun b e => hg.block b (h.lt b e).2 (hne b e)
theorem Row.allocs (h : Row T κ w B v k f) (o : Obj) : Row T κ (w.alloc o) B v k f := World.ownsRow.alloc h o
end
section
variable {T : TypeId} {κ : IntKind} {w w' : World} {B k g cap : Nat} {f f' : Nat → Nat}
theorem Row.cell (h : Row T κ w B (.slice (some ⟨g, 0, none⟩) k cap) k f) (i : Nat) (hi : i < k) : w.cell? ⟨g, i, none⟩ = some (.int κ (f i : Nat)) := by
  rw [World.ownsRow.cellAt h i (by omega), Cl_get κ f hi]
theorem Row.free (h : Row T κ w B (.slice (some ⟨g, 0, none⟩) k cap) k f) (i : Nat) : w.frozen? ⟨g, i, none⟩ = false := World.ownsRow.frozenAt h i
theorem Row.put (h : Row T κ w B (.slice (some ⟨g, 0, none⟩) k cap) k f) (i x : Nat) :
    Row T κ (w.setCell ⟨g, i, none⟩ (.int κ (x : Nat))) B (.slice (some ⟨g, 0, none⟩) k cap) k (fun j => if j = i then x else f j) ∧ w.grownBy (w.setCell ⟨g, i, none⟩ (.int κ (x : Nat))) (some g) := by
  have := World.ownsRow.stored h i (.int κ (x : Nat))
  rw [Cl_set] at this
  exact this
theorem Row.pop (h : Row T κ w B (.slice (some ⟨g, 0, none⟩) (k + 1) cap) (k + 1) f) : Row T κ w B (.slice (some ⟨g, 0, none⟩) k cap) k f := by
  unfold Row at h
  rw [Cl_succ] at h
  exact ownsRow_pop (by rw [Cl_len, Nat.mul_one]) h
end
theorem gb_refl (w : World) (r : Option Nat) : w.grownBy w r := ⟨rfl, rfl, rfl, Nat.le_refl _, fun _ _ _ => rfl⟩
theorem gb_trans {w w1 w2 : World} {r r2 : Option Nat} (h : w.grownBy w1 r) (h2 : w1.grownBy w2 r2) (hr : ∀ k, r2 = some k → r = some k ∨ w.heap.size ≤ k) : w.grownBy w2 r :=
  ⟨h2.os.trans h.os, h2.tape.trans h.tape, h2.output.trans h.output, Nat.le_trans h.size h2.size, fun k hk hne => by
    refine (h2.block k (Nat.lt_of_lt_of_le hk h.size) fun e => ?_).trans (h.block k hk hne)
    rcases hr k e.symm with h3 | h3
    · exact hne h3.symm
    · omega⟩
theorem gb_below {w w' : World} (h : w.grownBy w' none) : Below w.heap.size w w' := ⟨h.os, h.tape, h.output, h.size, fun k hk => h.block k hk (by simp)⟩
theorem below_gb {w w' : World} (h : Below w.heap.size w w') (r : Option Nat) : w.grownBy w' r := ⟨h.os, h.tape, h.output, h.size, fun k hk _ => h.block k hk⟩
/-- v was turned into v', in its own block or in a new one; nothing else was touched -/
structure Inp (w w' : World) (v v' : Value) : Prop where
  gb : w.grownBy w' v.ownBlock
  own : ∀ b, v'.ownBlock = some b → v.ownBlock = some b ∨ w.heap.size ≤ b
theorem Inp.trans {w w1 w2 : World} {v v1 v2 : Value} (h : Inp w w1 v v1) (h2 : Inp w1 w2 v1 v2) : Inp w w2 v v2 :=
  ⟨gb_trans h.gb h2.gb h.own, fun b hb => by
    rcases h2.own b hb with h3 | h3
    · exact h.own b h3
    · exact .inr (Nat.le_trans h.gb.size h3)⟩
theorem Inp.refl (w : World) (v : Value) : Inp w w v v := ⟨gb_refl _ _, fun _ h => .inl h⟩
/-- what is the call's own from C on stays so -/
theorem Inp.below {w0 w w' : World} {v v' : Value} {C : Nat} (h : Inp w w' v v') (hb : Below C w0 w) (hC : C ≤ w.heap.size) (hv : ∀ b, v.ownBlock = some b → C ≤ b) : Below C w0 w' := hb.grown h.gb hC hv
theorem Inp.base {w w' : World} {v v' : Value} {C : Nat} (h : Inp w w' v v') (hC : C ≤ w.heap.size) (hv : ∀ b, v.ownBlock = some b → C ≤ b) : ∀ b, v'.ownBlock = some b → C ≤ b := fun b hb => by
  rcases h.own b hb with h1 | h1
  · exact hv b h1
  · omega
/-- two values of two blocks -/
def Apt (u v : Value) : Prop := ∀ b, u.ownBlock = some b → v.ownBlock ≠ some b
theorem Apt.symm {u v : Value} (h : Apt u v) : Apt v u := fun b hb hu => h b hu hb
theorem Inp.apt {w w' : World} {u v v' : Value} (h : Inp w w' v v') (ha : Apt u v) (hu : ∀ b, u.ownBlock = some b → b < w.heap.size) : Apt u v' := fun b hb hv => by
  rcases h.own b hv with h1 | h1
  · exact ha b hb h1
  · have := hu b hb; omega
theorem Row.other {T : TypeId} {κ : IntKind} {w w' : World} {B k : Nat} {u v v' : Value} {f : Nat → Nat} (h : Row T κ w B u k f) (hi : Inp w w' v v') (ha : Apt u v) : Row T κ w' B u k f :=
  h.kept hi.gb fun b hb e => ha b hb e.symm
theorem apt_of {u v : Value} {C : Nat} (hu : ∀ b, u.ownBlock = some b → b < C) (hv : ∀ b, v.ownBlock = some b → C ≤ b) : Apt u v := fun b h1 h2 => by
  have := hu b h1; have := hv b h2; omega
end Go.Proofs.YtedfjedmapimnaaDoor
