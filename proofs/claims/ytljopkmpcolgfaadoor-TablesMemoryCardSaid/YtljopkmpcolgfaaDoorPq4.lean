/-
  timbremem.SpareInts, KeptInts: a list with marks behind it, and that it is still so.
-/
import Derived.Test.YtljopkmpcolgfaaDoorSmz
import Derived.Test.YtljopkmpcolgfaaDoorMk5
import Derived.Laws.AppendOwnNone
import Derived.OwnWalk
namespace Go.Proofs.YtljopkmpcolgfaaDoor
open Flo Go.RowKit

/-- the marks behind a list -/
def mk7 (j : Nat) : List Int := (List.range j).map fun k => mkv 7 k
theorem mk7_len (j : Nat) : (mk7 j).length = j := by simp [mk7]
theorem mk7_snoc (j : Nat) : mk7 (j + 1) = mk7 j ++ [mkv 7 j] := by simp [mk7, List.range_succ]
theorem iz_app (a b : List Int) : iz (a ++ b) = iz a ++ iz b := by simp [iz]
theorem makeC (w : World) (n : Nat) (hn : n ≤ 17592186043904) :
    ∃ w', (Instr.makeSlice 28 (.int .i64 0) (.int .i64 ((n : Int) + 80))).run Tryd.prog w = .ok (.slice (some ⟨w.heap.size, 0, none⟩) 0 (n + 80)) w' ∧
      Hid (w'.ownsRow w.heap.size 3 1 (.slice (some ⟨w.heap.size, 0, none⟩) 0 (n + 80)) 0 []) ∧ Hid (Below w.heap.size w w') := by
  obtain ⟨i0, hi0, hz0, hz1, hz2⟩ := info_parts infoInt
  obtain ⟨w', h1, h2, h3⟩ := run_make_own (P := Tryd.prog) w w.heap.size 28 3 i0 (.int .i64 0) 1 Tryd.underlying28 hi0 hz0 hz1 .i64 .i64 (n + 80) (by rw [hz2]; omega) (by unfold maxLen; omega) (Nat.le_refl _)
  exact ⟨w', by rw [← h1]; rfl, h2, (Below.refl _ w).grown h3 (Nat.le_refl _) (fun b e => by cases e)⟩
/-- a list of ints that came in: nil has no room -/
def InZ (w : World) (v : Value) (p : List Int) : Prop := RdZ w v p ∧ ∀ k c, v = .slice none k c → c = 0
theorem InZ.rd {w : World} {v : Value} {p : List Int} (h : InZ w v p) : RdZ w v p := h.1
theorem InZ.below {w w' : World} {v : Value} {p : List Int} (h : InZ w v p) (hb : Below w.heap.size w w') : InZ w' v p := ⟨h.1.below hb, h.2⟩
theorem add_nat (b off i : Nat) : (⟨b, off, none⟩ : Addr).add i = ⟨b, off + i, none⟩ := by
  unfold Addr.add
  by_cases h : i = 0
  · subst h; simp
  · simp [h]
/-- the list ahead of its marks -/
theorem RdZ.mine {w : World} {B F C n : Nat} {p M : List Int} (h : w.ownsRow B 3 1 (.slice (some ⟨F, 0, none⟩) n C) n (iz (p ++ M))) : RdZ w (.slice (some ⟨F, 0, none⟩) p.length C) p := by
  refine ⟨_, C, rfl, fun _ => ⟨F, 0, rfl, (h.lt F rfl).2, fun i hi => ?_⟩⟩
  have hl := h.1
  rw [iz_len, Nat.mul_one] at hl
  have hil : i < (p ++ M).length := by simp; omega
  have c := h.cellAt i (by omega)
  rw [iz_get _ i hil] at c
  rw [Nat.zero_add, c]
  congr 2
  simp [List.getD, List.getElem?_append_left hi]
end Go.Proofs.YtljopkmpcolgfaaDoor
