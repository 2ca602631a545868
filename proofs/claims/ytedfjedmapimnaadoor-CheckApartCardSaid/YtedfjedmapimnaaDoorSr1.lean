/-
  Package steps, reading: what Upto tells, an array that is filled; readHead.
-/
import Derived.Test.YtedfjedmapimnaaDoorSp8
import Derived.Test.YtedfjedmapimnaaDoorQkq
namespace Go.Proofs.YtedfjedmapimnaaDoor
open Flo Go.RowKit
section
variable {bs : List Nat}
theorem rf_app : ∀ (l m : List Bool) (k : Nat), Sp.rf bs (l ++ m) k = (Sp.rf bs l k).bind fun p => (Sp.rf bs m p.2).map fun q => (p.1 ++ q.1, q.2)
  | [], m, k => by simp [Sp.rf]
  | false :: l, m, k => by
    simp only [List.cons_append, Sp.rf, rf_app l m k]
    cases Sp.rf bs l k with
    | none => rfl
    | some p => cases hq : Sp.rf bs m p.2 <;> simp [hq]
  | true :: l, m, k => by
    simp only [List.cons_append, Sp.rf]
    cases Sp.rn bs 262144 k with
    | none => rfl
    | some q =>
      simp only [Option.bind_some, rf_app l m q.2]
      cases Sp.rf bs l q.2 with
      | none => rfl
      | some p => cases hq : Sp.rf bs m p.2 <;> simp [hq]
theorem rf_none {l : List Bool} {k : Nat} (m : List Bool) (h : Sp.rf bs l k = none) : Sp.rf bs (l ++ m) k = none := by rw [rf_app, h]; rfl
theorem rf_t_none {l : List Bool} {k j : Nat} {xs : List Nat} (h : Sp.rf bs l k = some (xs, j)) (h2 : Sp.rn bs 262144 j = none) : Sp.rf bs (l ++ [true]) k = none := by
  rw [rf_app, h]; simp [Sp.rf, h2]
theorem rf_t_some {l : List Bool} {k j i x : Nat} {xs : List Nat} (h : Sp.rf bs l k = some (xs, j)) (h2 : Sp.rn bs 262144 j = some (x, i)) : Sp.rf bs (l ++ [true]) k = some (xs ++ [x], i) := by
  rw [rf_app, h]; simp [Sp.rf, h2]
theorem rf_f {l : List Bool} {k j : Nat} {xs : List Nat} (h : Sp.rf bs l k = some (xs, j)) : Sp.rf bs (l ++ [false]) k = some (xs ++ [0], j) := by
  rw [rf_app, h]; simp [Sp.rf]
theorem take_snoc {l : List Bool} {k : Nat} (h : k < l.length) : l.take (k + 1) = l.take k ++ [l.getD k false] := by
  rw [List.take_succ_eq_append_getElem h, List.getD_eq_getElem?_getD, List.getElem?_eq_getElem h]; rfl
theorem rf_cut {l : List Bool} {k j : Nat} (h : Sp.rf bs (l.take k) j = none) : Sp.rf bs l j = none := by
  rw [← List.take_append_drop k l]; exact rf_none _ h
theorem rn_lt {most k x j : Nat} (h : Sp.rn bs most k = some (x, j)) : x ≤ most := by
  unfold Sp.rn at h
  cases hr : Pk.rv 0 0 (bs.drop k) with
  | error c => rw [hr] at h; cases h
  | ok p =>
    rw [hr] at h
    simp only at h
    by_cases hy : most < p.1
    · rw [if_pos hy] at h; cases h
    · rw [if_neg hy] at h; simp at h; omega
end
/-- what Upto tells -/
def UpE (al : List Addr) (bs : List Nat) (most k : Nat) (R : Nat → Prop) (g : Nat) (w : World) (e : Ending) (w' : World) : Prop :=
  Fr (fun k => k = g) w w' ∧ ((Sp.rn bs most k = none ∧ ∃ c, e = .returned (.tuple #[.int .i64 0, ek al c])) ∨ ∃ x j : Nat, Sp.rn bs most k = some (x, j) ∧ e = .returned (.tuple #[.int .i64 (x : Int), .nilIface]) ∧ Rr R w' g bs j)
/-- no block of a variable that is read here -/
def Ng (g : Nat) : Prop := ¬ 19 = g ∧ ¬ 0 = g ∧ ¬ 1 = g ∧ ¬ 2 = g ∧ ¬ 3 = g ∧ ¬ 4 = g
theorem E4.fr {w w' : World} {al : List Addr} {g : Nat} (h : E4 w al) (hf : Fr (fun k => k = g) w w') (hg : Ng g) : E4 w' al :=
  ⟨hf.cell h.short hg.2.2.1, hf.cell h.varint hg.2.2.2.1, hf.cell h.limit hg.2.2.2.2.1, hf.cell h.tail hg.2.2.2.2.2, hf.cell h.prog hg.2.1⟩
/-- an array that is being filled -/
def Ar (w : World) (b n : Nat) (xs : List Nat) : Prop := ∀ i, i < n → w.cell? ⟨b, i, none⟩ = some (.int .i64 (xs.getD i 0 : Nat)) ∧ w.frozen? ⟨b, i, none⟩ = false
theorem Ar.fr {S : Nat → Prop} {w w' : World} {b n : Nat} {xs : List Nat} (h : Ar w b n xs) (hf : Fr S w w') (hS : ¬ S b) : Ar w' b n xs := fun i hi =>
  ⟨hf.cell (h i hi).1 hS, (hf.frozen (p := ⟨b, i, none⟩) (cell_lt (h i hi).1) hS).trans (h i hi).2⟩
theorem Ar.zero {w : World} {b n : Nat} {xs : List Nat} (h : Ar w b n xs) : Ar w b n (xs ++ [0]) := fun i hi => by
  refine ⟨?_, (h i hi).2⟩
  rw [(h i hi).1]
  have e : (xs ++ [0]).getD i 0 = xs.getD i 0 := by
    rcases Nat.lt_or_ge i xs.length with h1 | h1
    · simp [List.getD, List.getElem?_append_left h1]
    · rcases Nat.eq_or_lt_of_le h1 with h2 | h2
      · subst h2; simp [List.getD]
      · simp [List.getD, List.getElem?_eq_none (show (xs ++ [0]).length ≤ i by simp; omega), List.getElem?_eq_none h1]
  rw [e]
theorem Ar.set {w : World} {b n : Nat} {xs : List Nat} (h : Ar w b n xs) (x : Nat) : Ar (w.setCell ⟨b, xs.length, none⟩ (.int .i64 (x : Int))) b n (xs ++ [x]) := fun i hi => by
  refine ⟨?_, by rw [World.frozen?_setCell]; exact (h i hi).2⟩
  by_cases e : i = xs.length
  · subst e
    rw [World.cell?_setCell_same _ _ _ (h _ hi).1]
    simp [List.getD]
  · rw [World.cell?_setCell_other _ _ _ _ (by simp), (h i hi).1]
    rcases Nat.lt_or_ge i xs.length with h1 | h1
    · simp [List.getD, List.getElem?_append_left h1]
    · simp [List.getD, List.getElem?_eq_none h1, List.getElem?_eq_none (show (xs ++ [x]).length ≤ i by simp; omega)]
theorem set_fr (w : World) (b i : Nat) (u : Value) : Fr (fun k => k = b) w (w.setCell ⟨b, i, none⟩ u) := Fr.setCell (S := fun k => k = b) (p := ⟨b, i, none⟩) (Fr.refl _ w) rfl u
theorem Bpg.fr {S : Nat → Prop} {w w' : World} {g : Nat} {p : Sp.Pg} {v : Value} (h : Bpg w g p v) (hf : Fr S w w') (hS : ¬ S g) : Bpg w' g p v := ⟨hf.cell h.c0 hS, hf.cell h.c1 hS, hf.cell h.c2 hS, hf.cell h.c3 hS, hf.cell h.c4 hS⟩
theorem Bpg.set {w : World} {b : Nat} {p : Sp.Pg} {v : Value} (h : Bpg w b p v) (p' : Sp.Pg) (v' : Value) : Bpg (((((w.setCell ⟨b, 0, none⟩ (.int .i64 p'.len)).setCell ⟨b, 1, none⟩ (.int .i64 p'.cells)).setCell ⟨b, 2, none⟩ (.int .i64 p'.inn)).setCell ⟨b, 3, none⟩ (.int .i64 p'.out)).setCell ⟨b, 4, none⟩ (v')) b p' v' := ⟨by simp [World.cell?_setCell_other, World.cell?_setCell_same, h.c0], by simp [World.cell?_setCell_other, World.cell?_setCell_same, h.c1], by simp [World.cell?_setCell_other, World.cell?_setCell_same, h.c2], by simp [World.cell?_setCell_other, World.cell?_setCell_same, h.c3], by simp [World.cell?_setCell_other, World.cell?_setCell_same, h.c4]⟩
theorem set5_fr (w : World) (b : Nat) (v0 v1 v2 v3 v4 : Value) : Fr (fun k => k = b) w (((((w.setCell ⟨b, 0, none⟩ (v0)).setCell ⟨b, 1, none⟩ (v1)).setCell ⟨b, 2, none⟩ (v2)).setCell ⟨b, 3, none⟩ (v3)).setCell ⟨b, 4, none⟩ (v4)) := ((((Fr.setCell (S := fun k => k = b) (p := ⟨b, 0, none⟩) (Fr.refl _ w) rfl v0).setCell (p := ⟨b, 1, none⟩) rfl v1).setCell (p := ⟨b, 2, none⟩) rfl v2).setCell (p := ⟨b, 3, none⟩) rfl v3).setCell (p := ⟨b, 4, none⟩) rfl v4
theorem Bst.set {w : World} {b : Nat} {op dst src jump count n k : Int} (h : Bst w b op dst src jump count n k) (s : Sp.St) : Bst (((((((w.setCell ⟨b, 0, none⟩ (.int .i64 s.op)).setCell ⟨b, 1, none⟩ (.int .i64 s.dst)).setCell ⟨b, 2, none⟩ (.int .i64 s.src)).setCell ⟨b, 3, none⟩ (.int .i64 s.jump)).setCell ⟨b, 4, none⟩ (.int .i64 s.count)).setCell ⟨b, 5, none⟩ (.int .i64 s.n)).setCell ⟨b, 6, none⟩ (.int .i64 s.k)) b s.op s.dst s.src s.jump s.count s.n s.k := ⟨by simp [World.cell?_setCell_other, World.cell?_setCell_same, h.c0], by simp [World.cell?_setCell_other, World.cell?_setCell_same, h.c1], by simp [World.cell?_setCell_other, World.cell?_setCell_same, h.c2], by simp [World.cell?_setCell_other, World.cell?_setCell_same, h.c3], by simp [World.cell?_setCell_other, World.cell?_setCell_same, h.c4], by simp [World.cell?_setCell_other, World.cell?_setCell_same, h.c5], by simp [World.cell?_setCell_other, World.cell?_setCell_same, h.c6]⟩
theorem set7_fr (w : World) (b : Nat) (v0 v1 v2 v3 v4 v5 v6 : Value) : Fr (fun k => k = b) w (((((((w.setCell ⟨b, 0, none⟩ (v0)).setCell ⟨b, 1, none⟩ (v1)).setCell ⟨b, 2, none⟩ (v2)).setCell ⟨b, 3, none⟩ (v3)).setCell ⟨b, 4, none⟩ (v4)).setCell ⟨b, 5, none⟩ (v5)).setCell ⟨b, 6, none⟩ (v6)) := ((((((Fr.setCell (S := fun k => k = b) (p := ⟨b, 0, none⟩) (Fr.refl _ w) rfl v0).setCell (p := ⟨b, 1, none⟩) rfl v1).setCell (p := ⟨b, 2, none⟩) rfl v2).setCell (p := ⟨b, 3, none⟩) rfl v3).setCell (p := ⟨b, 4, none⟩) rfl v4).setCell (p := ⟨b, 5, none⟩) rfl v5).setCell (p := ⟨b, 6, none⟩) rfl v6
/-- what readHead tells -/
def RhE (al : List Addr) (bs : List Nat) (k : Nat) (R : Nat → Prop) (g : Nat) (w : World) (e : Ending) (w' : World) : Prop :=
  Fr (fun k => k = g) w w' ∧ ((Sp.rf bs [true, true, true, true] k = none ∧ ∃ c, e = .returned (.tuple #[.agg #[.int .i64 0, .int .i64 0, .int .i64 0, .int .i64 0, .slice none 0 0], ek al c])) ∨
    ∃ (xs : List Nat) (j : Nat), Sp.rf bs [true, true, true, true] k = some (xs, j) ∧ e = .returned (.tuple #[.agg #[.int .i64 (xs.getD 0 0 : Nat), .int .i64 (xs.getD 1 0 : Nat), .int .i64 (xs.getD 2 0 : Nat), .int .i64 (xs.getD 3 0 : Nat), .slice none 0 0], .nilIface]) ∧ Rr R w' g bs j)
end Go.Proofs.YtedfjedmapimnaaDoor
