/-
  Rows of steps of one's own: made, grown; readings of several steps.
-/
import Derived.Test.YtedfjedmapimnaaDoorSr2
namespace Go.Proofs.YtedfjedmapimnaaDoor
open Flo Go.RowKit
/-- steps in cells -/
def sc1 (s : Sp.St) : List Value := [.int .i64 s.op, .int .i64 s.dst, .int .i64 s.src, .int .i64 s.jump, .int .i64 s.count, .int .i64 s.n, .int .i64 s.k]
def scs (ss : List Sp.St) : List Value := ss.flatMap sc1
theorem scs_len (ss : List Sp.St) : (scs ss).length = ss.length * 7 := by
  induction ss with
  | nil => rfl
  | cons s l ih => simp only [scs, List.flatMap_cons, List.length_append, List.length_cons] at ih ⊢; rw [ih]; simp [sc1]; omega
theorem scs_snoc (ss : List Sp.St) (s : Sp.St) : scs (ss ++ [s]) = scs ss ++ sc1 s := by simp [scs]
theorem scs_one (ss : List Sp.St) : ∀ u ∈ scs ss, u.oneCell' = true := by
  intro u hu
  simp only [scs, List.mem_flatMap] at hu
  obtain ⟨s, _, hs⟩ := hu
  simp only [sc1, List.mem_cons, List.not_mem_nil, or_false] at hs
  rcases hs with rfl | rfl | rfl | rfl | rfl | rfl | rfl <;> rfl
theorem scs_get : ∀ (ss : List Sp.St) (i j : Nat) (s : Sp.St), ss[i]? = some s → j < 7 → (scs ss)[i * 7 + j]? = (sc1 s)[j]?
  | [], i, j, s, h, _ => by simp at h
  | t :: l, 0, j, s, h, hj => by
    simp only [List.getElem?_cons_zero, Option.some.injEq] at h
    subst h
    rw [show scs (t :: l) = sc1 t ++ scs l by simp [scs], Nat.zero_mul, Nat.zero_add, List.getElem?_append_left (by exact hj)]
  | t :: l, i + 1, j, s, h, hj => by
    rw [show scs (t :: l) = sc1 t ++ scs l by simp [scs], List.getElem?_append_right (by simp [sc1]; omega)]
    rw [show (i + 1) * 7 + j - (sc1 t).length = i * 7 + j by simp [sc1]; omega]
    exact scs_get l i j s (by simpa using h) hj
/-- a row of these steps, in a block of its own (or nil) -/
def OwS (w : World) (B : Nat) (v : Value) (ss : List Sp.St) : Prop := w.ownsRow B 39 7 v ss.length (scs ss)
theorem OwS.ss {w : World} {B : Nat} {v : Value} {ss : List Sp.St} (h : OwS w B v ss) : ∃ ao cap, v = .slice ao ss.length cap ∧ Ss w ao ss := by
  have hh : w.ownsRow B 39 7 v ss.length (scs ss) := h
  rcases hh.2 with ⟨rfl, h1⟩ | ⟨g, cap, cur, rfl, _⟩
  · refine ⟨none, 0, by rw [h1], fun i s hi => ?_⟩
    rw [List.eq_nil_of_length_eq_zero h1] at hi
    simp at hi
  · refine ⟨some ⟨g, 0, none⟩, cap, rfl, fun i s hi => ⟨g, 0, rfl, ?_⟩⟩
    have hlt : i < ss.length := (List.getElem?_eq_some_iff.1 hi).1
    have hc : ∀ j, j < 7 → w.cell? ⟨g, i * 7 + j, none⟩ = (sc1 s)[j]? := fun j hj => by
      rw [← scs_get ss i j s hi hj]
      exact hh.cellAt (i * 7 + j) (by omega)
    rw [Nat.zero_add]
    exact ⟨hc 0 (by decide), hc 1 (by decide), hc 2 (by decide), hc 3 (by decide), hc 4 (by decide), hc 5 (by decide), hc 6 (by decide)⟩
theorem OwS.fr {S : Nat → Prop} {w w' : World} {B : Nat} {v : Value} {ss : List Sp.St} (h : OwS w B v ss) (hf : Fr S w w') (hS : ∀ b, v.ownBlock = some b → ¬ S b) : OwS w' B v ss := Fr.owns hf h hS
theorem OwS.base {w : World} {B C : Nat} {v : Value} {ss : List Sp.St} (h : OwS w B v ss) (hC : C ≤ B) : OwS w C v ss := owns_base h fun b hb => Nat.le_trans hC (World.ownsRow.lt h b hb).1
theorem infoS : (Tryd.prog.info? 39).map (fun i => (i.zero, i.size, i.bytes)) = some (some (.agg #[.int .i64 0, .int .i64 0, .int .i64 0, .int .i64 0, .int .i64 0, .int .i64 0, .int .i64 0]), 7, 56) := by kernel_rfl
/-- one step more -/
theorem appSt {ops : Array Oper} {rest : List Oper} {o : Oper} {a : Act} {Q : Exit → Act → World → Prop} (w : World) (hgd : o.guard = none) (sl x : Operand)
    (ho : o.op = .call { callee := .builtin .append, args := #[sl, x], argTypes := #[22, 22] })
    (B : Nat) (ss : List Sp.St) (s : Sp.St) (q : Nat) (v : Value) (hs : a.eval sl = v) (hx : a.eval x = .slice (some ⟨q, 0, none⟩) 1 1) (hrow : OwS w B v ss)
    (hcell : SAt w q 0 s) (hk : (ss.length + 1) * 56 ≤ 140737488355328) (hB : B ≤ w.heap.size)
    (h : ∀ v' w', OwS w' B v' (ss ++ [s]) → w.grownBy w' v.ownBlock → (∀ b, v'.ownBlock = some b → v.ownBlock = some b ∨ w.heap.size ≤ b) → wpList Tryd.prog ops Q rest (a.put o.dst v') w') : wpList Tryd.prog ops Q (o :: rest) a w := by
  obtain ⟨i0, hi0, hz0, hz1, hz2⟩ := info_parts infoS
  refine wpList_append_fr w hgd sl x 22 ho B 39 i0 _ 7 56 Tryd.underlying22 hi0 hz0 hz1 hz2 rfl (by decide) v ss.length _ hs hrow ⟨q, 0, none⟩ 1 1 (sc1 s) hx rfl ?_ ?_ ?_ ?_ hB ?_
  · intro j u hj
    match j, hj with
    | 0, hj => simp [sc1] at hj; subst hj; simpa [Addr.add] using hcell.c0
    | 1, hj => simp [sc1] at hj; subst hj; simpa [Addr.add] using hcell.c1
    | 2, hj => simp [sc1] at hj; subst hj; simpa [Addr.add] using hcell.c2
    | 3, hj => simp [sc1] at hj; subst hj; simpa [Addr.add] using hcell.c3
    | 4, hj => simp [sc1] at hj; subst hj; simpa [Addr.add] using hcell.c4
    | 5, hj => simp [sc1] at hj; subst hj; simpa [Addr.add] using hcell.c5
    | 6, hj => simp [sc1] at hj; subst hj; simpa [Addr.add] using hcell.c6
    | n + 7, hj => simp [sc1] at hj
  · intro u hu
    exact scs_one [s] u (by simpa [scs] using hu)
  · unfold maxLen; omega
  · omega
  · intro v' w1 hown' hgrow hfr
    refine h v' w1 ?_ hgrow hfr
    unfold OwS
    rw [scs_snoc, List.length_append]
    exact hown'
theorem makeS (w : World) (c : Nat) (hc : c ≤ 100000000) :
    ∃ w', (Instr.makeSlice 22 (.int .i64 0) (.int .i64 (c : Int))).run Tryd.prog w = .ok (.slice (some ⟨w.heap.size, 0, none⟩) 0 c) w' ∧
      Hid (OwS w' w.heap.size (.slice (some ⟨w.heap.size, 0, none⟩) 0 c) []) ∧ Hid (Below w.heap.size w w') := by
  obtain ⟨i0, hi0, hz0, hz1, hz2⟩ := info_parts infoS
  have h := run_make (P := Tryd.prog) w 22 39 i0 _ Tryd.underlying22 hi0 hz0 .i64 .i64 0 c (by omega) (by omega) (by rw [hz2]; omega) (by omega)
  simp only [Int.toNat_natCast, Int.toNat_zero, hz1] at h
  refine ⟨_, h, ?_, (Below.refl _ _).alloc (Nat.le_refl _) _⟩
  exact World.ownsRow_made w _ c (Nat.le_refl _) (by unfold maxLen; omega) (by rw [size_madeCells])
section
variable {bs : List Nat}
theorem rss_app : ∀ (a b k : Nat), Sp.rss bs (a + b) k = (Sp.rss bs a k).bind fun p => (Sp.rss bs b p.2).map fun q => (p.1 ++ q.1, q.2)
  | 0, b, k => by simp [Sp.rss]
  | a + 1, b, k => by
    rw [show a + 1 + b = (a + b) + 1 by omega]
    simp only [Sp.rss]
    cases Sp.rst bs k with
    | none => rfl
    | some q =>
      simp only [Option.bind_some, rss_app a b q.2]
      cases Sp.rss bs a q.2 with
      | none => rfl
      | some p => cases hq : Sp.rss bs b p.2 <;> simp [hq]
theorem rss_snoc {a k j i : Nat} {ss : List Sp.St} {s : Sp.St} (h : Sp.rss bs a k = some (ss, j)) (h2 : Sp.rst bs j = some (s, i)) : Sp.rss bs (a + 1) k = some (ss ++ [s], i) := by
  rw [rss_app, h]; simp [Sp.rss, h2]
theorem rss_stop {a k j c : Nat} {ss : List Sp.St} (hc : a < c) (h : Sp.rss bs a k = some (ss, j)) (h2 : Sp.rst bs j = none) : Sp.rss bs c k = none := by
  rw [show c = a + (c - a - 1 + 1) by omega, rss_app, h]
  simp [Sp.rss, h2]
end
end Go.Proofs.YtedfjedmapimnaaDoor
