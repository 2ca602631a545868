/-
  The document's both (package check's reference): two rising lists as one, each number once.
-/
import Derived.Test.YtedfjedmapimnaaDoorKaa
import Derived.Test.YtedfjedmapimnaaDoorKd1
import Derived.Test.YtedfjedmapimnaaDoorSdd
namespace Go.Proofs.YtedfjedmapimnaaDoor
open Flo Go.RowKit
def Mono (xs : List Nat) : Prop := ∀ a b, a ≤ b → b < xs.length → xs.getD a 0 ≤ xs.getD b 0
structure Mg (xs ys : List Nat) (i j : Nat) (out : List Nat) : Prop where
  ss : out.Pairwise (· < ·)
  me : ∀ x, x ∈ out ↔ x ∈ xs.take i ∨ x ∈ ys.take j
  lx : ∀ x ∈ out, ∀ k, i ≤ k → k < xs.length → x ≤ xs.getD k 0
  ly : ∀ x ∈ out, ∀ k, j ≤ k → k < ys.length → x ≤ ys.getD k 0
  sz : out.length ≤ i + j
theorem Mg.start (xs ys : List Nat) : Mg xs ys 0 0 [] := ⟨List.Pairwise.nil, by simp, by simp, by simp, by simp⟩
theorem Mg.symm {xs ys out : List Nat} {i j : Nat} (h : Mg xs ys i j out) : Mg ys xs j i out := ⟨h.ss, fun x => by rw [h.me x]; exact Or.comm, h.ly, h.lx, by have := h.sz; omega⟩
theorem take_s {xs : List Nat} {i : Nat} (hi : i < xs.length) : xs.take (i + 1) = xs.take i ++ [xs.getD i 0] := by
  rw [List.take_add_one, List.getElem?_eq_getElem hi]
  simp [List.getD, hi]
theorem Mg.skip {xs ys out : List Nat} {i j : Nat} (h : Mg xs ys i j out) (hi : i < xs.length) (hz : xs.getD i 0 ∈ out) : Mg xs ys (i + 1) j out := by
  refine ⟨h.ss, fun x => ?_, fun x hx k hk hl => h.lx x hx k (by omega) hl, h.ly, by have := h.sz; omega⟩
  rw [take_s hi, List.mem_append, List.mem_singleton, h.me x]
  constructor
  · rintro (h1 | h1)
    · exact .inl (.inl h1)
    · exact .inr h1
  · rintro ((h1 | h1) | h1)
    · exact .inl h1
    · subst h1; exact (h.me _).1 hz
    · exact .inr h1
theorem Mg.add {xs ys out : List Nat} {i j : Nat} (h : Mg xs ys i j out) (hx : Mono xs) (hy : Mono ys) (hi : i < xs.length) (hm : j < ys.length → xs.getD i 0 ≤ ys.getD j 0) (hz : xs.getD i 0 ∉ out) : Mg xs ys (i + 1) j (out ++ [xs.getD i 0]) := by
  refine ⟨?_, fun x => ?_, fun x hx' k hk hl => ?_, fun x hx' k hk hl => ?_, by have := h.sz; rw [List.length_append]; simp; omega⟩
  · rw [List.pairwise_append]
    refine ⟨h.ss, List.pairwise_singleton _ _, fun a ha b hb => ?_⟩
    rw [List.mem_singleton] at hb
    subst hb
    have h1 := h.lx a ha i (Nat.le_refl _) hi
    have h2 : a ≠ xs.getD i 0 := fun e => hz (e ▸ ha)
    omega
  · rw [take_s hi, List.mem_append, List.mem_append, List.mem_singleton, h.me x]
    constructor
    · rintro ((h1 | h1) | h1)
      · exact .inl (.inl h1)
      · exact .inr h1
      · exact .inl (.inr h1)
    · rintro ((h1 | h1) | h1)
      · exact .inl (.inl h1)
      · exact .inr h1
      · exact .inl (.inr h1)
  · rw [List.mem_append, List.mem_singleton] at hx'
    rcases hx' with h1 | rfl
    · exact h.lx x h1 k (by omega) hl
    · exact hx _ _ (by omega) hl
  · rw [List.mem_append, List.mem_singleton] at hx'
    rcases hx' with h1 | rfl
    · exact h.ly x h1 k hk hl
    · exact Nat.le_trans (hm (by omega)) (hy _ _ hk hl)
theorem Mg.last {xs ys o : List Nat} {i j l : Nat} (h : Mg xs ys i j (o ++ [l])) (hi : i < xs.length) (hl : l ≠ xs.getD i 0) : xs.getD i 0 ∉ o ++ [l] := by
  intro hm
  have h1 := h.ss
  rw [List.pairwise_append] at h1
  have h2 := h.lx l (by simp) i (Nat.le_refl _) hi
  rw [List.mem_append, List.mem_singleton] at hm
  rcases hm with h3 | h3
  · have := h1.2.2 _ h3 l (by simp)
    omega
  · exact hl h3.symm
theorem Mg.fin {xs ys out : List Nat} (h : Mg xs ys xs.length ys.length out) (x : Nat) : x ∈ out ↔ x ∈ xs ∨ x ∈ ys := by
  have := h.me x
  rwa [List.take_length, List.take_length] at this
theorem rwl_mono (A J c : Nat) : Mono (rwl A J c) := by
  intro a b h hb
  rw [rwl_len] at hb
  have e : ∀ k, k < c → (rwl A J c).getD k 0 = A + k * J := fun k hk => by simp [rwl, List.getD, hk]
  rw [e a (by omega), e b hb]
  have := Nat.mul_le_mul_right J h
  omega
theorem ownF {w : World} {B L : Nat} {v : Value} {out : List Nat} (h : w.ownsRow B 3 1 v out.length (il out)) (e : out.length = L) : ∃ ov cv, v = .slice ov L cv ∧ ((out = [] ∧ L = 0) ∨ ∃ o l K g f, out = o ++ [l] ∧ L = K + 1 ∧ ov = some ⟨g, f, none⟩ ∧ w.cell? ⟨g, f + K, none⟩ = some (.int .i64 ((l : Nat) : Int))) := by
  obtain ⟨ao, c, rfl, h2⟩ := RdI.of_own h
  refine ⟨ao, c, by rw [e], ?_⟩
  rcases List.eq_nil_or_concat out with rfl | ⟨o, l, rfl⟩
  · exact .inl ⟨rfl, by simpa using e.symm⟩
  · obtain ⟨g, f, rfl, _, h3⟩ := h2 (by simp)
    refine .inr ⟨o, l, o.length, g, f, by simp, by rw [← e]; simp, rfl, ?_⟩
    have := h3 o.length (by simp)
    simpa [List.getD] using this
end Go.Proofs.YtedfjedmapimnaaDoor
/-
  The document's Touched (package check's reference), operation by operation.
-/
namespace Go.Proofs.YtedfjedmapimnaaDoor
open Flo Go.RowKit
/-- what Touched tells of a step in form -/
def DtX (x y : List Nat) (w : World) (e : Ending) (w' : World) : Prop :=
  ∃ va vb, e = .returned (.tuple #[va, vb, .int .i64 0]) ∧ w'.ownsRow w.heap.size 3 1 va x.length (il x) ∧ w'.ownsRow w.heap.size 3 1 vb y.length (il y) ∧ Below w.heap.size w w'
theorem ow_none {w : World} {B : Nat} : w.ownsRow B 3 1 (.slice none 0 0) ([] : List Nat).length (il []) := ⟨rfl, .inl ⟨rfl, rfl⟩⟩
end Go.Proofs.YtedfjedmapimnaaDoor
/-
  The document's Touched (package check's reference), operation by operation.
-/
namespace Go.Proofs.YtedfjedmapimnaaDoor
open Flo Go.RowKit
theorem rwl_ne {A J c : Nat} (h : 1 ≤ c) : rwl A J c ≠ [] := fun e => by have := rwl_len A J c; rw [e] at this; simp at this; omega
end Go.Proofs.YtedfjedmapimnaaDoor
/-
  The document's Touched (package check's reference): where it answers one list twice, once copied.
-/
namespace Go.Proofs.YtedfjedmapimnaaDoor
open Flo Go.RowKit
theorem il_app (zs ys : List Nat) : il (zs ++ ys) = il zs ++ il ys := by simp [il]
/-- a list of numbers behind another -/
theorem appL {ops : Array Oper} {rest : List Oper} {o : Oper} {a : Act} {Q : Exit → Act → World → Prop} (w : World) (hgd : o.guard = none) (sl x : Operand)
    (ho : o.op = .call { callee := .builtin .append, args := #[sl, x], argTypes := #[41, 41] })
    (B : Nat) (zs ys : List Nat) (b off m cap : Nat) (v : Value) (hs : a.eval sl = v) (hx : a.eval x = .slice (some ⟨b, off, none⟩) m cap) (hm : ys.length = m) (hrow : w.ownsRow B 3 1 v zs.length (il zs))
    (hcell : ∀ i, i < m → w.cell? ⟨b, off + i, none⟩ = some (.int .i64 ((ys.getD i 0 : Nat) : Int))) (hk : (zs.length + m) * 8 ≤ 140737488355328) (hB : B ≤ w.heap.size)
    (h : ∀ v' w', w'.ownsRow B 3 1 v' (zs ++ ys).length (il (zs ++ ys)) → w.grownBy w' v.ownBlock → wpList Tryd.prog ops Q rest (a.put o.dst v') w') : wpList Tryd.prog ops Q (o :: rest) a w := by
  obtain ⟨i0, hi0, hz0, hz1, hz2⟩ := info_parts infoI9
  refine wpList_append_own w hgd sl x 41 ho B 3 i0 (.int .i64 0) 1 8 Tryd.underlying41 hi0 hz0 hz1 hz2 rfl (by decide) v zs.length _ hs hrow ⟨b, off, none⟩ m cap (il ys) hx (by rw [il_len, hm, Nat.mul_one]) ?_ ?_ ?_ ?_ hB ?_
  · intro j u hj
    have h1 : j < m := by have := (List.getElem?_eq_some_iff.1 hj).1; rw [il_len] at this; omega
    rw [il_get ys j (by omega)] at hj
    cases hj
    have e : (⟨b, off, none⟩ : Addr).add j = ⟨b, off + j, none⟩ := by
      unfold Addr.add
      by_cases h0 : j = 0
      · subst h0; simp
      · simp [h0]
    rw [e]
    exact hcell j h1
  · intro u hu
    obtain ⟨z, -, rfl⟩ := List.mem_map.1 hu
    rfl
  · unfold maxLen; omega
  · omega
  · intro v' w1 hown' hgrow _
    refine h v' w1 ?_ hgrow
    rw [il_app, List.length_append, hm]
    exact hown'
end Go.Proofs.YtedfjedmapimnaaDoor
/-
  The document's Touched (package check's reference): the butterflies.
-/
namespace Go.Proofs.YtedfjedmapimnaaDoor
open Flo Go.RowKit
def fll (d j c q : Nat) : List Nat := (List.range q).flatMap fun t => rwl (d + t * j) 1 c
theorem fll_succ (d j c q : Nat) : fll d j c (q + 1) = fll d j c q ++ rwl (d + q * j) 1 c := by simp [fll, List.range_succ]
theorem fll_len (d j c : Nat) : ∀ q, (fll d j c q).length = q * c
  | 0 => by simp [fll]
  | q + 1 => by rw [fll_succ, List.length_append, fll_len d j c q, rwl_len, Nat.succ_mul]
end Go.Proofs.YtedfjedmapimnaaDoor
/-
  The document's Touched (package check's reference), of any step: it answers the program's lists.
-/
namespace Go.Proofs.YtedfjedmapimnaaDoor
open Flo Go.RowKit
theorem rwl_ss {A J c : Nat} (h : 1 ≤ J) : Kc.SS (rwl A J c) := by
  unfold Kc.SS rwl
  rw [List.pairwise_map]
  refine List.pairwise_lt_range.imp ?_
  intro a b hab
  have := Nat.mul_lt_mul_of_pos_right hab (show 0 < J by omega)
  omega
theorem flat1 (A J c : Nat) : Kc.flat [⟨A, J, c⟩] = rwl A J c := by simp [Kc.flat, rwl, Kc.Rw.at]
theorem cl_rwl {A J c : Nat} (h : 1 ≤ J) : Kc.cl (rwl A J c) = rwl A J c := Kc.ss_uniq (Kc.cl_ss _) (rwl_ss h) (Kc.cl_mem _)
theorem fll_lt {d j c : Nat} (h : c ≤ j) : ∀ q, ∀ x ∈ fll d j c q, x < d + q * j
  | 0 => by simp [fll]
  | q + 1 => by
    intro x hx
    rw [fll_succ, List.mem_append] at hx
    rw [Nat.succ_mul]
    rcases hx with h1 | h1
    · have := fll_lt h q x h1; omega
    · simp only [rwl, List.mem_map, List.mem_range] at h1
      obtain ⟨i, hi, rfl⟩ := h1
      omega
theorem fll_ss {d j c : Nat} (h : c ≤ j) : ∀ q, Kc.SS (fll d j c q)
  | 0 => by simp [fll, Kc.SS]
  | q + 1 => by
    rw [fll_succ]
    unfold Kc.SS
    rw [List.pairwise_append]
    refine ⟨fll_ss h q, rwl_ss (by omega), fun a ha b hb => ?_⟩
    have := fll_lt h q a ha
    simp only [rwl, List.mem_map, List.mem_range] at hb
    obtain ⟨i, hi, rfl⟩ := hb
    omega
theorem flat_flr (d j c n : Nat) : Kc.flat (Kc.flr d j c n) = fll d j c n := by
  unfold Kc.flat Kc.flr fll
  rw [List.flatMap_map]
  rfl
theorem cl_fll {d j c n : Nat} (h : c ≤ j) : Kc.cl (fll d j c n) = fll d j c n := Kc.ss_uniq (Kc.cl_ss _) (fll_ss h n) (Kc.cl_mem _)
theorem cl_both {d s c : Nat} {x : List Nat} (h : Mg (rwl d 1 c) (rwl s 1 c) (rwl d 1 c).length (rwl s 1 c).length x) : Kc.cl (Kc.flat [⟨d, 1, c⟩, ⟨s, 1, c⟩]) = x := by
  refine Kc.ss_uniq (Kc.cl_ss _) h.ss fun z => ?_
  rw [Kc.cl_mem, h.fin z]
  have e : Kc.flat [⟨d, 1, c⟩, ⟨s, 1, c⟩] = rwl d 1 c ++ rwl s 1 c := by
    simp only [Kc.flat, List.flatMap_cons, List.flatMap_nil, List.append_nil]
    rfl
  rw [e, List.mem_append]
theorem cl_nil : Kc.cl (Kc.flat []) = [] := Kc.ss_uniq (Kc.cl_ss _) List.Pairwise.nil (fun x => by rw [Kc.cl_mem]; simp [Kc.flat])
end Go.Proofs.YtedfjedmapimnaaDoor
/-
  The document's Touched (package check's reference), of a step that isn't in form.
-/
namespace Go.Proofs.YtedfjedmapimnaaDoor
open Flo Go.RowKit
end Go.Proofs.YtedfjedmapimnaaDoor
/-
  Touched of any step, the program's and the document's, in one form for steps in form and others.
-/
namespace Go.Proofs.YtedfjedmapimnaaDoor
open Flo Go.RowKit
def lx (s : Sp.St) : List Nat := bif Sp.fm s then rdl s else []
def ly (s : Sp.St) : List Nat := bif Sp.fm s then wrl s else []
theorem kt_c (s : Sp.St) (al : List Addr) (w : World) (hO : Ops w) (he : Pe w al) :
    Calls Tryd.prog 17 #[sv s] w fun e w' => ∃ va vb, e = .returned (.tuple #[va, vb, fev al (Sp.fm s)]) ∧ TwoL w' w.heap.size va (lx s) vb (ly s) ∧ Below w.heap.size w w' := by
  refine (ktouched_c s al w hO he).mono ?_
  rintro e w' ⟨hB, ⟨hf, rfl⟩ | ⟨hf, va, vb, rfl, hT⟩⟩
  · refine ⟨.slice none 0 0, .slice none 0 0, ?_, ?_, hB⟩
    · rw [hf]; rfl
    · unfold lx ly; rw [hf]
      exact ⟨ow_none, ow_none, fun b h => by cases h⟩
  · refine ⟨va, vb, ?_, ?_, hB⟩
    · rw [hf]; rfl
    · unfold lx ly; rw [hf]
      exact hT
theorem lx_len (s : Sp.St) : (lx s).length ≤ 16777216 ∧ (ly s).length ≤ 16777216 := by
  unfold lx ly
  cases hf : Sp.fm s with
  | false => simp
  | true =>
    obtain ⟨o, d, a, j, c, n, h1, h2, h3, h4, h5, h6, hFo, hn⟩ := fo_of hf
    obtain ⟨hr, hv⟩ := rok_of hFo
    obtain ⟨hl1, hl2⟩ := len_tou hFo
    have ht : Kc.touS s = Kc.tou o d a j c n := by unfold Kc.touS; rw [h1, h2, h3, h4, h5, h6]; rfl
    unfold rdl wrl
    simp only [cond_true]
    rw [ht]
    have hle : ∀ zs : List Nat, (Kc.cl zs).length ≤ zs.length := fun zs => by
      rw [Kc.cl_len]
      exact Nat.le_trans (by unfold Lib.compact Lib.compactUpTo; rw [List.length_map]; exact Nat.le_trans (List.length_filter_le _ _) (by simp)) (Nat.le_of_eq (Kc.srt_len zs))
    exact ⟨Nat.le_trans (hle _) (flat_le _ hr hl1), Nat.le_trans (hle _) (flat_le _ hv hl2)⟩
end Go.Proofs.YtedfjedmapimnaaDoor
