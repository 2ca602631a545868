/-
  Several steps more onto a row of one's own; the statement's copied.
-/
import Derived.Test.YtedfjedmapimnaaDoorSr3
import Derived.Deep.AppendSrc
namespace Go.Proofs.YtedfjedmapimnaaDoor
open Flo Go.RowKit
/-- what can be appended -/
def SrcS (w : World) (v : Value) (ss : List Sp.St) : Prop := (v = .slice none 0 0 ∧ ss = []) ∨ ∃ ad c, v = .slice (some ad) ss.length c ∧ ∀ j u, (scs ss)[j]? = some u → w.cell? (ad.add j) = some u
theorem scs_at (ss : List Sp.St) (j : Nat) (u : Value) (h : (scs ss)[j]? = some u) : ∃ i k s, j = i * 7 + k ∧ k < 7 ∧ ss[i]? = some s ∧ (sc1 s)[k]? = some u := by
  have hj : j < ss.length * 7 := by rw [← scs_len]; exact (List.getElem?_eq_some_iff.1 h).1
  have hi : j / 7 < ss.length := by omega
  obtain ⟨s, hs⟩ : ∃ s, ss[j / 7]? = some s := ⟨_, List.getElem?_eq_getElem hi⟩
  have e : j = j / 7 * 7 + j % 7 := by omega
  refine ⟨j / 7, j % 7, s, e, by omega, hs, ?_⟩
  rw [← scs_get ss (j / 7) (j % 7) s hs (by omega), ← e]
  exact h
theorem SAt.at {w : World} {q p : Nat} {s : Sp.St} (h : SAt w q p s) (k : Nat) (u : Value) (hk : (sc1 s)[k]? = some u) : w.cell? ⟨q, p + k, none⟩ = some u := by
  match k, hk with
  | 0, hk => simp [sc1] at hk; subst hk; exact h.c0
  | 1, hk => simp [sc1] at hk; subst hk; exact h.c1
  | 2, hk => simp [sc1] at hk; subst hk; exact h.c2
  | 3, hk => simp [sc1] at hk; subst hk; exact h.c3
  | 4, hk => simp [sc1] at hk; subst hk; exact h.c4
  | 5, hk => simp [sc1] at hk; subst hk; exact h.c5
  | 6, hk => simp [sc1] at hk; subst hk; exact h.c6
  | n + 7, hk => simp [sc1] at hk
theorem add_s (b off i : Nat) : (⟨b, off, none⟩ : Addr).add i = ⟨b, off + i, none⟩ := by
  unfold Addr.add
  by_cases h : i = 0
  · subst h; simp
  · simp [h]
theorem Ss.src {w : World} {ao : Option Addr} {c : Nat} {ss : List Sp.St} (h : Ss w ao ss) (hc : ao = none → c = 0) : SrcS w (.slice ao ss.length c) ss := by
  cases ao with
  | none =>
    left
    have e : ss = [] := by
      cases ss with
      | nil => rfl
      | cons s l => obtain ⟨q, o, e, _⟩ := h 0 s rfl; cases e
    subst e
    rw [hc rfl]
    exact ⟨rfl, rfl⟩
  | some ad =>
    right
    refine ⟨ad, c, rfl, fun j u hj => ?_⟩
    obtain ⟨i, k, s, rfl, hk, hs, hu⟩ := scs_at ss j u hj
    obtain ⟨q, o, e, hat⟩ := h i s hs
    cases e
    rw [add_s, ← Nat.add_assoc]
    exact hat.at k u hu
theorem SrcS.below {w w' : World} {v : Value} {ss : List Sp.St} (h : SrcS w v ss) (hb : Below w.heap.size w w') : SrcS w' v ss := by
  rcases h with h | ⟨ad, c, h1, h2⟩
  · exact .inl h
  · exact .inr ⟨ad, c, h1, fun j u hj => (hb.cell (cell_lt (h2 j u hj))).trans (h2 j u hj)⟩
theorem gb_self (w : World) (r : Option Nat) : w.grownBy w r := gb_refl w r
/-- several steps more -/
theorem appSs {ops : Array Oper} {rest : List Oper} {o : Oper} {a : Act} {Q : Exit → Act → World → Prop} (w : World) (hgd : o.guard = none) (sl x : Operand)
    (ho : o.op = .call { callee := .builtin .append, args := #[sl, x], argTypes := #[22, 22] })
    (B : Nat) (ss zs : List Sp.St) (v2 : Value) (g n cap : Nat) (hs : a.eval sl = .slice (some ⟨g, 0, none⟩) n cap) (hx : a.eval x = v2) (hrow : OwS w B (.slice (some ⟨g, 0, none⟩) n cap) ss) (hsrc : SrcS w v2 zs)
    (hk : (ss.length + zs.length) * 56 ≤ 140737488355328) (hB : B ≤ w.heap.size)
    (h : ∀ v' w', OwS w' B v' (ss ++ zs) → w.grownBy w' (some g) → (∀ b, v'.ownBlock = some b → some g = some b ∨ w.heap.size ≤ b) → wpList Tryd.prog ops Q rest (a.put o.dst v') w') : wpList Tryd.prog ops Q (o :: rest) a w := by
  obtain ⟨i0, hi0, hz0, hz1, hz2⟩ := info_parts infoS
  rcases hsrc with ⟨rfl, rfl⟩ | ⟨ad, c, rfl, hc⟩
  · have hrow2 : w.ownsRow B 39 7 (.slice (some ⟨g, 0, none⟩) n cap) ss.length (scs ss) := hrow
    have hn : n ≤ cap := by
      rcases hrow2.2 with ⟨h1, _⟩ | ⟨g', cap', cur, h1, h2, h3, h4, h5⟩
      · cases h1
      · injection h1 with h6 h7 h8; omega
    have hr := run_append_room_src (P := Tryd.prog) (w := w) 22 22 o.type 39 i0 Tryd.underlying22 hi0 g 0 n cap (.slice none 0 0) 0 [] (Src.ofNil w Tryd.underlying22 0) (by omega) (fun j hj => by cases hj) (fun j hj => by cases hj)
    have hw : w.setCells g (0 + n * i0.size) [] = w := rfl
    rw [hw, Nat.add_zero] at hr
    refine wpList_plain hgd fun _ hK => ?_
    unfold Oper.wp execOp
    simp only [ho, resolve, invoke, builtin, Sem.run_bind, Sem.run_pure, Result.andThen_ok, List.map_toArray, List.map_cons, List.map_nil, hs, hx, hr]
    exact hK _ _ (h _ _ (by rw [List.append_nil]; exact hrow) (gb_self _ _) fun b hb => .inl hb)
  · refine wpList_append_fr w hgd sl x 22 ho B 39 i0 _ 7 56 Tryd.underlying22 hi0 hz0 hz1 hz2 rfl (by decide) _ ss.length _ hs hrow ad zs.length c (scs zs) hx (scs_len zs) hc (scs_one zs) ?_ hk hB ?_
    · unfold maxLen; omega
    · intro v' w1 hown' hgrow hfr
      refine h v' w1 ?_ hgrow hfr
      unfold OwS
      rw [show scs (ss ++ zs) = scs ss ++ scs zs by simp [scs], List.length_append]
      exact hown'
def s77 : Sp.St := ⟨-77, 0, 0, 0, 0, 0, 0⟩
theorem Ss.pre {w : World} {ao : Option Addr} {ss zs : List Sp.St} (h : Ss w ao (ss ++ zs)) : Ss w ao ss := fun i s hi => h i s (by rw [List.getElem?_append_left (List.getElem?_eq_some_iff.1 hi).1]; exact hi)
/-- what copied gives -/
def CpE (p : Sp.Pg) (n : Nat) (w : World) (e : Ending) (w' : World) : Prop :=
  ∃ q cap, e = .returned (.tuple #[pv p (.slice (some ⟨q, 0, none⟩) n cap), .slice (some ⟨q, 0, none⟩) (n + 1) cap]) ∧ OwS w' w.heap.size (.slice (some ⟨q, 0, none⟩) (n + 1) cap) (p.steps ++ [s77]) ∧ Below w.heap.size w w'
end Go.Proofs.YtedfjedmapimnaaDoor
