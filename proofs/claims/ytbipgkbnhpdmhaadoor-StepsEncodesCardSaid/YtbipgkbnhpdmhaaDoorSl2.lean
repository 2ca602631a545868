/-
  Several steps more onto a row of one's own; the statement's copied.
-/
import Derived.Test.YtbipgkbnhpdmhaaDoorSr3
import Derived.Deep.AppendSrc
namespace Go.Proofs.YtbipgkbnhpdmhaaDoor
open Flo Go.RowKit
/-- what can be appended -/
def SrcS (w : World) (v : Value) (ss : List Sp.St) : Prop := (v = .slice none 0 0 ∧ ss = []) ∨ ∃ ad c, v = .slice (some ad) ss.length c ∧ ∀ j u, (scs ss)[j]? = some u → w.cell? (ad.add j) = some u
theorem scs_at (ss : List Sp.St) (j : Nat) (u : Value) (h : (scs ss)[j]? = some u) : ∃ i k s, j = i * 7 + k ∧ k < 7 ∧ ss[i]? = some s ∧ (sc1 s)[k]? = some u := by
  have hj : j < ss.length * 7 := by rw [← scs_len]; exact (List.getElem?_eq_some_iff.1 h).1
  have hi : j / 7 < ss.length := by omega
  obtain ⟨s, hs⟩ : ∃ s, ss[j / 7]? = some s := ⟨_, List.getElem?_eq_getElem hi⟩
  have e : j = j / 7 * 7 + j % 7 := by omega
  refine ⟨j / 7, j % 7, s, e, by omega, hs, ?_⟩
  rw [← scs_get ss (j / 7) (j % 7) s hs (by omega), ← e]
  exact h
theorem SAt.at {w : World} {q p : Nat} {s : Sp.St} (h : SAt w q p s) (k : Nat) (u : Value) (hk : (sc1 s)[k]? = some u) : w.cell? ⟨q, p + k, none⟩ = some u := by
  match k, hk with
  | 0, hk => simp [sc1] at hk; subst hk; exact h.c0
  | 1, hk => simp [sc1] at hk; subst hk; exact h.c1
  | 2, hk => simp [sc1] at hk; subst hk; exact h.c2
  | 3, hk => simp [sc1] at hk; subst hk; exact h.c3
  | 4, hk => simp [sc1] at hk; subst hk; exact h.c4
  | 5, hk => simp [sc1] at hk; subst hk; exact h.c5
  | 6, hk => simp [sc1] at hk; subst hk; exact h.c6
  | n + 7, hk => simp [sc1] at hk
theorem add_s (b off i : Nat) : (⟨b, off, none⟩ : Addr).add i = ⟨b, off + i, none⟩ := by
  unfold Addr.add
  by_cases h : i = 0
  · subst h; simp
  · simp [h]
theorem Ss.src {w : World} {ao : Option Addr} {c : Nat} {ss : List Sp.St} (h : Ss w ao ss) (hc : ao = none → c = 0) : SrcS w (.slice ao ss.length c) ss := by
  cases ao with
  | none =>
    left
    have e : ss = [] := by
      cases ss with
      | nil => rfl
      | cons s l => obtain ⟨q, o, e, _⟩ := h 0 s rfl; cases e
    subst e
    rw [hc rfl]
    exact ⟨rfl, rfl⟩
  | some ad =>
    right
    refine ⟨ad, c, rfl, fun j u hj => ?_⟩
    obtain ⟨i, k, s, rfl, hk, hs, hu⟩ := scs_at ss j u hj
    obtain ⟨q, o, e, hat⟩ := h i s hs
    cases e
    rw [add_s, ← Nat.add_assoc]
    exact hat.at k u hu
theorem SrcS.below {w w' : World} {v : Value} {ss : List Sp.St} (h : SrcS w v ss) (hb : Below w.heap.size w w') : SrcS w' v ss := by
  rcases h with h | ⟨ad, c, h1, h2⟩
  · exact .inl h
  · exact .inr ⟨ad, c, h1, fun j u hj => (hb.cell (cell_lt (h2 j u hj))).trans (h2 j u hj)⟩
theorem gb_self (w : World) (r : Option Nat) : w.grownBy w r := gb_refl w r
/-- several steps more -/
theorem appSs {ops : Array Oper} {rest : List Oper} {o : Oper} {a : Act} {Q : Exit → Act → World → Prop} (w : World) (hgd : o.guard = none) (sl x : Operand)
    (ho : o.op = .call { callee := .builtin .append, args := #[sl, x], argTypes := #[28, 28] })
    (B : Nat) (ss zs : List Sp.St) (v2 : Value) (g n cap : Nat) (hs : a.eval sl = .slice (some ⟨g, 0, none⟩) n cap) (hx : a.eval x = v2) (hrow : OwS w B (.slice (some ⟨g, 0, none⟩) n cap) ss) (hsrc : SrcS w v2 zs)
    (hk : (ss.length + zs.length) * 56 ≤ 140737488355328) (hB : B ≤ w.heap.size)
    (h : ∀ v' w', OwS w' B v' (ss ++ zs) → w.grownBy w' (some g) → (∀ b, v'.ownBlock = some b → some g = some b ∨ w.heap.size ≤ b) → wpList Tryd.prog ops Q rest (a.put o.dst v') w') : wpList Tryd.prog ops Q (o :: rest) a w := by
  obtain ⟨i0, hi0, hz0, hz1, hz2⟩ := info_parts infoS
  rcases hsrc with ⟨rfl, rfl⟩ | ⟨ad, c, rfl, hc⟩
  · have hrow2 : w.ownsRow B 30 7 (.slice (some ⟨g, 0, none⟩) n cap) ss.length (scs ss) := hrow
    have hn : n ≤ cap := by
      rcases hrow2.2 with ⟨h1, _⟩ | ⟨g', cap', cur, h1, h2, h3, h4, h5⟩
      · cases h1
      · injection h1 with h6 h7 h8; omega
    have hr := run_append_room_src (P := Tryd.prog) (w := w) 28 28 o.type 30 i0 Tryd.underlying28 hi0 g 0 n cap (.slice none 0 0) 0 [] (Src.ofNil w Tryd.underlying28 0) (by omega) (fun j hj => by cases hj) (fun j hj => by cases hj)
    have hw : w.setCells g (0 + n * i0.size) [] = w := rfl
    rw [hw, Nat.add_zero] at hr
    refine wpList_plain hgd fun _ hK => ?_
    unfold Oper.wp execOp
    simp only [ho, resolve, invoke, builtin, Sem.run_bind, Sem.run_pure, Result.andThen_ok, List.map_toArray, List.map_cons, List.map_nil, hs, hx, hr]
    exact hK _ _ (h _ _ (by rw [List.append_nil]; exact hrow) (gb_self _ _) fun b hb => .inl hb)
  · refine wpList_append_fr w hgd sl x 28 ho B 30 i0 _ 7 56 Tryd.underlying28 hi0 hz0 hz1 hz2 rfl (by decide) _ ss.length _ hs hrow ad zs.length c (scs zs) hx (scs_len zs) hc (scs_one zs) ?_ hk hB ?_
    · unfold maxLen; omega
    · intro v' w1 hown' hgrow hfr
      refine h v' w1 ?_ hgrow hfr
      unfold OwS
      rw [show scs (ss ++ zs) = scs ss ++ scs zs by simp [scs], List.length_append]
      exact hown'
def s77 : Sp.St := ⟨-77, 0, 0, 0, 0, 0, 0⟩
theorem Ss.pre {w : World} {ao : Option Addr} {ss zs : List Sp.St} (h : Ss w ao (ss ++ zs)) : Ss w ao ss := fun i s hi => h i s (by rw [List.getElem?_append_left (List.getElem?_eq_some_iff.1 hi).1]; exact hi)
/-- what copied gives -/
def CpE (p : Sp.Pg) (n : Nat) (w : World) (e : Ending) (w' : World) : Prop :=
  ∃ q cap, e = .returned (.tuple #[pv p (.slice (some ⟨q, 0, none⟩) n cap), .slice (some ⟨q, 0, none⟩) (n + 1) cap]) ∧ OwS w' w.heap.size (.slice (some ⟨q, 0, none⟩) (n + 1) cap) (p.steps ++ [s77]) ∧ Below w.heap.size w w'
set_option maxHeartbeats 4000000 in
set_option maxRecDepth 100000 in
theorem copied_c (p : Sp.Pg) (ao : Option Addr) (n c : Nat) (w : World) (ha : Ss w ao p.steps) (hc : ao = none → c = 0) (hn : n = p.steps.length) (hb : n * 56 ≤ 140737488351232) :
    Calls Tryd.prog 18 #[pv p (.slice ao n c)] w fun e w' => CpE p n w e w' := by
  obtain ⟨g, hg⟩ : ∃ g, Hid (w.heap.size = g) := ⟨_, (rfl : _ = _)⟩
  obtain ⟨wa, ewa⟩ : ∃ wa, Hid ((w.alloc (.cells #[.int .i64 p.len, .int .i64 p.cells, .int .i64 p.inn, .int .i64 p.out, .slice ao n c] 38)).alloc (.cells #[.int .i64 0, .int .i64 0, .int .i64 0, .int .i64 0, .slice none 0 0] 38) = wa) := ⟨_, (rfl : _ = _)⟩
  have Ba : Hid (Below w.heap.size w wa) := by rw [← ewa.out]; exact ((Below.refl _ _).alloc (Nat.le_refl _) _).alloc (by simp) _
  have X1 : Hid (Bpf wa g p (.slice ao n c)) := by
    rw [← ewa.out, ← hg.out]
    exact (Bpf.new w p (.slice ao n c)).fr (fr_new (fun _ => False) _ _) id
  have X2 : Hid (Bpf wa (g + 1) ⟨0, 0, 0, 0, []⟩ (.slice none 0 0)) := by
    rw [← ewa.out]
    have := Bpf.new (w.alloc (.cells #[.int .i64 p.len, .int .i64 p.cells, .int .i64 p.inn, .int .i64 p.out, .slice ao n c] 38)) ⟨0, 0, 0, 0, []⟩ (.slice none 0 0)
    have e : (w.alloc (.cells #[.int .i64 p.len, .int .i64 p.cells, .int .i64 p.inn, .int .i64 p.out, .slice ao n c] 38)).heap.size = g + 1 := by rw [← hg.out]; simp
    rw [e] at this
    exact this
  have sa : Hid (wa.heap.size = g + 2) := by show _ = _; rw [← ewa.out, ← hg.out]; simp
  have src : Hid (SrcS wa (.slice ao n c) p.steps) := by rw [hn]; exact (ha.src hc).below Ba.out
  have hb2 : Hid (([] ++ p.steps).length = n) := by rw [hn]; rfl
  have hbH : Hid (n * 56 ≤ 140737488351232) := hb
  have src2 : Hid (SrcS (wa.alloc (.cells #[] 30)) (.slice ao n c) p.steps) := src.out.below ((Below.refl _ _).alloc (Nat.le_refl _) _)
  have own0 : Hid (OwS (wa.alloc (.cells #[] 30)) wa.heap.size (.slice (some ⟨wa.heap.size, 0, none⟩) 0 0) []) := World.ownsRow_made wa #[] 0 (Nat.le_refl _) (by decide) rfl
  have hk1 : Hid ((([] : List Sp.St).length + p.steps.length) * 56 ≤ 140737488355328) := by show _ ≤ _; rw [← hn]; simp; omega
  clear ha hc hn hb src
  unfold pv
  go_enter Tryd.func18, Tryd.ntmps18
  go_upto_region 1 with fail
  rw [ewa.out, hg.out]
  obtain ⟨x0, x1, x2, x3, x4⟩ := X1.out.bx
  have x4' := fun X => cell_alloc x4 X
  go_wp2_with (first | (at_builtin; refine appSs _ rfl _ _ rfl wa.heap.size [] p.steps (.slice ao n c) wa.heap.size 0 0 rfl rfl own0.out src2.out hk1.out (by simp) ?_) | fail)
  intro v1 w1 ho1 hg1 hn1
  have sz1 : wa.heap.size ≤ w1.heap.size := by have := hg1.size; simp at this; omega
  have F1 : Hid (Fr (fun k => wa.heap.size ≤ k) wa w1) := ((Fr.refl (fun k => wa.heap.size ≤ k) wa).alloc _).grown hg1 fun k hk => by cases hk; exact Nat.le_refl _
  have own1 : Hid (OwS w1 wa.heap.size v1 p.steps) := ho1
  have own1' : Hid (∀ o, OwS (w1.alloc o) wa.heap.size v1 p.steps) := fun o => World.ownsRow.alloc ho1 o
  have C7 : Hid (SAt (w1.alloc (.cells #[.int .i64 (-77), .int .i64 0, .int .i64 0, .int .i64 0, .int .i64 0, .int .i64 0, .int .i64 0] 30)) w1.heap.size 0 s77) := ⟨by simp [s77], by simp [s77], by simp [s77], by simp [s77], by simp [s77], by simp [s77], by simp [s77]⟩
  have hk2 : Hid ((p.steps.length + 1) * 56 ≤ 140737488355328) := by have h1 := hbH.out; have h2 := hb2.out; simp at h2; show _ ≤ _; omega
  have hB2 : Hid (∀ o, wa.heap.size ≤ (w1.alloc o).heap.size) := fun o => by simp; omega
  clear ho1 hg1 hn1 x0 x1 x2 x3 x4 x4' own0 src2
  go_wp2_with (first | (at_builtin; refine appSt _ rfl _ _ rfl wa.heap.size p.steps s77 w1.heap.size v1 rfl rfl (own1'.out _) C7.out hk2.out (hB2.out _) ?_) | fail)
  intro v2 w2 ho2 hg2 hn2
  have F2 : Hid (Fr (fun k => wa.heap.size ≤ k) wa w2) := by
    have f1 := F1.out.alloc (.cells #[.int .i64 (-77), .int .i64 0, .int .i64 0, .int .i64 0, .int .i64 0, .int .i64 0, .int .i64 0] 30)
    exact f1.grown hg2 fun k hk => (World.ownsRow.lt own1.out k hk).1
  have own2 : Hid (OwS w2 wa.heap.size v2 (p.steps ++ [s77])) := ho2
  have hlen : (p.steps ++ [s77]).length = n + 1 := by have h2 := hb2.out; simp at h2; simp [h2]
  have hrow2 : w2.ownsRow wa.heap.size 30 7 v2 (p.steps ++ [s77]).length (scs (p.steps ++ [s77])) := ho2
  rw [hlen] at hrow2
  obtain ⟨q, cap, rfl, hqc⟩ : ∃ q cap, v2 = .slice (some ⟨q, 0, none⟩) (n + 1) cap ∧ n + 1 ≤ cap := by
    rcases hrow2.2 with ⟨_, h1⟩ | ⟨q, cap, cur, h1, _, _, h4, _⟩
    · omega
    · exact ⟨q, cap, h1, h4⟩
  have X3 : Hid (Bpf w2 g p (.slice ao n c)) := X1.out.fr F2.out (by have := sa.out; omega)
  have Y3 : Hid (Bpf w2 (g + 1) ⟨0, 0, 0, 0, []⟩ (.slice none 0 0)) := X2.out.fr F2.out (by have := sa.out; omega)
  have X4 : Hid (Bpf (w2.setCell ⟨g, 4, none⟩ (.slice (some ⟨q, 0, none⟩) n cap)) g p (.slice (some ⟨q, 0, none⟩) n cap)) := X3.out.set4 _
  have Y4 : Hid (Bpf (w2.setCell ⟨g, 4, none⟩ (.slice (some ⟨q, 0, none⟩) n cap)) (g + 1) ⟨0, 0, 0, 0, []⟩ (.slice none 0 0)) := Y3.out.fr (set_fr w2 g 4 _) (by omega)
  obtain ⟨w3, ew3⟩ : ∃ w3, Hid (w2.setCell ⟨g, 4, none⟩ (.slice (some ⟨q, 0, none⟩) n cap) = w3) := ⟨_, (rfl : _ = _)⟩
  have x4 := X3.out.bx.c4
  have xz := X3.out.fz 4
  have qb : Hid (wa.heap.size ≤ q) := (World.ownsRow.lt hrow2 q rfl).1
  rw [ew3.out] at X4 Y4
  have hn1 : n ≤ cap := by omega
  have hnI : (n : Int) ≤ (cap : Int) := by omega
  clear ho2 hg2 hn2 hrow2 hlen own1 own1' C7 X1 X2
  go_upto_region 3 with fail
  rw [ew3.out]
  obtain ⟨a0, a1, a2, a3, a4⟩ := X4.out.bx
  obtain ⟨b0, b1, b2, b3, b4⟩ := Y4.out.bx
  have bz := Y4.out.fz
  go_wp2
  obtain ⟨z0, z1, z2, z3, z4⟩ := Y4.out.bx.set p (.slice (some ⟨q, 0, none⟩) n cap)
  refine bodyPost_ret (v := .tuple #[pv p (.slice (some ⟨q, 0, none⟩) n cap), .slice (some ⟨q, 0, none⟩) (n + 1) cap]) (by unfold pv; simp [results, Tryd.results18, go_sem, z0, z1, z2, z3, z4]) rfl ⟨q, cap, rfl, ?_, ?_⟩
  · have h1 := (own2.out.base (C := w.heap.size) (by have := sa.out; have := hg.out; omega))
    rw [← ew3.out]
    exact (h1.fr (set_fr w2 g 4 _) fun b hb h2 => by cases hb; have h3 : q = g := h2; have := qb.out; have := sa.out; omega).fr (set5_fr _ (g + 1) _ _ _ _ _) fun b hb h2 => by cases hb; have h3 : q = g + 1 := h2; have := qb.out; have := sa.out; omega
  · have h1 : Below w.heap.size w w2 := F2.out.below Ba.out Ba.out.size fun k _ hk => Nat.le_trans Ba.out.size hk
    have h2 : Below w.heap.size w w3 := by rw [← ew3.out]; exact h1.setCell (p := ⟨g, 4, none⟩) (by rw [← hg.out]; exact Nat.le_refl _) _
    exact (set5_fr w3 (g + 1) _ _ _ _ _).below h2 h2.size fun k _ hk => by have := hg.out; omega
end Go.Proofs.YtbipgkbnhpdmhaaDoor
