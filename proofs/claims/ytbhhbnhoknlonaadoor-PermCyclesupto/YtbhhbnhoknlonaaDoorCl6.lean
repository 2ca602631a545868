/-
  The statements' own 'cycles': all cycles, each a new list.
-/
import Derived.Test.YtbhhbnhoknlonaaDoorCy6
namespace Go.Proofs.YtbhhbnhoknlonaaDoor
open Flo Go.RowKit Go.Shelf
attribute [local go_sem] Oper.semAt_some

theorem SeqX.weaken {α : Type} {F : Fence} {n : Nat} {P : Program} {g : Nat} {lb : Array Value} {encs : α → Array Value} {B C : Nat} {T : Nat → Prop} {R : α → World → World → Prop} {Pp : List α → α → Prop} {S Sp S' Sp' : List α → Prop} {w : World}
    (h : SeqX F n P g lb encs B C T R Pp S Sp w) (h1 : ∀ ys, S ys → S' ys) (h2 : ∀ ys, Sp ys → Sp' ys) : SeqX F n P g lb encs B C T R Pp S' Sp' w :=
  fun l J Jx W hW hB hJ hJx hY h0 => (h l J Jx W hW hB hJ hJx hY h0).mono fun _ _ ⟨a, b⟩ => ⟨a, b.imp (fun ⟨xs, q, r⟩ => ⟨xs, h1 xs q, r⟩) (fun ⟨xs, q, r⟩ => ⟨xs, h2 xs q, r⟩)⟩
/-- the least places of the cycles; none, if it is no permutation -/
def lpC (p : List Int) : List Nat := if ckB p then Pm.lp p p.length else []
theorem lpC_len (p : List Int) : (lpC p).length ≤ p.length := by unfold lpC; split; exact Pm.lp_len_le p _; simp
/-- lists of ints in rows of their own, those of the cycles of these places -/
structure CyO (p : List Int) (N : Nat) (W : World) (ys : List (Value × Nat)) : Prop where
  row : ∀ y ∈ ys, W.ownsRow N 3 1 y.1 (Pm.per p y.2) (fl (Pm.it p y.2) (Pm.per p y.2))
  ap : ys.Pairwise fun a b => ∀ k, a.1.ownBlock = some k → b.1.ownBlock ≠ some k
theorem CyO.nil (p : List Int) (N : Nat) (W : World) : CyO p N W [] := ⟨fun _ h => absurd h (by simp), List.Pairwise.nil⟩
theorem CyO.kept {p : List Int} {N : Nat} {W W' : World} {ys : List (Value × Nat)} {row : Option Nat} (h : CyO p N W ys) (hg : W.grownBy W' row) (hr : ∀ y ∈ ys, y.1.ownBlock ≠ row ∨ row = none) : CyO p N W' ys :=
  ⟨fun y hy => (h.row y hy).kept hg (by
    rcases hr y hy with c | c
    · exact .inr c
    · cases hv : y.1.ownBlock
      · exact .inl rfl
      · rw [c]; exact .inr (by simp)), h.ap⟩
theorem CyO.below {p : List Int} {N : Nat} {W W' : World} {ys : List (Value × Nat)} (h : CyO p N W ys) (hb : Below W.heap.size W W') : CyO p N W' ys :=
  ⟨fun y hy => by
    obtain ⟨h1, h2⟩ := h.row y hy
    refine ⟨h1, ?_⟩
    rcases h2 with h2 | ⟨g, cap, cur, hv, hg, hgb, r⟩
    · exact .inl h2
    · exact .inr ⟨g, cap, cur, hv, hg, by rw [hb.block g (Array.getElem?_eq_some_iff.1 hgb).1]; exact hgb, r⟩, h.ap⟩
/-- rows of unlike types lie in unlike blocks -/
theorem own_ne {W : World} {N N' : Nat} {e e' : TypeId} {s s' : Nat} {v v' : Value} {n n' : Nat} {xs xs' : List Value} (h : W.ownsRow N e s v n xs) (h' : W.ownsRow N' e' s' v' n' xs') (hne : e ≠ e') : ∀ k, v.ownBlock = some k → v'.ownBlock ≠ some k := by
  intro k hk hk'
  rcases h.2 with ⟨rfl, _⟩ | ⟨g, cap, cur, rfl, _, hg, _⟩
  · cases hk
  · rcases h'.2 with ⟨rfl, _⟩ | ⟨g', cap', cur', rfl, _, hg', _⟩
    · cases hk'
    · cases hk; cases hk'
      rw [hg] at hg'
      simp only [Option.some.injEq, Obj.cells.injEq] at hg'
      exact hne hg'.2.1
/-- a box is no row of another type -/
theorem box_ne {W : World} {N : Nat} {e t : TypeId} {s b : Nat} {v u : Value} {n : Nat} {xs : List Value} (h : W.ownsRow N e s v n xs) (hb : Boxed W b t u) (hne : e ≠ t) : v.ownBlock ≠ some b := fun hk => by
  rcases h.2 with ⟨rfl, _⟩ | ⟨g, cap, cur, rfl, _, hg, _⟩
  · cases hk
  · cases hk
    rw [show W.heap[g]? = _ from hb] at hg
    simp only [Option.some.injEq, Obj.cells.injEq] at hg
    exact hne hg.2.1.symm
theorem infoLs : (Tryd.prog.info? 22).map (fun i => (i.zero, i.size, i.bytes)) = some (some (.slice none 0 0), 1, 24) := by kernel_rfl
theorem seqnil (k : Nat) (lb : Array Value) (w : World) : (binOp .eql 50 (.func (.func k) #[] lb) .nilFunc).run Tryd.prog w = .ok (.bool false) w := by kernel_rfl
/-- an append whose run is known, in a fence and outside -/
theorem wpListIn_appR {F : Fence} {n : Nat} {P : Program} (w : World) {ops : Array Oper} {rest : List Oper} {o : Oper} {a : Act} {Q : Exit → Act → World → Prop} (hg : o.guard = none) (s x : Operand) (t : TypeId)
    (hop : o.op = .call { callee := .builtin .append, args := #[s, x], argTypes := #[t, t] }) (v u : Value) (hs : a.eval s = v) (hx : a.eval x = u) {v' : Value} {w' : World} (hrun : (Builtin.append_ #[t, t] o.type #[v, u]).run P w = .ok v' w')
    (hK : wpListIn F n P ops Q rest (a.put o.dst v') w') : wpListIn F n P ops Q (o :: rest) a w := by
  refine wpListIn_plain hg fun K hK' => ?_
  unfold Oper.wpIn
  refine ⟨by simp [Oper.about, hop, resolve, Target.leads, Sem.run_pure], ?_⟩
  rw [Oper.semAt_plain F _ _ (by rw [hop]; intro c hc'; cases hc')]
  simp [execOp, hop, resolve, invoke, builtin, hs, hx, hrun, Result.andThen]
  exact hK' _ _ hK
theorem wpList_appR {P : Program} (w : World) {ops : Array Oper} {rest : List Oper} {o : Oper} {a : Act} {Q : Exit → Act → World → Prop} (hg : o.guard = none) (s x : Operand) (t : TypeId)
    (hop : o.op = .call { callee := .builtin .append, args := #[s, x], argTypes := #[t, t] }) (v u : Value) (hs : a.eval s = v) (hx : a.eval x = u) {v' : Value} {w' : World} (hrun : (Builtin.append_ #[t, t] o.type #[v, u]).run P w = .ok v' w')
    (hK : wpList P ops Q rest (a.put o.dst v') w') : wpList P ops Q (o :: rest) a w := by
  refine wpList_plain hg fun K hK' => ?_
  unfold Oper.wp
  simp [execOp, hop, resolve, invoke, builtin, hs, hx, hrun, Result.andThen]
  exact hK' _ _ hK
/-- between two rounds -/
structure CyI (p : List Int) (b3 b4 C N : Nat) (T : Nat → Prop) (w1 : World) (pre : List (Value × Nat)) (W : World) : Prop where
  box : ∃ v, Boxed W b4 42 v ∧ W.ownsRow N 22 1 v pre.length (pre.map (·.1)) ∧ ∀ k, v.ownBlock = some k → k = b3 ∨ C < k
  rows : CyO p N W pre
  big : ∀ y ∈ pre, ∀ k, y.1.ownBlock = some k → C < k
  kt : KT T w1 W
theorem CyI.ab {p : List Int} {b3 b4 C N : Nat} {T : Nat → Prop} {w1 : World} (h3 : b3 < w1.heap.size) (h4 : b4 < w1.heap.size) : AbX w1.heap.size C (CyI p b3 b4 C N T w1) := by
  intro pre X Y row h hg hr
  obtain ⟨v, hb, ho, hk⟩ := h.box
  refine ⟨⟨v, hb.kept hg fun e => by have := (hr b4 e.symm).1; omega, ho.kept hg ?_, hk⟩, h.rows.kept hg ?_, h.big, abx_kt (β := Unit) (Nat.le_refl _) () X Y row h.kt hg hr⟩
  · cases hv : v.ownBlock with
    | none => exact .inl rfl
    | some k =>
      right
      intro e
      have h1 := hr k e.symm
      rcases hk k hv with c | c <;> omega
  · intro y hy
    by_cases c : row = none
    · exact .inr c
    · left
      intro e
      obtain ⟨k, hk'⟩ := Option.ne_none_iff_exists'.1 c
      have h1 := hr k hk'
      have h2 := h.big y hy k (by rw [e, hk'])
      omega
/-- one cycle more is put behind the others -/
theorem CyI.step {p : List Int} {b3 b4 C N : Nat} {T : Nat → Prop} {w1 W0 W w2 : World} {pre : List (Value × Nat)} {x : Value × Nat} {v v' : Value} (h : CyI p b3 b4 C N T w1 pre W0) (hR : CyR p x W0 W) (hC : C < W0.heap.size) (hN : N ≤ W0.heap.size)
    (hT : T = fun b => b = b4 ∨ b = b3 ∨ C < b) (hbx : Boxed W0 b4 42 v) (hov : W0.ownsRow N 22 1 v pre.length (pre.map (·.1))) (hvk : ∀ k, v.ownBlock = some k → k = b3 ∨ C < k)
    (ho : w2.ownsRow N 22 1 v' (pre.length + 1) (pre.map (·.1) ++ [x.1])) (o : Obj)
    (hcase : (v'.ownBlock = v.ownBlock ∧ (W.alloc o).grownBy w2 v.ownBlock) ∨ (v'.ownBlock = some (W.alloc o).heap.size ∧ (W.alloc o).grownBy w2 none)) :
    Boxed w2 b4 42 v ∧ CyI p b3 b4 C N T w1 (pre ++ [x]) (w2.setCell ⟨b4, 0, none⟩ v') ∧ KT T W (w2.setCell ⟨b4, 0, none⟩ v') := by
  obtain ⟨hB, hx⟩ := hR
  have hBW : Boxed W b4 42 v := (hB.block b4 hbx.lt).trans hbx
  have hovW : W.ownsRow N 22 1 v pre.length (pre.map (·.1)) := by
    obtain ⟨a1, a2⟩ := hov
    refine ⟨a1, ?_⟩
    rcases a2 with a2 | ⟨g, cap, cur, hv, hg, hgb, r⟩
    · exact .inl a2
    · exact .inr ⟨g, cap, cur, hv, hg, by rw [hB.block g (Array.getElem?_eq_some_iff.1 hgb).1]; exact hgb, r⟩
  have hBA := hBW.alloc o
  have hvb : v.ownBlock ≠ some b4 := box_ne hovW hBW (by decide)
  have hgr : ∃ row, (W.alloc o).grownBy w2 row ∧ (row = none ∨ row = v.ownBlock) := by
    rcases hcase with ⟨_, q⟩ | ⟨_, q⟩
    · exact ⟨_, q, .inr rfl⟩
    · exact ⟨_, q, .inl rfl⟩
  obtain ⟨row, hgw, hrow⟩ := hgr
  have hB2 : Boxed w2 b4 42 v := hBA.kept hgw (by
    rcases hrow with rfl | rfl
    · simp
    · exact fun e => hvb e.symm)
  have hxW : (W.alloc o).ownsRow W0.heap.size 3 1 x.1 (Pm.per p x.2) (fl (Pm.it p x.2) (Pm.per p x.2)) := hx.alloc o
  have hovA := hovW.alloc o
  have hx2 : w2.ownsRow W0.heap.size 3 1 x.1 (Pm.per p x.2) (fl (Pm.it p x.2) (Pm.per p x.2)) := hxW.kept hgw (by
    rcases hrow with rfl | rfl
    · cases hv : x.1.ownBlock
      · exact .inl rfl
      · exact .inr (by simp)
    · cases hv : x.1.ownBlock with
      | none => exact .inl rfl
      | some k => right; intro e; exact own_ne hxW hovA (by decide) k hv e.symm)
  have hrows2 : CyO p N w2 pre := ((h.rows.below hB).kept (World.grownBy_alloc W o none) (fun _ _ => .inr rfl)).kept hgw (fun y hy => by
    rcases hrow with rfl | rfl
    · exact .inr rfl
    · cases hv : v.ownBlock with
      | none => exact .inr rfl
      | some k =>
        left
        intro e
        have h9 := ((h.rows.below hB).kept (World.grownBy_alloc W o none) (fun _ _ => .inr rfl)).row y hy
        exact own_ne h9 hovA (by decide) k e hv)
  have hgs := grownBy_setCell' w2 b4 v'
  have hv'b : v'.ownBlock ≠ some b4 := by
    rcases hcase with ⟨q, _⟩ | ⟨q, _⟩
    · rw [q]; exact hvb
    · rw [q]; intro e; have := hBW.lt; simp at e; omega
  have hTb : T b4 := by rw [hT]; exact .inl rfl
  have hktW : KT T W w2 := by
    have k1 : KT T W (W.alloc o) := KT.grown (World.grownBy_alloc W o none) (fun _ e => by cases e)
    refine k1.trans (KT.grown hgw fun b e => ?_)
    rcases hrow with rfl | rfl
    · cases e
    · rw [hT]
      rcases hvk b e with c | c
      · exact .inr (.inl c)
      · exact .inr (.inr c)
  have hktS : KT T W (w2.setCell ⟨b4, 0, none⟩ v') := hktW.trans (KT.grown hgs fun b e => by cases e; exact hTb)
  refine ⟨hB2, ⟨⟨v', hB2.set v', ?_, ?_⟩, ⟨?_, ?_⟩, ?_, ?_⟩, hktS⟩
  · rw [List.length_append, List.map_append]
    exact ho.kept hgs (.inr hv'b)
  · intro k hk
    rcases hcase with ⟨q, _⟩ | ⟨q, _⟩
    · exact hvk k (by rw [← q]; exact hk)
    · rw [q] at hk
      cases hk
      right
      rw [World.size_alloc]
      have := hB.size
      omega
  · intro y hy
    rcases List.mem_append.1 hy with hy | hy
    · exact (hrows2.row y hy).kept hgs (.inr (box_ne (hrows2.row y hy) hB2 (by decide)))
    · obtain rfl : y = x := by simpa using hy
      have h9 := hx2.kept hgs (.inr (box_ne hx2 hB2 (by decide)))
      obtain ⟨a1, a2⟩ := h9
      exact ⟨a1, a2.imp id (fun ⟨g, c, cu, y1, y2, y3⟩ => ⟨g, c, cu, y1, by omega, y3⟩)⟩
  · refine List.pairwise_append.2 ⟨h.rows.ap, List.pairwise_singleton _ _, fun a ha b hb k hk hk2 => ?_⟩
    obtain rfl : b = x := by simpa using hb
    have h8 := ((h.rows.row a ha).lt k hk).2
    have h9 := (hx.lt k hk2).1
    omega
  · intro y hy k hk
    rcases List.mem_append.1 hy with hy | hy
    · exact h.big y hy k hk
    · obtain rfl : y = x := by simpa using hy
      have := (hx.lt k hk).1
      omega
  · have k0 : KT T w1 W := ⟨hB.os.trans h.kt.os, hB.tape.trans h.kt.tape, hB.output.trans h.kt.output, Nat.le_trans h.kt.size hB.size, fun b hb hT' => (hB.block b (Nat.lt_of_lt_of_le hb h.kt.size)).trans (h.kt.block b hb hT')⟩
    exact k0.trans hktS
end Go.Proofs.YtbhhbnhoknlonaaDoor
