/-
  Rows of bytes: append, those that came in; timbreref04.Uint.
-/
import Derived.Test.YtmlfichdfeblpaaDoorQk5
import Derived.Deep.AppendSrc
namespace Go.Proofs.YtmlfichdfeblpaaDoor
open Flo Go.RowKit
theorem appX {ops : Array Oper} {rest : List Oper} {o : Oper} {a : Act} {Q : Exit → Act → World → Prop} (w : World) (hgd : o.guard = none) (sl x : Operand)
    (ho : o.op = .call { callee := .builtin .append, args := #[sl, x], argTypes := #[22, 22] })
    (ys zs : List Nat) (v2 : Value) (g n cap : Nat) (hs : a.eval sl = .slice (some ⟨g, 0, none⟩) n cap) (hx : a.eval x = v2) (hrow : OwB w (.slice (some ⟨g, 0, none⟩) n cap) ys) (hsrc : SrcB w v2 zs) (hk : ys.length + zs.length ≤ 140737488355328)
    (h : ∀ v' w', OwB w' v' (ys ++ zs) → w.grownBy w' (some g) → (∀ b, v'.ownBlock = some b → some g = some b ∨ w.heap.size ≤ b) → wpList Tryd.prog ops Q rest (a.put o.dst v') w') : wpList Tryd.prog ops Q (o :: rest) a w := by
  rcases hsrc with ⟨rfl, rfl⟩ | ⟨ad, c, rfl, hc⟩
  · obtain ⟨i0, hi0, hz0, hz1, hz2⟩ := info_parts infoB
    have hrow2 : w.ownsRow 0 5 1 (.slice (some ⟨g, 0, none⟩) n cap) ys.length (bc ys) := hrow
    have hn : n ≤ cap := by
      rcases hrow2.2 with ⟨h1, _⟩ | ⟨g', cap', cur, h1, h2, h3, h4, h5⟩
      · cases h1
      · injection h1 with h6 h7 h8; omega
    have hr := run_append_room_src (P := Tryd.prog) (w := w) 22 22 o.type 5 i0 Tryd.underlying22 hi0 g 0 n cap (.slice none 0 0) 0 [] (Src.ofNil w Tryd.underlying22 0) (by omega) (fun j hj => by cases hj) (fun j hj => by cases hj)
    have hw : w.setCells g (0 + n * i0.size) [] = w := rfl
    rw [hw, Nat.add_zero] at hr
    refine wpList_plain hgd fun _ hK => ?_
    unfold Oper.wp execOp
    simp only [ho, resolve, invoke, builtin, Sem.run_bind, Sem.run_pure, Result.andThen_ok, List.map_toArray, List.map_cons, List.map_nil, hs, hx, hr]
    exact hK _ _ (h _ _ (by rw [List.append_nil]; exact hrow) (gb_refl _ _) fun b hb => .inl hb)
  · exact appV w hgd sl x ho ys zs _ ad zs.length c hs hx hrow rfl hc hk h
def Tt (_ : World) : Prop := True
theorem tt (w : World) : Tt w := trivial
theorem qtN (w : World) : ∀ n, Qt w (w.drewN n)
  | 0 => Qt.refl w
  | n + 1 => (qtN w n).trans (Qt.drew _)
/-- a slice of bytes that came in -/
structure InB (w : World) (v : Value) (bs : List Nat) : Prop where
  src : SrcB w v bs
  some_ : bs ≠ [] → ∃ q o cap, v = .slice (some ⟨q, o, none⟩) bs.length cap ∧ bs.length ≤ cap ∧ q < w.heap.size ∧ ∀ i, i < bs.length → w.cell? ⟨q, o + i, none⟩ = some (.int .u8 (bs.getD i 0 : Nat))
  byt : ∀ b ∈ bs, b < 256
  big : bs.length ≤ 140737488351232
theorem SrcB.slice {w : World} {v : Value} {ys : List Nat} (h : SrcB w v ys) : ∃ n ao cap, v = .slice ao n cap ∧ Hid (n = ys.length) := by
  rcases h with ⟨rfl, rfl⟩ | ⟨a, cap, rfl, _⟩
  · exact ⟨_, _, _, rfl, rfl⟩
  · exact ⟨_, _, _, rfl, rfl⟩
theorem SrcB.below {w w' : World} {v : Value} {ys : List Nat} (h : SrcB w v ys) (hb : Below w.heap.size w w') : SrcB w' v ys := by
  rcases h with h | ⟨a, cap, rfl, h⟩
  · exact .inl h
  · exact .inr ⟨a, cap, rfl, fun j u hj => (hb.cell (World.block_lt_of_cell? w _ (h j u hj))).trans (h j u hj)⟩
theorem InB.below {w w' : World} {v : Value} {bs : List Nat} (h : InB w v bs) (hb : Below w.heap.size w w') : InB w' v bs :=
  ⟨h.src.below hb, fun hne => by
    obtain ⟨q, o, cap, h1, h2, h3, h4⟩ := h.some_ hne
    exact ⟨q, o, cap, h1, h2, Nat.lt_of_lt_of_le h3 hb.size, fun i hi => (hb.cell (p := ⟨q, o + i, none⟩) h3).trans (h4 i hi)⟩, h.byt, h.big⟩
theorem OwB.some_ {w : World} {v : Value} {ys : List Nat} (h : OwB w v ys) (hne : ys ≠ []) : ∃ g n cap, v = .slice (some ⟨g, 0, none⟩) n cap ∧ Hid (n = ys.length) := by
  have hh : w.ownsRow 0 5 1 v ys.length (bc ys) := h
  rcases hh.2 with ⟨rfl, h1⟩ | ⟨g, cap, cur, rfl, _⟩
  · exact absurd (List.eq_nil_of_length_eq_zero h1) hne
  · exact ⟨g, _, cap, rfl, rfl⟩
theorem app_nn (ty : TypeId) (w : World) : (Builtin.append_ #[22, 22] ty #[.slice none 0 0, .slice none 0 0]).run Tryd.prog w = .ok (.slice none 0 0) w := by
  obtain ⟨i0, hi0, hz0, hz1, hz2⟩ := info_parts infoB
  simp [Builtin.append_, run_underlying Tryd.underlying22, sizeOf, typeInfo, hi0, Builtin.lenOf, run_firstCells_none]
/-- a slice's bytes more, whatever either is -/
theorem appY {ops : Array Oper} {rest : List Oper} {o : Oper} {a : Act} {Q : Exit → Act → World → Prop} (w : World) (hgd : o.guard = none) (sl x : Operand)
    (ho : o.op = .call { callee := .builtin .append, args := #[sl, x], argTypes := #[22, 22] })
    (ys zs : List Nat) (v v2 : Value) (hs : a.eval sl = v) (hx : a.eval x = v2) (hrow : OwB w v ys) (hsrc : SrcB w v2 zs) (hk : ys.length + zs.length ≤ 140737488355328)
    (h : ∀ v' w', OwB w' v' (ys ++ zs) → w.grownBy w' v.ownBlock → (∀ b, v'.ownBlock = some b → v.ownBlock = some b ∨ w.heap.size ≤ b) → wpList Tryd.prog ops Q rest (a.put o.dst v') w') : wpList Tryd.prog ops Q (o :: rest) a w := by
  have hh : w.ownsRow 0 5 1 v ys.length (bc ys) := hrow
  rcases hh.2 with ⟨rfl, h1⟩ | ⟨g, cap, cur, rfl, _⟩
  · rcases hsrc with ⟨rfl, rfl⟩ | ⟨ad, c, rfl, hc⟩
    · have hr := app_nn o.type w
      refine wpList_plain hgd fun _ hK => ?_
      unfold Oper.wp execOp
      simp only [ho, resolve, invoke, builtin, Sem.run_bind, Sem.run_pure, Result.andThen_ok, List.map_toArray, List.map_cons, List.map_nil, hs, hx, hr]
      exact hK _ _ (h _ _ (by rw [List.append_nil]; exact hrow) (gb_refl _ _) fun b hb => .inl hb)
    · exact appV w hgd sl x ho ys zs _ ad zs.length c hs hx hrow rfl hc hk h
  · exact appX w hgd sl x ho ys zs v2 g _ cap hs hx hrow hsrc hk h
section
variable {w w1 w1' w2 : World} {v v' : Value} {ys zs : List Nat}
theorem NewB.app (h : NewB w w1 v ys) (hb : Below w1.heap.size w1 w1') (ho : OwB w2 v' zs) (hg : w1'.grownBy w2 v.ownBlock) (hn : ∀ b, v'.ownBlock = some b → v.ownBlock = some b ∨ w1'.heap.size ≤ b) : NewB w w2 v' zs := by
  have h1 := h.below.size
  have h2 := hb.size
  exact ⟨ho, fun b hb' => by
    rcases hn b hb' with h3 | h3
    · exact h.new b h3
    · omega, (h.below.trans (hb.mono h1)).grown hg (by omega) h.new⟩
theorem NewB.under (h : NewB w w1 v ys) (hb : Below w1.heap.size w1 w2) : NewB w w2 v ys :=
  ⟨owns_block h.own fun b hb' => hb.block b (World.ownsRow.lt h.own b hb').2, h.new, h.below.trans (hb.mono h.below.size)⟩
theorem newB_made (w : World) : NewB w (w.alloc (.cells #[] 5)) (.slice (some ⟨w.heap.size, 0, none⟩) 0 0) [] :=
  ⟨World.ownsRow_made w #[] 0 (Nat.zero_le _) (by decide) rfl, fun b hb => by cases hb; exact Nat.le_refl _, (Below.refl _ _).alloc (Nat.le_refl _) _⟩
end
end Go.Proofs.YtmlfichdfeblpaaDoor
