/-
  The document's planner: one more that is known: the second list.
-/
import Derived.Test.YtoaccmblaifnmaaDoorAd3
import Derived.Test.YtoaccmblaifnmaaDoorAd2
import Derived.Test.YtoaccmblaifnmaaDoorAa8
import Derived.Test.YtoaccmblaifnmaaDoorAd4
namespace Go.Proofs.YtoaccmblaifnmaaDoor
open Flo Go.RowKit Tr
theorem step_ord {ops : Array Oper} {o : Oper} {a : Act} {w : World} {K : Act → World → Prop} {Q : Exit → Act → World → Prop} {E : Prop}
    (hg : o.guard = none) (s x : Operand) (hop : o.op = Op.call { callee := Callee.builtin Builtin.append, args := #[s, x], argTypes := #[22, 22] })
    (B n : Nat) (v : Value) (xs : List Value) (hs : a.eval s = v) (hown : w.ownsRow B 24 3 v n xs)
    (fb fc : Nat) (hx : a.eval x = .slice (some ⟨fb, 0, none⟩) 1 fc) (hf : w.heap[fb]? = some (.cells #[.int .i64 0, .int .i64 0, .slice none 0 0] 24 (0, 0))) (hn : n ≤ 20000) (hB : B ≤ w.heap.size)
    (hK : ∀ r c w', w'.ownsRow B 24 3 (.slice (some ⟨r, 0, none⟩) (n + 1) c) (n + 1) (xs ++ [.int .i64 0, .int .i64 0, .slice none 0 0]) → w.grownBy w' v.ownBlock → (v.ownBlock = some r ∨ w.heap.size ≤ r) → K (a.put o.dst (.slice (some ⟨r, 0, none⟩) (n + 1) c)) w') :
    if Region.wanted o (yielded ops a.tmps) = true then Oper.wp Tryd.prog o a w K Q else E := by
  obtain ⟨i0, hi0, iz0, iz1, iz2⟩ := info_o
  have hw : Region.wanted o (yielded ops a.tmps) = true := by simp [Region.wanted, hg]
  rw [if_pos hw]
  obtain ⟨v', w', hrun, r1, r2, r3⟩ := append_fr (P := Tryd.prog) w B 22 o.type 24 i0 (.agg #[.int .i64 0, .int .i64 0, .slice none 0 0]) 3 40 Tryd.underlying22 hi0 iz0 iz1 iz2 rfl (by decide) v n xs hown ⟨fb, 0, none⟩ 1 fc [.int .i64 0, .int .i64 0, .slice none 0 0] rfl (fun j u hj => by
    rw [add_pl, Joins.cell_of_block hf]
    match j, hj with
    | 0, hj => simpa using hj
    | 1, hj => simpa using hj
    | 2, hj => simpa using hj) (fun u hu => by simp at hu; rcases hu with rfl | rfl | rfl <;> rfl) (by unfold maxLen; omega) (by omega) hB
  unfold Oper.wp
  simp [execOp, hop, resolve, invoke, builtin, hs, hx, hrun, Result.andThen]
  rcases r1.2 with ⟨e, e0⟩ | ⟨r, cap, cur, e, q⟩
  · omega
  · subst e
    exact hK r cap w' r1 r2 (r3 r rfl)
/-- three cells of a block -/
def s3 (w : World) (r o : Nat) (k n : Int) (s : Value) : World := ((w.setCell ⟨r, o, none⟩ (.int .i64 k)).setCell ⟨r, o + 1, none⟩ (.int .i64 n)).setCell ⟨r, o + 2, none⟩ s
theorem s3_blk (w : World) (r o : Nat) (k n : Int) (s : Value) {j : Nat} (h : j ≠ r) : (s3 w r o k n s).heap[j]? = w.heap[j]? := by
  unfold s3
  rw [sc_blk _ _ _ h, sc_blk _ _ _ h, sc_blk _ _ _ h]
theorem s3_size (w : World) (r o : Nat) (k n : Int) (s : Value) : (s3 w r o k n s).heap.size = w.heap.size := by
  unfold s3
  simp only [sc_size]
theorem own_set3 {w : World} {B r c n : Nat} {xs : List Value} (h : w.ownsRow B 24 3 (.slice (some ⟨r, 0, none⟩) (n + 1) c) (n + 1) (xs ++ [.int .i64 0, .int .i64 0, .slice none 0 0])) (hl : xs.length = n * 3) (k m : Int) (s : Value) :
    (s3 w r (n * 3) k m s).ownsRow B 24 3 (.slice (some ⟨r, 0, none⟩) (n + 1) c) (n + 1) (xs ++ [.int .i64 k, .int .i64 m, s]) := by
  rcases h.2 with ⟨e, _⟩ | ⟨g, cap, cur, e, h1, h2, h3, h4, h5, h6⟩
  · cases e
  · simp only [Value.slice.injEq, Option.some.injEq, Addr.mk.injEq, and_true, true_and] at e
    obtain ⟨rfl, rfl⟩ := e
    refine ⟨by simp [hl]; omega, .inr ⟨r, c, ((cur.setIfInBounds (n * 3) (.int .i64 k)).setIfInBounds (n * 3 + 1) (.int .i64 m)).setIfInBounds (n * 3 + 2) s, rfl, h1, ?_, h3, h4, by simpa using h5, ?_⟩⟩
    · unfold s3
      exact hsc (hsc (hsc h2 _) _) _
    · simp only [Array.toList_setIfInBounds]
      rw [List.take_set, List.take_set, List.take_set, h6, List.set_append_right _ _ (by omega), List.set_append_right _ _ (by omega), List.set_append_right _ _ (by omega), hl]
      have e0 : n * 3 - n * 3 = 0 := by omega
      have e1 : n * 3 + 1 - n * 3 = 1 := by omega
      have e2 : n * 3 + 2 - n * 3 = 2 := by omega
      rw [e0, e1, e2]
      rfl
theorem own_zero {w : World} {B r c n : Nat} {xs : List Value} (h : w.ownsRow B 24 3 (.slice (some ⟨r, 0, none⟩) (n + 1) c) (n + 1) (xs ++ [.int .i64 0, .int .i64 0, .slice none 0 0])) (hl : xs.length = n * 3) :
    (∀ i, w.frozen? ⟨r, i, none⟩ = false) ∧ w.cell? ⟨r, n * 3, none⟩ = some (.int .i64 0) ∧ w.cell? ⟨r, n * 3 + 1, none⟩ = some (.int .i64 0) ∧ w.cell? ⟨r, n * 3 + 2, none⟩ = some (.slice none 0 0) := by
  rcases h.2 with ⟨e, _⟩ | ⟨g, cap, cur, e, h1, h2, h3, h4, h5, h6⟩
  · cases e
  · simp only [Value.slice.injEq, Option.some.injEq, Addr.mk.injEq, and_true, true_and] at e
    obtain ⟨rfl, rfl⟩ := e
    have hc : ∀ i, i < 3 → w.cell? ⟨r, n * 3 + i, none⟩ = [Value.int .i64 0, .int .i64 0, .slice none 0 0][i]? := fun i hi => by
      rw [Joins.cell_of_block h2]
      have h7 : (xs ++ [Value.int .i64 0, .int .i64 0, .slice none 0 0])[n * 3 + i]? = [Value.int .i64 0, .int .i64 0, .slice none 0 0][i]? := by
        rw [List.getElem?_append_right (by omega), hl]
        congr 1
        omega
      rw [← h7, ← h6, List.getElem?_take, if_pos (by omega)]
      simp
    exact ⟨fun i => Joins.unfrozen_of_block h2 i, hc 0 (by decide), hc 1 (by decide), hc 2 (by decide)⟩
section
variable {B kb : Nat} {vN vO vC : Value} {lN lC : List Nat} {tO : List Tr} {ss : List Value} {U : Nat → Prop} {w w' : World}
theorem Kg.putO2 {vO' : Value} {w2 : World} {t0 : Tr} {s0 : Value} (h : Kg B kb vN vO vC lN tO ss lC U w) (hs : ∃ a l c, s0 = .slice a l c) (hos : Os U w t0 (.agg #[.int .i64 t0.k, .int .i64 t0.n, s0])) (ho : w2.ownsRow B 24 3 vO' (tO.length + 1) (cso tO ss ++ [.int .i64 t0.k, .int .i64 t0.n, s0])) (hkt : KT (fun b => b = kb ∨ vO.ownBlock = some b ∨ w.heap.size ≤ b) w w2) (hkb : w2.heap[kb]? = some (.cells #[vN, vO', vC] 79 (0, 0))) (hn : ∀ b, vO'.ownBlock = some b → vO.ownBlock = some b ∨ w.heap.size ≤ b) :
    Kg B kb vN vO' vC lN (tO ++ [t0]) (ss ++ [s0]) lC U w2 := by
  have hk2 : ∀ b, b < w.heap.size → vO.ownBlock ≠ some b → b ≠ kb → w2.heap[b]? = w.heap[b]? := fun b hb hne hk => hkt.block b hb fun t => by
    rcases t with t | t | t
    · exact hk t
    · exact hne t
    · omega
  have hkU : ∀ b, U b → b < w.heap.size → w2.heap[b]? = w.heap[b]? := fun b hb hl => by
    have := (h.ub b hb).2.2
    exact hk2 b hl (fun e => this (.inr (.inr (.inl e)))) (fun e => this (.inl e))
  refine ⟨hkb, h.kB, own_keep h.oN fun b e => hk2 b (own_ty h.oN e).2.1 (int_ne_order h.oN h.oO e) (fun e2 => h.nk.1 (e2 ▸ e)), by rw [cso_snoc _ _ _ _ h.len, List.length_append]; exact ho, own_keep h.oC fun b e => hk2 b (own_ty h.oC e).2.1 (int_ne_order h.oC h.oO e) (fun e2 => h.nk.2.2 (e2 ▸ e)), by simp [h.len], fun s hs2 => ?_, fun j t s h1 h2 => ?_, h.nc, fun b hb => ?_⟩
  · rcases List.mem_append.1 hs2 with e | e
    · exact h.sl s e
    · rw [List.mem_singleton] at e; subst e; exact hs
  · by_cases hj : j < tO.length
    · rw [List.getElem?_append_left hj] at h1
      rw [List.getElem?_append_left (by rw [h.len]; exact hj)] at h2
      exact Os.keep (fun _ hb => hb) hkU _ _ (h.kid j t s h1 h2)
    · rw [List.getElem?_append_right (by omega)] at h1
      rw [List.getElem?_append_right (by rw [h.len]; omega), h.len] at h2
      match hd : j - tO.length, h1, h2 with
      | 0, h1, h2 =>
        simp at h1 h2
        subst h1 h2
        exact Os.keep (fun _ hb => hb) hkU _ _ hos
      | n + 1, h1, h2 => simp at h1
  · obtain ⟨h1, h2, h3⟩ := h.ub b hb
    refine ⟨h1, Nat.lt_of_lt_of_le h2 hkt.size, fun t => ?_⟩
    rcases t with t | t | t | t
    · exact h3 (.inl t)
    · exact h3 (.inr (.inl t))
    · rcases hn b t with h4 | h4
      · exact h3 (.inr (.inr (.inl h4)))
      · omega
    · exact h3 (.inr (.inr (.inr t)))
/-- the store into the row and the store of the list, either first -/
theorem Kg.putO3 {w1 : World} {r c : Nat} {t0 : Tr} {s0 : Value} (h : Kg B kb vN vO vC lN tO ss lC U w) (hs : ∃ a l c, s0 = .slice a l c) (hos : Os U w t0 (.agg #[.int .i64 t0.k, .int .i64 t0.n, s0]))
    (ho : w1.ownsRow B 24 3 (.slice (some ⟨r, 0, none⟩) (tO.length + 1) c) (tO.length + 1) (cso tO ss ++ [.int .i64 0, .int .i64 0, .slice none 0 0])) (hg : w.grownBy w1 vO.ownBlock) (hn : vO.ownBlock = some r ∨ w.heap.size ≤ r) :
    ∀ w2, (w2 = (s3 w1 r (tO.length * 3) t0.k t0.n s0).setCell ⟨kb, 1, none⟩ (.slice (some ⟨r, 0, none⟩) (tO.length + 1) c) ∨ w2 = s3 (w1.setCell ⟨kb, 1, none⟩ (.slice (some ⟨r, 0, none⟩) (tO.length + 1) c)) r (tO.length * 3) t0.k t0.n s0) →
      Kg B kb vN (.slice (some ⟨r, 0, none⟩) (tO.length + 1) c) vC lN (tO ++ [t0]) (ss ++ [s0]) lC U w2 ∧ KT (fun b => b = kb ∨ vO.ownBlock = some b ∨ w.heap.size ≤ b) w w2 := by
  have hlen : (cso tO ss).length = tO.length * 3 := cso_len _ _ h.len
  have hrk : r ≠ kb := fun e => by
    rcases hn with q | q
    · exact h.nk.2.1 (e ▸ q)
    · have := h.lt; omega
  have hb1 : w1.heap[kb]? = some (.cells #[vN, vO, vC] 79 (0, 0)) := (hg.block kb h.lt (fun e => h.nk.2.1 e.symm)).trans h.blk
  have k1 : KT (fun b => b = kb ∨ vO.ownBlock = some b ∨ w.heap.size ≤ b) w w1 := KT.grown hg (fun b e => .inr (.inl e))
  have hrT : (fun b => b = kb ∨ vO.ownBlock = some b ∨ w.heap.size ≤ b) r := .inr hn
  rintro w2 (rfl | rfl)
  · have k2 : KT (fun b => b = kb ∨ vO.ownBlock = some b ∨ w.heap.size ≤ b) w ((s3 w1 r (tO.length * 3) t0.k t0.n s0).setCell ⟨kb, 1, none⟩ (.slice (some ⟨r, 0, none⟩) (tO.length + 1) c)) := (((k1.sc _ hrT).sc _ hrT).sc _ hrT).sc _ (.inl rfl)
    refine ⟨h.putO2 hs hos (own_keep (own_set3 ho hlen _ _ _) fun b e => sc_blk _ _ _ (by cases e; exact hrk)) k2 ?_ (fun b e => by cases e; exact hn), k2⟩
    rw [hsc ((s3_blk _ _ _ _ _ _ (Ne.symm hrk)).trans hb1)]; rfl
  · have k2 : KT (fun b => b = kb ∨ vO.ownBlock = some b ∨ w.heap.size ≤ b) w (s3 (w1.setCell ⟨kb, 1, none⟩ (.slice (some ⟨r, 0, none⟩) (tO.length + 1) c)) r (tO.length * 3) t0.k t0.n s0) := (((k1.sc _ (.inl rfl)).sc _ hrT).sc _ hrT).sc _ hrT
    refine ⟨h.putO2 hs hos (own_set3 (own_keep ho fun b e => sc_blk _ _ _ (by cases e; exact hrk)) hlen _ _ _) k2 ?_ (fun b e => by cases e; exact hn), k2⟩
    rw [s3_blk _ _ _ _ _ _ (Ne.symm hrk), hsc hb1]; rfl
end
theorem own_shape {w : World} {B : Nat} {e : TypeId} {k : Nat} {v : Value} {n : Nat} {xs : List Value} (h : w.ownsRow B e k v n xs) : ∃ a c, v = .slice a n c := by
  rcases h.2 with ⟨e, e0⟩ | ⟨g, cap, cur, e, _⟩
  · exact ⟨none, 0, by rw [e, e0]⟩
  · exact ⟨_, _, e⟩
/-- the state at the end of cheapest -/
structure J5 (B kb g : Nat) (T U : Nat → Prop) (W : World) (vN vO vC : Value) (lN : List Nat) (tO : List Tr) (ss : List Value) (lC : List Nat) (U' : Nat → Prop) (l : List Tr) (w : World) : Prop where
  kg : Kg B kb vN vO vC lN tO ss lC U' w
  mv : Mv T U W (Tk kb vN vO vC) U' w
  br : Bo w (g + 1) 0 0 (.slice none 0 0)
  bi : BI (g + 2) l U' w
  lc : ∀ b, Tk kb vN vO vC b ∨ U' b → b < g ∨ g + 2 < b
  sz : W.heap.size = g
theorem J5.step {B kb g : Nat} {T U : Nat → Prop} {W : World} {vN vO vC vN' vO' vC' : Value} {lN lN' : List Nat} {tO tO' : List Tr} {ss ss' : List Value} {lC lC' : List Nat} {U' : Nat → Prop} {l : List Tr} {w w' : World}
    (h : J5 B kb g T U W vN vO vC lN tO ss lC U' l w) (kg' : Kg B kb vN' vO' vC' lN' tO' ss' lC' U' w') (k : KT (fun b => Tk kb vN vO vC b ∨ w.heap.size ≤ b) w w') (ht : ∀ b, Tk kb vN' vO' vC' b → Tk kb vN vO vC b ∨ w.heap.size ≤ b) : J5 B kb g T U W vN' vO' vC' lN' tO' ss' lC' U' l w' := by
  obtain ⟨xa, xc, hbo, _⟩ := h.bi.ex
  have hgl : g + 2 < w.heap.size := hbo.lt
  have hT : ∀ b, b < w.heap.size → ¬ Tk kb vN vO vC b → ¬ (Tk kb vN vO vC b ∨ w.heap.size ≤ b) := fun b hb hn t => by
    rcases t with t | t
    · exact hn t
    · omega
  have hl : ∀ b, b = g + 1 ∨ b = g + 2 → ¬ Tk kb vN vO vC b := fun b hb t => by have := h.lc b (.inl t); omega
  refine ⟨kg', h.mv.trans ⟨k.weak fun b hb t => ?_, ht, fun _ hx => hx, fun _ hx => .inl hx⟩, h.br.kt k (hT _ (by omega) (hl _ (.inl rfl))), ?_, fun b hb => ?_, h.sz⟩
  · rcases t with t | t
    · exact t
    · omega
  · have k2 : KT (fun b => Tk kb vN vO vC b) w w' := k.weak fun b hb t => by
      rcases t with t | t
      · exact t
      · omega
    exact h.bi.kt k2 (hl _ (.inr rfl)) (fun x hx t => (h.kg.ub x hx).2.2 t) (fun _ hx => hx)
  · rcases hb with q | q
    · rcases ht b q with q | q
      · exact h.lc b (.inl q)
      · omega
    · exact h.lc b (.inr q)
end Go.Proofs.YtoaccmblaifnmaaDoor
