/-
  What PlannerLists and its fellows rest on, joined: Kap Op2 Op3 Op4 Dk6 Al6.
-/
import Derived.Test.YtoaccmblaifnmaaDoorProg
import Derived.WalkKit
import Ieee.Arith
import Derived.WalkLawsBesides
import Derived.Outline
import Derived.Deep.QuietTactic
import Derived.BigQuiet
import Derived.WalkSmall
import Derived.Deep.DeepCutAuto
import Derived.Laws.Rows
import Derived.Lib.ItoaNum
import Derived.Laws.IdiomStrings
import Derived.Deep.RegionHeld3
import Derived.Lib.SmallJoins
import Derived.Lib.HexFns
import Derived.Test.YtoaccmblaifnmaaDoorRows
import Derived.LaidEql
import Derived.LaidLaws
import Derived.LaidHandle
import Derived.Stop.Joined
import Derived.Deep.RegionWith
import Derived.Recover
import Derived.RegionDies
import Derived.Laws.CopyOwn
import Derived.Lib.AppendIntMem
import Derived.Laws.AppendOwn
import Derived.OwnWalk
import Derived.BigCall
import Derived.Defers
import Derived.Deep.RegionLaw
import Derived.Deep.RegionHeldLaw
import Derived.Laws.FloatArith
import Derived.RegionTactic
import Derived.Lib.Mul64
import Derived.Laws.Bits64b
import Derived.Deep.CutBlock
import Derived.Maps.AppendAt
import Derived.Laws.OwnMore
import Derived.RangeFuncNested
import Derived.RangeFuncBound
import Derived.RangeFuncCalls
import Derived.RangeFuncLeaves
import Derived.RangeFuncBox
import Derived.Shelf.Abstract
import Derived.Shelf.RegionOpen
import Derived.OwnWalkIn
import Derived.TacticsInMore
import Derived.LoopNIn
import Derived.LoopIn
import Derived.Laws.ComplexArith
import Derived.Laws.MakeOwn
import Derived.MapKept
import Derived.Carry
import Derived.ChangeAlike
import Derived.Test.YtoaccmblaifnmaaDoorBb3
import Derived.Test.YtoaccmblaifnmaaDoorBb5
import Derived.Test.YtoaccmblaifnmaaDoorBa6
import Derived.Test.YtoaccmblaifnmaaDoorBa8
import Derived.Test.YtoaccmblaifnmaaDoorBa1
import Derived.Test.YtoaccmblaifnmaaDoorBd6
import Derived.Test.YtoaccmblaifnmaaDoorBb2
namespace Go.Proofs.YtoaccmblaifnmaaDoor
open Flo Go.RowKit
theorem infoI9 : (Tryd.prog.info? 3).map (fun i => (i.zero, i.size, i.bytes)) = some (some (.int .i64 0), 1, 8) := by kernel_rfl
end Go.Proofs.YtoaccmblaifnmaaDoor
namespace Go.Proofs.YtoaccmblaifnmaaDoor
open Flo Go.RowKit Tr
theorem add_pl (b i : Nat) : (⟨b, 0, none⟩ : Addr).add i = ⟨b, i, none⟩ := by
  unfold Addr.add
  by_cases h : i = 0
  · subst h; simp
  · simp [h]
end Go.Proofs.YtoaccmblaifnmaaDoor
namespace Go.Proofs.YtoaccmblaifnmaaDoor
open Flo Go.RowKit Tr
theorem cso_take : ∀ (fs : List Tr) (ss : List Value) (n : Nat), cso (fs.take n) (ss.take n) = (cso fs ss).take (n * 3)
  | [], ss, n => by simp [cso]
  | t :: fs, [], n => by cases n <;> simp [cso]
  | t :: fs, s :: ss, 0 => by simp [cso]
  | t :: fs, s :: ss, n + 1 => by
    have := cso_take fs ss n
    show [Value.int .i64 t.k, .int .i64 t.n, s] ++ cso (fs.take n) (ss.take n) = ([Value.int .i64 t.k, .int .i64 t.n, s] ++ cso fs ss).take ((n + 1) * 3)
    have e3 : (n + 1) * 3 = n * 3 + 1 + 1 + 1 := by omega
    rw [this, e3]
    rfl
end Go.Proofs.YtoaccmblaifnmaaDoor
namespace Go.Proofs.YtoaccmblaifnmaaDoor
open Flo Go.RowKit Tr
theorem two_new (w : World) (o1 o2 : Obj) : ((w.alloc o1).alloc o2).heap[w.heap.size]? = some o1 ∧ ((w.alloc o1).alloc o2).heap[w.heap.size + 1]? = some o2 := by
  have e : (w.alloc o1).heap.size = w.heap.size + 1 := by simp
  exact ⟨(Below.heap_alloc _ _ _ (by omega)).trans (heap_alloc_new _ _), by rw [← e]; exact heap_alloc_new _ _⟩
end Go.Proofs.YtoaccmblaifnmaaDoor
namespace Go.Proofs.YtoaccmblaifnmaaDoor
open Flo Go.RowKit Tr
theorem step_ord {ops : Array Oper} {o : Oper} {a : Act} {w : World} {K : Act → World → Prop} {Q : Exit → Act → World → Prop} {E : Prop}
    (hg : o.guard = none) (s x : Operand) (hop : o.op = Op.call { callee := Callee.builtin Builtin.append, args := #[s, x], argTypes := #[22, 22] })
    (B n : Nat) (v : Value) (xs : List Value) (hs : a.eval s = v) (hown : w.ownsRow B 24 3 v n xs)
    (fb fc : Nat) (hx : a.eval x = .slice (some ⟨fb, 0, none⟩) 1 fc) (hf : w.heap[fb]? = some (.cells #[.int .i64 0, .int .i64 0, .slice none 0 0] 24 (0, 0))) (hn : n ≤ 20000) (hB : B ≤ w.heap.size)
    (hK : ∀ r c w', w'.ownsRow B 24 3 (.slice (some ⟨r, 0, none⟩) (n + 1) c) (n + 1) (xs ++ [.int .i64 0, .int .i64 0, .slice none 0 0]) → w.grownBy w' v.ownBlock → (v.ownBlock = some r ∨ w.heap.size ≤ r) → K (a.put o.dst (.slice (some ⟨r, 0, none⟩) (n + 1) c)) w') :
    if Region.wanted o (yielded ops a.tmps) = true then Oper.wp Tryd.prog o a w K Q else E := by
  obtain ⟨i0, hi0, iz0, iz1, iz2⟩ := info_o
  have hw : Region.wanted o (yielded ops a.tmps) = true := by simp [Region.wanted, hg]
  rw [if_pos hw]
  obtain ⟨v', w', hrun, r1, r2, r3⟩ := append_fr (P := Tryd.prog) w B 22 o.type 24 i0 (.agg #[.int .i64 0, .int .i64 0, .slice none 0 0]) 3 40 Tryd.underlying22 hi0 iz0 iz1 iz2 rfl (by decide) v n xs hown ⟨fb, 0, none⟩ 1 fc [.int .i64 0, .int .i64 0, .slice none 0 0] rfl (fun j u hj => by
    rw [add_pl, Joins.cell_of_block hf]
    match j, hj with
    | 0, hj => simpa using hj
    | 1, hj => simpa using hj
    | 2, hj => simpa using hj) (fun u hu => by simp at hu; rcases hu with rfl | rfl | rfl <;> rfl) (by unfold maxLen; omega) (by omega) hB
  unfold Oper.wp
  simp [execOp, hop, resolve, invoke, builtin, hs, hx, hrun, Result.andThen]
  rcases r1.2 with ⟨e, e0⟩ | ⟨r, cap, cur, e, q⟩
  · omega
  · subst e
    exact hK r cap w' r1 r2 (r3 r rfl)
/-- three cells of a block -/
def s3 (w : World) (r o : Nat) (k n : Int) (s : Value) : World := ((w.setCell ⟨r, o, none⟩ (.int .i64 k)).setCell ⟨r, o + 1, none⟩ (.int .i64 n)).setCell ⟨r, o + 2, none⟩ s
theorem s3_blk (w : World) (r o : Nat) (k n : Int) (s : Value) {j : Nat} (h : j ≠ r) : (s3 w r o k n s).heap[j]? = w.heap[j]? := by
  unfold s3
  rw [sc_blk _ _ _ h, sc_blk _ _ _ h, sc_blk _ _ _ h]
theorem own_set3 {w : World} {B r c n : Nat} {xs : List Value} (h : w.ownsRow B 24 3 (.slice (some ⟨r, 0, none⟩) (n + 1) c) (n + 1) (xs ++ [.int .i64 0, .int .i64 0, .slice none 0 0])) (hl : xs.length = n * 3) (k m : Int) (s : Value) :
    (s3 w r (n * 3) k m s).ownsRow B 24 3 (.slice (some ⟨r, 0, none⟩) (n + 1) c) (n + 1) (xs ++ [.int .i64 k, .int .i64 m, s]) := by
  rcases h.2 with ⟨e, _⟩ | ⟨g, cap, cur, e, h1, h2, h3, h4, h5, h6⟩
  · cases e
  · simp only [Value.slice.injEq, Option.some.injEq, Addr.mk.injEq, and_true, true_and] at e
    obtain ⟨rfl, rfl⟩ := e
    refine ⟨by simp [hl]; omega, .inr ⟨r, c, ((cur.setIfInBounds (n * 3) (.int .i64 k)).setIfInBounds (n * 3 + 1) (.int .i64 m)).setIfInBounds (n * 3 + 2) s, rfl, h1, ?_, h3, h4, by simpa using h5, ?_⟩⟩
    · unfold s3
      exact hsc (hsc (hsc h2 _) _) _
    · simp only [Array.toList_setIfInBounds]
      rw [List.take_set, List.take_set, List.take_set, h6, List.set_append_right _ _ (by omega), List.set_append_right _ _ (by omega), List.set_append_right _ _ (by omega), hl]
      have e0 : n * 3 - n * 3 = 0 := by omega
      have e1 : n * 3 + 1 - n * 3 = 1 := by omega
      have e2 : n * 3 + 2 - n * 3 = 2 := by omega
      rw [e0, e1, e2]
      rfl
theorem own_zero {w : World} {B r c n : Nat} {xs : List Value} (h : w.ownsRow B 24 3 (.slice (some ⟨r, 0, none⟩) (n + 1) c) (n + 1) (xs ++ [.int .i64 0, .int .i64 0, .slice none 0 0])) (hl : xs.length = n * 3) :
    (∀ i, w.frozen? ⟨r, i, none⟩ = false) ∧ w.cell? ⟨r, n * 3, none⟩ = some (.int .i64 0) ∧ w.cell? ⟨r, n * 3 + 1, none⟩ = some (.int .i64 0) ∧ w.cell? ⟨r, n * 3 + 2, none⟩ = some (.slice none 0 0) := by
  rcases h.2 with ⟨e, _⟩ | ⟨g, cap, cur, e, h1, h2, h3, h4, h5, h6⟩
  · cases e
  · simp only [Value.slice.injEq, Option.some.injEq, Addr.mk.injEq, and_true, true_and] at e
    obtain ⟨rfl, rfl⟩ := e
    have hc : ∀ i, i < 3 → w.cell? ⟨r, n * 3 + i, none⟩ = [Value.int .i64 0, .int .i64 0, .slice none 0 0][i]? := fun i hi => by
      rw [Joins.cell_of_block h2]
      have h7 : (xs ++ [Value.int .i64 0, .int .i64 0, .slice none 0 0])[n * 3 + i]? = [Value.int .i64 0, .int .i64 0, .slice none 0 0][i]? := by
        rw [List.getElem?_append_right (by omega), hl]
        congr 1
        omega
      rw [← h7, ← h6, List.getElem?_take, if_pos (by omega)]
      simp
    exact ⟨fun i => Joins.unfrozen_of_block h2 i, hc 0 (by decide), hc 1 (by decide), hc 2 (by decide)⟩
section
variable {B kb : Nat} {vN vO vC : Value} {lN lC : List Nat} {tO : List Tr} {ss : List Value} {U : Nat → Prop} {w w' : World}
theorem Kg.putO2 {vO' : Value} {w2 : World} {t0 : Tr} {s0 : Value} (h : Kg B kb vN vO vC lN tO ss lC U w) (hs : ∃ a l c, s0 = .slice a l c) (hos : Os U w t0 (.agg #[.int .i64 t0.k, .int .i64 t0.n, s0])) (ho : w2.ownsRow B 24 3 vO' (tO.length + 1) (cso tO ss ++ [.int .i64 t0.k, .int .i64 t0.n, s0])) (hkt : KT (fun b => b = kb ∨ vO.ownBlock = some b ∨ w.heap.size ≤ b) w w2) (hkb : w2.heap[kb]? = some (.cells #[vN, vO', vC] 79 (0, 0))) (hn : ∀ b, vO'.ownBlock = some b → vO.ownBlock = some b ∨ w.heap.size ≤ b) :
    Kg B kb vN vO' vC lN (tO ++ [t0]) (ss ++ [s0]) lC U w2 := by
  have hk2 : ∀ b, b < w.heap.size → vO.ownBlock ≠ some b → b ≠ kb → w2.heap[b]? = w.heap[b]? := fun b hb hne hk => hkt.block b hb fun t => by
    rcases t with t | t | t
    · exact hk t
    · exact hne t
    · omega
  have hkU : ∀ b, U b → b < w.heap.size → w2.heap[b]? = w.heap[b]? := fun b hb hl => by
    have := (h.ub b hb).2.2
    exact hk2 b hl (fun e => this (.inr (.inr (.inl e)))) (fun e => this (.inl e))
  refine ⟨hkb, h.kB, own_keep h.oN fun b e => hk2 b (own_ty h.oN e).2.1 (int_ne_order h.oN h.oO e) (fun e2 => h.nk.1 (e2 ▸ e)), by rw [cso_snoc _ _ _ _ h.len, List.length_append]; exact ho, own_keep h.oC fun b e => hk2 b (own_ty h.oC e).2.1 (int_ne_order h.oC h.oO e) (fun e2 => h.nk.2.2 (e2 ▸ e)), by simp [h.len], fun s hs2 => ?_, fun j t s h1 h2 => ?_, h.nc, fun b hb => ?_⟩
  · rcases List.mem_append.1 hs2 with e | e
    · exact h.sl s e
    · rw [List.mem_singleton] at e; subst e; exact hs
  · by_cases hj : j < tO.length
    · rw [List.getElem?_append_left hj] at h1
      rw [List.getElem?_append_left (by rw [h.len]; exact hj)] at h2
      exact Os.keep (fun _ hb => hb) hkU _ _ (h.kid j t s h1 h2)
    · rw [List.getElem?_append_right (by omega)] at h1
      rw [List.getElem?_append_right (by rw [h.len]; omega), h.len] at h2
      match hd : j - tO.length, h1, h2 with
      | 0, h1, h2 =>
        simp at h1 h2
        subst h1 h2
        exact Os.keep (fun _ hb => hb) hkU _ _ hos
      | n + 1, h1, h2 => simp at h1
  · obtain ⟨h1, h2, h3⟩ := h.ub b hb
    refine ⟨h1, Nat.lt_of_lt_of_le h2 hkt.size, fun t => ?_⟩
    rcases t with t | t | t | t
    · exact h3 (.inl t)
    · exact h3 (.inr (.inl t))
    · rcases hn b t with h4 | h4
      · exact h3 (.inr (.inr (.inl h4)))
      · omega
    · exact h3 (.inr (.inr (.inr t)))
/-- the store into the row and the store of the list, either first -/
theorem Kg.putO3 {w1 : World} {r c : Nat} {t0 : Tr} {s0 : Value} (h : Kg B kb vN vO vC lN tO ss lC U w) (hs : ∃ a l c, s0 = .slice a l c) (hos : Os U w t0 (.agg #[.int .i64 t0.k, .int .i64 t0.n, s0]))
    (ho : w1.ownsRow B 24 3 (.slice (some ⟨r, 0, none⟩) (tO.length + 1) c) (tO.length + 1) (cso tO ss ++ [.int .i64 0, .int .i64 0, .slice none 0 0])) (hg : w.grownBy w1 vO.ownBlock) (hn : vO.ownBlock = some r ∨ w.heap.size ≤ r) :
    ∀ w2, (w2 = (s3 w1 r (tO.length * 3) t0.k t0.n s0).setCell ⟨kb, 1, none⟩ (.slice (some ⟨r, 0, none⟩) (tO.length + 1) c) ∨ w2 = s3 (w1.setCell ⟨kb, 1, none⟩ (.slice (some ⟨r, 0, none⟩) (tO.length + 1) c)) r (tO.length * 3) t0.k t0.n s0) →
      Kg B kb vN (.slice (some ⟨r, 0, none⟩) (tO.length + 1) c) vC lN (tO ++ [t0]) (ss ++ [s0]) lC U w2 ∧ KT (fun b => b = kb ∨ vO.ownBlock = some b ∨ w.heap.size ≤ b) w w2 := by
  have hlen : (cso tO ss).length = tO.length * 3 := cso_len _ _ h.len
  have hrk : r ≠ kb := fun e => by
    rcases hn with q | q
    · exact h.nk.2.1 (e ▸ q)
    · have := h.lt; omega
  have hb1 : w1.heap[kb]? = some (.cells #[vN, vO, vC] 79 (0, 0)) := (hg.block kb h.lt (fun e => h.nk.2.1 e.symm)).trans h.blk
  have k1 : KT (fun b => b = kb ∨ vO.ownBlock = some b ∨ w.heap.size ≤ b) w w1 := KT.grown hg (fun b e => .inr (.inl e))
  have hrT : (fun b => b = kb ∨ vO.ownBlock = some b ∨ w.heap.size ≤ b) r := .inr hn
  rintro w2 (rfl | rfl)
  · have k2 : KT (fun b => b = kb ∨ vO.ownBlock = some b ∨ w.heap.size ≤ b) w ((s3 w1 r (tO.length * 3) t0.k t0.n s0).setCell ⟨kb, 1, none⟩ (.slice (some ⟨r, 0, none⟩) (tO.length + 1) c)) := (((k1.sc _ hrT).sc _ hrT).sc _ hrT).sc _ (.inl rfl)
    refine ⟨h.putO2 hs hos (own_keep (own_set3 ho hlen _ _ _) fun b e => sc_blk _ _ _ (by cases e; exact hrk)) k2 ?_ (fun b e => by cases e; exact hn), k2⟩
    rw [hsc ((s3_blk _ _ _ _ _ _ (Ne.symm hrk)).trans hb1)]; rfl
  · have k2 : KT (fun b => b = kb ∨ vO.ownBlock = some b ∨ w.heap.size ≤ b) w (s3 (w1.setCell ⟨kb, 1, none⟩ (.slice (some ⟨r, 0, none⟩) (tO.length + 1) c)) r (tO.length * 3) t0.k t0.n s0) := (((k1.sc _ (.inl rfl)).sc _ hrT).sc _ hrT).sc _ hrT
    refine ⟨h.putO2 hs hos (own_set3 (own_keep ho fun b e => sc_blk _ _ _ (by cases e; exact hrk)) hlen _ _ _) k2 ?_ (fun b e => by cases e; exact hn), k2⟩
    rw [s3_blk _ _ _ _ _ _ (Ne.symm hrk), hsc hb1]; rfl
end
theorem own_shape {w : World} {B : Nat} {e : TypeId} {k : Nat} {v : Value} {n : Nat} {xs : List Value} (h : w.ownsRow B e k v n xs) : ∃ a c, v = .slice a n c := by
  rcases h.2 with ⟨e, e0⟩ | ⟨g, cap, cur, e, _⟩
  · exact ⟨none, 0, by rw [e, e0]⟩
  · exact ⟨_, _, e⟩
/-- the state at the end of cheapest -/
structure J5 (B kb g : Nat) (T U : Nat → Prop) (W : World) (vN vO vC : Value) (lN : List Nat) (tO : List Tr) (ss : List Value) (lC : List Nat) (U' : Nat → Prop) (l : List Tr) (w : World) : Prop where
  kg : Kg B kb vN vO vC lN tO ss lC U' w
  mv : Mv T U W (Tk kb vN vO vC) U' w
  br : Bo w (g + 1) 0 0 (.slice none 0 0)
  bi : BI (g + 2) l U' w
  lc : ∀ b, Tk kb vN vO vC b ∨ U' b → b < g ∨ g + 2 < b
  sz : W.heap.size = g
theorem J5.step {B kb g : Nat} {T U : Nat → Prop} {W : World} {vN vO vC vN' vO' vC' : Value} {lN lN' : List Nat} {tO tO' : List Tr} {ss ss' : List Value} {lC lC' : List Nat} {U' : Nat → Prop} {l : List Tr} {w w' : World}
    (h : J5 B kb g T U W vN vO vC lN tO ss lC U' l w) (kg' : Kg B kb vN' vO' vC' lN' tO' ss' lC' U' w') (k : KT (fun b => Tk kb vN vO vC b ∨ w.heap.size ≤ b) w w') (ht : ∀ b, Tk kb vN' vO' vC' b → Tk kb vN vO vC b ∨ w.heap.size ≤ b) : J5 B kb g T U W vN' vO' vC' lN' tO' ss' lC' U' l w' := by
  obtain ⟨xa, xc, hbo, _⟩ := h.bi.ex
  have hgl : g + 2 < w.heap.size := hbo.lt
  have hT : ∀ b, b < w.heap.size → ¬ Tk kb vN vO vC b → ¬ (Tk kb vN vO vC b ∨ w.heap.size ≤ b) := fun b hb hn t => by
    rcases t with t | t
    · exact hn t
    · omega
  have hl : ∀ b, b = g + 1 ∨ b = g + 2 → ¬ Tk kb vN vO vC b := fun b hb t => by have := h.lc b (.inl t); omega
  refine ⟨kg', h.mv.trans ⟨k.weak fun b hb t => ?_, ht, fun _ hx => hx, fun _ hx => .inl hx⟩, h.br.kt k (hT _ (by omega) (hl _ (.inl rfl))), ?_, fun b hb => ?_, h.sz⟩
  · rcases t with t | t
    · exact t
    · omega
  · have k2 : KT (fun b => Tk kb vN vO vC b) w w' := k.weak fun b hb t => by
      rcases t with t | t
      · exact t
      · omega
    exact h.bi.kt k2 (hl _ (.inr rfl)) (fun x hx t => (h.kg.ub x hx).2.2 t) (fun _ hx => hx)
  · rcases hb with q | q
    · rcases ht b q with q | q
      · exact h.lc b (.inl q)
      · omega
    · exact h.lc b (.inr q)
end Go.Proofs.YtoaccmblaifnmaaDoor
namespace Go.Proofs.YtoaccmblaifnmaaDoor
open Flo Go.RowKit Tr
/-- a list of orders: its row lies from g on, its orders in U -/
structure Lrw (g : Nat) (U : Nat → Prop) (w : World) (kv : Value) (ks : List Tr) (ss : List Value) : Prop where
  own : w.ownsRow g 24 3 kv ks.length (cso ks ss)
  len : ss.length = ks.length
  sl : ∀ s ∈ ss, ∃ a l c, s = .slice a l c
  kid : ∀ (j : Nat) t s, ks[j]? = some t → ss[j]? = some s → Os U w t (.agg #[.int .i64 t.k, .int .i64 t.n, s])
  nu : ∀ b, kv.ownBlock = some b → ¬ U b
section
variable {g : Nat} {U U' : Nat → Prop} {w w' : World} {kv kv' : Value} {ks : List Tr} {ss : List Value}
theorem Lrw.nil (g : Nat) (U : Nat → Prop) (w : World) : Lrw g U w (.slice none 0 0) [] [] := ⟨World.ownsRow_nil _ _ _ _, rfl, (fun s h => by cases h), fun j t s h => by simp at h, fun b h => by simp [Value.ownBlock] at h⟩
theorem Lrw.shape (h : Lrw g U w kv ks ss) : ∃ a c, kv = .slice a ks.length c := own_shape h.own
theorem Lrw.kt {T : Nat → Prop} (h : Lrw g U w kv ks ss) (k : KT T w w') (hT : ∀ b, T b → kv.ownBlock ≠ some b ∧ ¬ U b) : Lrw g U w' kv ks ss :=
  ⟨own_keep h.own fun b e => k.block b (own_ty h.own e).2.1 (fun t => (hT b t).1 e), h.len, h.sl, fun j t s h1 h2 => Os.keep (fun _ hb => hb) (fun b hb hl => k.block b hl (fun t => (hT b t).2 hb)) _ _ (h.kid j t s h1 h2), h.nu⟩
theorem Lrw.bel (h : Lrw g U w kv ks ss) (k : Below w.heap.size w w') : Lrw g U w' kv ks ss := h.kt (T := fun _ => False) (KT.of_below k) (fun _ h => h.elim)
theorem Lrw.wid (h : Lrw g U w kv ks ss) (hU : ∀ b, U b → U' b) (hn : ∀ b, kv.ownBlock = some b → ¬ U' b) : Lrw g U' w kv ks ss :=
  ⟨h.own, h.len, h.sl, fun j t s h1 h2 => Os.keep hU (fun _ _ _ => rfl) _ _ (h.kid j t s h1 h2), hn⟩
theorem Lrw.ge (h : Lrw g U w kv ks ss) {b : Nat} (hb : kv.ownBlock = some b) : g ≤ b ∧ b < w.heap.size := ⟨(own_ty h.own hb).1, (own_ty h.own hb).2.1⟩
theorem Lrw.low {g' : Nat} (h : Lrw g U w kv ks ss) (hg : g' ≤ g) : Lrw g' U w kv ks ss := by
  refine ⟨⟨h.own.1, ?_⟩, h.len, h.sl, h.kid, h.nu⟩
  rcases h.own.2 with h2 | ⟨r, cap, cur, e, h1, h2⟩
  · exact .inl h2
  · exact .inr ⟨r, cap, cur, e, by omega, h2⟩
/-- one more -/
theorem Lrw.snoc {w1 : World} {t : Tr} {s : Value} (h : Lrw g U w kv ks ss) (hs : ∃ a l c, s = .slice a l c) (ho : Os U w t (.agg #[.int .i64 t.k, .int .i64 t.n, s])) (hU : ∀ b, U b → b < w.heap.size)
    (hown : w1.ownsRow g 24 3 kv' (ks.length + 1) (cso ks ss ++ [.int .i64 t.k, .int .i64 t.n, s])) (hg : w.grownBy w1 kv.ownBlock) (hn : ∀ b, kv'.ownBlock = some b → kv.ownBlock = some b ∨ w.heap.size ≤ b) : Lrw g U w1 kv' (ks ++ [t]) (ss ++ [s]) := by
  have hkU : ∀ b, U b → b < w.heap.size → w1.heap[b]? = w.heap[b]? := fun b hb hl => hg.block b hl fun e => h.nu b e.symm hb
  refine ⟨by rw [cso_snoc _ _ _ _ h.len, List.length_append]; exact hown, by simp [h.len], fun s' hs2 => ?_, fun j t' s' h1 h2 => ?_, fun b e hb => ?_⟩
  · rcases List.mem_append.1 hs2 with e | e
    · exact h.sl s' e
    · rw [List.mem_singleton] at e; subst e; exact hs
  · by_cases hj : j < ks.length
    · rw [List.getElem?_append_left hj] at h1
      rw [List.getElem?_append_left (by rw [h.len]; exact hj)] at h2
      exact Os.keep (fun _ hb => hb) hkU _ _ (h.kid j t' s' h1 h2)
    · rw [List.getElem?_append_right (by omega)] at h1
      rw [List.getElem?_append_right (by rw [h.len]; omega), h.len] at h2
      match hd : j - ks.length, h1, h2 with
      | 0, h1, h2 =>
        simp at h1 h2
        subst h1 h2
        exact Os.keep (fun _ hb => hb) hkU _ _ ho
      | n + 1, h1, h2 => simp at h1
  · rcases hn b e with h2 | h2
    · exact h.nu b h2 hb
    · have := hU b hb; omega
/-- the first n of them -/
theorem Lrw.cut {sa : Option Addr} {sc n : Nat} (h : Lrw g U w (.slice sa ks.length sc) ks ss) (hn : n ≤ ks.length) : Lrw g U w (.slice sa n sc) (ks.take n) (ss.take n) := by
  have hl : (ks.take n).length = n := by rw [List.length_take]; omega
  have hls : (ss.take n).length = (ks.take n).length := by rw [List.length_take, List.length_take, h.len]
  refine ⟨⟨cso_len _ _ hls, ?_⟩, hls, (fun s hs => h.sl s (List.mem_of_mem_take hs)), fun j t s h1 h2 => ?_, fun b e => h.nu b (by cases sa <;> exact e)⟩
  · rw [hl]
    rcases h.own.2 with ⟨e, e0⟩ | ⟨r, cap, cur, e, h1, h2, h3, h4, h5, h6⟩
    · simp only [Value.slice.injEq] at e
      left
      exact ⟨by rw [e.1, e.2.2, show n = 0 by omega], by omega⟩
    · simp only [Value.slice.injEq] at e
      right
      refine ⟨r, cap, cur, by rw [e.1, e.2.2], h1, h2, by omega, h4, h5, ?_⟩
      rw [cso_take, ← h6, List.take_take, Nat.min_eq_left (by omega)]
  · have hj : j < n := by have := (List.getElem?_eq_some_iff.1 h1).1; omega
    rw [List.getElem?_take, if_pos hj] at h1 h2
    exact h.kid j t s h1 h2
/-- one of them, read -/
theorem Lrw.at (h : Lrw g U w kv ks ss) {j : Nat} {t : Tr} (hj : ks[j]? = some t) :
    ∃ r cap a c, kv = .slice (some ⟨r, 0, none⟩) ks.length cap ∧ w.cell? ⟨r, j * 3, none⟩ = some (.int .i64 t.k) ∧ w.cell? ⟨r, j * 3 + 1, none⟩ = some (.int .i64 t.n) ∧ w.cell? ⟨r, j * 3 + 2, none⟩ = some (.slice a t.ks.length c) ∧ Os U w t (.agg #[.int .i64 t.k, .int .i64 t.n, .slice a t.ks.length c]) := by
  have hl : j < ks.length := by
    by_cases h1 : j < ks.length
    · exact h1
    · rw [List.getElem?_eq_none (by omega)] at hj; cases hj
  have hs : ss[j]? = some (ss[j]'(by rw [h.len]; exact hl)) := List.getElem?_eq_getElem _
  have hk := h.kid j t _ hj hs
  obtain ⟨a, c, e⟩ := hk.shape
  have es : ss[j]'(by rw [h.len]; exact hl) = .slice a t.ks.length c := by injection e with e; simpa using e
  rw [es] at hs hk
  rcases h.own.2 with ⟨_, e0⟩ | ⟨r, cap, cur, e', hbg, hh, hnc, _, hsz, htk⟩
  · omega
  · have hc : ∀ i, i < 3 → w.cell? ⟨r, j * 3 + i, none⟩ = [Value.int .i64 t.k, .int .i64 t.n, .slice a t.ks.length c][i]? := fun i hi => by
      rw [← cso_at ks ss j i _ _ h.len hj hs hi, ← htk, List.getElem?_take, if_pos (by omega), Joins.cell_of_block hh]; simp
    exact ⟨r, cap, a, c, e', by have := hc 0 (by decide); rw [Nat.add_zero] at this; exact this, hc 1 (by decide), hc 2 (by decide), hk⟩
end
end Go.Proofs.YtoaccmblaifnmaaDoor
