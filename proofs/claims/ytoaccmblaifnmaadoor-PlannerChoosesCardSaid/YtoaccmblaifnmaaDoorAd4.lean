/-
  The document's reading: the orders that aren't ended, in memory.
-/
import Derived.Test.YtoaccmblaifnmaaDoorOy1
import Derived.Test.YtoaccmblaifnmaaDoorAa5
import Derived.Test.YtoaccmblaifnmaaDoorAc8
import Derived.Test.YtoaccmblaifnmaaDoorAa8
import Derived.BigCall
import Derived.Test.YtoaccmblaifnmaaDoorAd2
import Derived.Deep.RegionHeldLaw
namespace Go.Proofs.YtoaccmblaifnmaaDoor
open Flo Go.RowKit Tr
/-- all but the blocks g and the row's stay -/
structure Ch (w w' : World) (g : Nat) (sv : Value) : Prop where
  os : w'.os = w.os
  tape : w'.tape = w.tape
  output : w'.output = w.output
  size : w.heap.size ≤ w'.heap.size
  block : ∀ b, b < w.heap.size → b ≠ g → some b ≠ sv.ownBlock → w'.heap[b]? = w.heap[b]?
theorem Ch.gb {w w' : World} {g : Nat} {sv : Value} (h : w.grownBy w' (some g)) : Ch w w' g sv := ⟨h.os, h.tape, h.output, h.size, fun b hb hn _ => h.block b hb (fun e => hn (Option.some.inj e))⟩
theorem Ch.refl (w : World) (g : Nat) (sv : Value) : Ch w w g sv := ⟨rfl, rfl, rfl, Nat.le_refl _, fun _ _ _ _ => rfl⟩
theorem Ch.bel {w w' : World} {g : Nat} {sv : Value} (h : Below w.heap.size w w') : Ch w w' g sv := ⟨h.os, h.tape, h.output, h.size, fun b hb _ _ => h.block b hb⟩
theorem Ch.tr {w w1 w2 : World} {g : Nat} {sv sv1 : Value} (h : Ch w w1 g sv) (k : Ch w1 w2 g sv1) (hn : ∀ b, sv1.ownBlock = some b → sv.ownBlock = some b ∨ w.heap.size ≤ b) : Ch w w2 g sv :=
  ⟨k.os.trans h.os, k.tape.trans h.tape, k.output.trans h.output, Nat.le_trans h.size k.size, fun b hb h1 h2 => by
    rw [k.block b (Nat.lt_of_lt_of_le hb h.size) h1 (fun e => ?_)]
    · exact h.block b hb h1 h2
    · rcases hn b e.symm with h3 | h3
      · exact h2 h3.symm
      · omega⟩
theorem Ch.below {w0 w w' : World} {g B : Nat} {sv : Value} (hb : Below B w0 w) (h : Ch w w' g sv) (hg : B ≤ g) (hB : B ≤ w.heap.size) (hs : ∀ b, sv.ownBlock = some b → B ≤ b) : Below B w0 w' :=
  ⟨h.os.trans hb.os, h.tape.trans hb.tape, h.output.trans hb.output, Nat.le_trans hb.size h.size, fun k hk => by
    rw [h.block k (by omega) (by omega) (fun e => by have := hs k e.symm; omega)]
    exact hb.block k hk⟩
end Go.Proofs.YtoaccmblaifnmaaDoor
/-
  The document's begin.
-/
namespace Go.Proofs.YtoaccmblaifnmaaDoor
open Flo Go.RowKit Tr
theorem add_pl (b i : Nat) : (⟨b, 0, none⟩ : Addr).add i = ⟨b, i, none⟩ := by
  unfold Addr.add
  by_cases h : i = 0
  · subst h; simp
  · simp [h]
theorem new_cell (W : World) (c : Array Value) (t : TypeId) (j : Nat) : (W.alloc (.cells c t)).cell? ⟨W.heap.size, j, none⟩ = c[j]? := Joins.cell_of_block (heap_alloc_new W (.cells c t)) j
end Go.Proofs.YtoaccmblaifnmaaDoor
/-
  The document's end: the pieces in memory.
-/
namespace Go.Proofs.YtoaccmblaifnmaaDoor
open Flo Go.RowKit Tr
theorem cso_take : ∀ (fs : List Tr) (ss : List Value) (n : Nat), cso (fs.take n) (ss.take n) = (cso fs ss).take (n * 3)
  | [], ss, n => by simp [cso]
  | t :: fs, [], n => by cases n <;> simp [cso]
  | t :: fs, s :: ss, 0 => by simp [cso]
  | t :: fs, s :: ss, n + 1 => by
    have := cso_take fs ss n
    show [Value.int .i64 t.k, .int .i64 t.n, s] ++ cso (fs.take n) (ss.take n) = ([Value.int .i64 t.k, .int .i64 t.n, s] ++ cso fs ss).take ((n + 1) * 3)
    have e3 : (n + 1) * 3 = n * 3 + 1 + 1 + 1 := by omega
    rw [this, e3]
    rfl
/-- a list of one's own becomes an order's Kids -/
theorem os_row {S : Nat → Prop} {w : World} {B r cap : Nat} {k n : Int} {ks : List Tr} {ss : List Value} (hf : fit k n) (hl : ss.length = ks.length) (hmax : ks.length ≤ 9223372036854775807) (hr : S r) (hown : w.ownsRow B 24 3 (.slice (some ⟨r, 0, none⟩) ks.length cap) ks.length (cso ks ss))
    (hk : ∀ (j : Nat) t s, ks[j]? = some t → ss[j]? = some s → Os S w t (.agg #[.int .i64 t.k, .int .i64 t.n, s])) : Os S w ⟨k, n, ks⟩ (.agg #[.int .i64 k, .int .i64 n, .slice (some ⟨r, 0, none⟩) ks.length cap]) := by
  rw [os_eq]
  refine ⟨_, cap, rfl, ⟨hmax, hf⟩, fun i hi => ?_⟩
  have hi1 : ks[i]? = some ks[i] := List.getElem?_eq_getElem hi
  have hi' : i < ss.length := by rw [hl]; exact hi
  have hi2 : ss[i]? = some ss[i] := List.getElem?_eq_getElem hi'
  rcases hown.2 with ⟨e, _⟩ | ⟨g, cap', cur, e', hbg, hh, hnc, _, hsz, htk⟩
  · simp at e
  · simp only [Value.slice.injEq, Option.some.injEq, Addr.mk.injEq] at e'
    obtain ⟨⟨rfl, _⟩, _, rfl⟩ := e'
    have hc : ∀ j, j < 3 → cur[i * 3 + j]? = [Value.int .i64 ks[i].k, .int .i64 ks[i].n, ss[i]][j]? := fun j hj => by
      rw [← cso_at ks ss i j _ _ hl hi1 hi2 hj, ← htk, List.getElem?_take, if_pos (by omega)]; simp
    refine ⟨r, cur, ss[i], ⟨rfl, hr, hh, ?_, ?_, ?_⟩, hk i _ _ hi1 hi2⟩
    · have := hc 0 (by decide); rw [Nat.add_zero] at this; exact this
    · exact hc 1 (by decide)
    · exact hc 2 (by decide)
end Go.Proofs.YtoaccmblaifnmaaDoor
/-
  A list of one's own, one order more: a step of a region that draws its order.
-/
namespace Go.Proofs.YtoaccmblaifnmaaDoor
open Flo Go.RowKit Tr
theorem step_row {ops : Array Oper} {o : Oper} {a : Act} {w : World} {K : Act → World → Prop} {Q : Exit → Act → World → Prop} {E : Prop}
    (hg : o.guard = none) (s x : Operand) (hop : o.op = Op.call { callee := Callee.builtin Builtin.append, args := #[s, x], argTypes := #[22, 22] })
    (B b n c0 : Nat) (xs : List Value) (hs : a.eval s = .slice (some ⟨b, 0, none⟩) n c0) (hown : w.ownsRow B 24 3 (.slice (some ⟨b, 0, none⟩) n c0) n xs)
    (fb fc : Nat) (k1 n1 : Int) (a1 : Option Addr) (l1 p1 : Nat) (hx : a.eval x = .slice (some ⟨fb, 0, none⟩) 1 fc) (h0 : w.cell? ⟨fb, 0, none⟩ = some (.int .i64 k1)) (h1 : w.cell? ⟨fb, 1, none⟩ = some (.int .i64 n1)) (h2 : w.cell? ⟨fb, 2, none⟩ = some (.slice a1 l1 p1)) (hn : n ≤ 5) (hB : B ≤ w.heap.size)
    (hK : ∀ r c w', w'.ownsRow B 24 3 (.slice (some ⟨r, 0, none⟩) (n + 1) c) (n + 1) (xs ++ [.int .i64 k1, .int .i64 n1, .slice a1 l1 p1]) → w.grownBy w' (some b) → K (a.put o.dst (.slice (some ⟨r, 0, none⟩) (n + 1) c)) w') :
    if Region.wanted o (yielded ops a.tmps) = true then Oper.wp Tryd.prog o a w K Q else E := by
  obtain ⟨i0, hi0, iz0, iz1, iz2⟩ := info_o
  refine step_app hg s x _ hop B 24 i0 (.agg #[.int .i64 0, .int .i64 0, .slice none 0 0]) 3 40 Tryd.underlying22 hi0 iz0 iz1 iz2 rfl (by decide) _ n xs hs hown ⟨fb, 0, none⟩ 1 fc [.int .i64 k1, .int .i64 n1, .slice a1 l1 p1] hx rfl (fun j u hj => ?_) (fun u hu => ?_) (by unfold maxLen; omega) (by omega) hB (fun v' w' q1 q2 => ?_)
  · rw [add_pl]
    match j, hj with
    | 0, hj => rw [h0]; simpa using hj
    | 1, hj => rw [h1]; simpa using hj
    | 2, hj => rw [h2]; simpa using hj
  · simp at hu; rcases hu with rfl | rfl | rfl <;> rfl
  · rcases q1.2 with ⟨e, e0⟩ | ⟨r, cap, cur, e, _⟩
    · omega
    · subst e
      exact hK r cap w' q1 q2
theorem own_e {w : World} {B b : Nat} (hb : B ≤ b) (h : w.heap[b]? = some (.cells #[] 24 (0, 0))) : w.ownsRow B 24 3 (.slice (some ⟨b, 0, none⟩) 0 0) 0 [] := ⟨rfl, .inr ⟨b, 0, #[], rfl, hb, h, Nat.le_refl _, Nat.zero_le _, rfl, rfl⟩⟩
theorem two_new (w : World) (o1 o2 : Obj) : ((w.alloc o1).alloc o2).heap[w.heap.size]? = some o1 ∧ ((w.alloc o1).alloc o2).heap[w.heap.size + 1]? = some o2 := by
  have e : (w.alloc o1).heap.size = w.heap.size + 1 := by simp
  exact ⟨(Below.heap_alloc _ _ _ (by omega)).trans (heap_alloc_new _ _), by rw [← e]; exact heap_alloc_new _ _⟩
theorem step_A {ops : Array Oper} {o : Oper} {a : Act} {W : World} {K : Act → World → Prop} {Q : Exit → Act → World → Prop} {E : Prop}
    (hg : o.guard = none) (s x : Operand) (hop : o.op = Op.call { callee := Callee.builtin Builtin.append, args := #[s, x], argTypes := #[22, 22] })
    (w2 : World) (hB : Below w2.heap.size w2 W) (b bo : Nat) (k1 n1 : Int) (a1 : Option Addr) (l1 p1 : Nat) (hs : a.eval s = .slice (some ⟨b, 0, none⟩) 0 0) (hx : a.eval x = .slice (some ⟨bo, 0, none⟩) 1 1)
    (hb : w2.heap.size ≤ b) (he : W.heap[b]? = some (.cells #[] 24 (0, 0))) (ho : W.heap[bo]? = some (.cells #[.int .i64 k1, .int .i64 n1, .slice a1 l1 p1] 24 (0, 0)))
    (hK : ∀ r c w', w'.ownsRow w2.heap.size 24 3 (.slice (some ⟨r, 0, none⟩) 1 c) 1 [.int .i64 k1, .int .i64 n1, .slice a1 l1 p1] → Below w2.heap.size w2 w' → K (a.put o.dst (.slice (some ⟨r, 0, none⟩) 1 c)) w') :
    if Region.wanted o (yielded ops a.tmps) = true then Oper.wp Tryd.prog o a W K Q else E := by
  refine step_row hg s x hop w2.heap.size b 0 0 [] hs (own_e hb he) bo 1 k1 n1 a1 l1 p1 hx (Joins.cell_of_block ho 0) (Joins.cell_of_block ho 1) (Joins.cell_of_block ho 2) (Nat.zero_le _) hB.size (fun r c w' h1 h2 => hK r c w' h1 (hB.grown h2 hB.size (fun k hk => by have := Option.some.inj hk; omega)))
theorem step_B {ops : Array Oper} {o : Oper} {a : Act} {W : World} {K : Act → World → Prop} {Q : Exit → Act → World → Prop} {E : Prop}
    (hg : o.guard = none) (s x : Operand) (hop : o.op = Op.call { callee := Callee.builtin Builtin.append, args := #[s, x], argTypes := #[22, 22] })
    (w2 : World) (hB : Below w2.heap.size w2 W) (b n c0 fb fc : Nat) (xs : List Value) (k1 n1 : Int) (a1 : Option Addr) (l1 p1 : Nat) (hs : a.eval s = .slice (some ⟨b, 0, none⟩) n c0) (hx : a.eval x = .slice (some ⟨fb, 0, none⟩) 1 fc)
    (hown : W.ownsRow w2.heap.size 24 3 (.slice (some ⟨b, 0, none⟩) n c0) n xs) (h0 : W.cell? ⟨fb, 0, none⟩ = some (.int .i64 k1)) (h1 : W.cell? ⟨fb, 1, none⟩ = some (.int .i64 n1)) (h2 : W.cell? ⟨fb, 2, none⟩ = some (.slice a1 l1 p1)) (hn : n ≤ 5)
    (hK : ∀ r c w', w'.ownsRow w2.heap.size 24 3 (.slice (some ⟨r, 0, none⟩) (n + 1) c) (n + 1) (xs ++ [.int .i64 k1, .int .i64 n1, .slice a1 l1 p1]) → Below w2.heap.size w2 w' → (∀ j, j ≠ b → j < W.heap.size → w'.heap[j]? = W.heap[j]?) → K (a.put o.dst (.slice (some ⟨r, 0, none⟩) (n + 1) c)) w') :
    if Region.wanted o (yielded ops a.tmps) = true then Oper.wp Tryd.prog o a W K Q else E :=
  step_row hg s x hop w2.heap.size b n c0 xs hs hown fb fc k1 n1 a1 l1 p1 hx h0 h1 h2 hn hB.size (fun r c w' q1 q2 => hK r c w' q1 (hB.grown q2 hB.size (fun k hk => by have := Option.some.inj hk; have := (hown.lt b rfl).1; omega)) (fun j hj hl => q2.block j hl (fun e => hj (Option.some.inj e))))
theorem os_kid {S : Nat → Prop} {w : World} {f x : Tr} {k n : Int} {fa : Option Addr} {fl fc : Nat} (h : Os S w f (.agg #[.int .i64 k, .int .i64 n, .slice fa fl fc])) (hks : f.ks = [x]) (hsl : ∀ u v, Os S w u v → ∃ a l c, v = .agg #[.int .i64 u.k, .int .i64 u.n, .slice a l c]) :
    ∃ fb a1 l1 p1, fa = some ⟨fb, 0, none⟩ ∧ fl = 1 ∧ fb < w.heap.size ∧ S fb ∧ w.cell? ⟨fb, 0, none⟩ = some (.int .i64 x.k) ∧ w.cell? ⟨fb, 1, none⟩ = some (.int .i64 x.n) ∧ w.cell? ⟨fb, 2, none⟩ = some (.slice a1 l1 p1) ∧ Os S w x (.agg #[.int .i64 x.k, .int .i64 x.n, .slice a1 l1 p1]) := by
  obtain ⟨k0, n0, ks⟩ := f
  dsimp only at hks
  subst hks
  obtain ⟨ao, cap, e, _, hc⟩ := (os_eq _ _ _ _ _ _).1 h
  obtain ⟨b, c, s, ⟨e1, hS, hh, c0, c1, c2⟩, ho⟩ := hc 0 (by simp)
  obtain ⟨a1, l1, p1, es⟩ := hsl _ _ ho
  simp at e es
  obtain ⟨_, _, rfl, rfl, rfl⟩ := e
  subst es
  exact ⟨b, a1, l1, p1, e1, rfl, blk_lt hh, hS, by rw [Joins.cell_of_block hh]; exact c0, by rw [Joins.cell_of_block hh]; exact c1, by rw [Joins.cell_of_block hh]; exact c2, ho⟩
end Go.Proofs.YtoaccmblaifnmaaDoor
