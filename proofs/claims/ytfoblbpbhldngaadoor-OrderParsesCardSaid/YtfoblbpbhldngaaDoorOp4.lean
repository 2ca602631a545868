/-
  A list of one's own, one order more: a step of a region that draws its order.
-/
import Derived.Test.YtfoblbpbhldngaaDoorOp3
import Derived.Test.YtfoblbpbhldngaaDoorSap
import Derived.Deep.RegionHeldLaw
namespace Go.Proofs.YtfoblbpbhldngaaDoor
open Flo Go.RowKit Tr
theorem step_row {ops : Array Oper} {o : Oper} {a : Act} {w : World} {K : Act → World → Prop} {Q : Exit → Act → World → Prop} {E : Prop}
    (hg : o.guard = none) (s x : Operand) (hop : o.op = Op.call { callee := Callee.builtin Builtin.append, args := #[s, x], argTypes := #[23, 23] })
    (B b n c0 : Nat) (xs : List Value) (hs : a.eval s = .slice (some ⟨b, 0, none⟩) n c0) (hown : w.ownsRow B 25 3 (.slice (some ⟨b, 0, none⟩) n c0) n xs)
    (fb fc : Nat) (k1 n1 : Int) (a1 : Option Addr) (l1 p1 : Nat) (hx : a.eval x = .slice (some ⟨fb, 0, none⟩) 1 fc) (h0 : w.cell? ⟨fb, 0, none⟩ = some (.int .i64 k1)) (h1 : w.cell? ⟨fb, 1, none⟩ = some (.int .i64 n1)) (h2 : w.cell? ⟨fb, 2, none⟩ = some (.slice a1 l1 p1)) (hn : n ≤ 5) (hB : B ≤ w.heap.size)
    (hK : ∀ r c w', w'.ownsRow B 25 3 (.slice (some ⟨r, 0, none⟩) (n + 1) c) (n + 1) (xs ++ [.int .i64 k1, .int .i64 n1, .slice a1 l1 p1]) → w.grownBy w' (some b) → K (a.put o.dst (.slice (some ⟨r, 0, none⟩) (n + 1) c)) w') :
    if Region.wanted o (yielded ops a.tmps) = true then Oper.wp Tryd.prog o a w K Q else E := by
  obtain ⟨i0, hi0, iz0, iz1, iz2⟩ := info_o
  refine step_app hg s x _ hop B 25 i0 (.agg #[.int .i64 0, .int .i64 0, .slice none 0 0]) 3 40 Tryd.underlying23 hi0 iz0 iz1 iz2 rfl (by decide) _ n xs hs hown ⟨fb, 0, none⟩ 1 fc [.int .i64 k1, .int .i64 n1, .slice a1 l1 p1] hx rfl (fun j u hj => ?_) (fun u hu => ?_) (by unfold maxLen; omega) (by omega) hB (fun v' w' q1 q2 => ?_)
  · rw [add_pl]
    match j, hj with
    | 0, hj => rw [h0]; simpa using hj
    | 1, hj => rw [h1]; simpa using hj
    | 2, hj => rw [h2]; simpa using hj
  · simp at hu; rcases hu with rfl | rfl | rfl <;> rfl
  · rcases q1.2 with ⟨e, e0⟩ | ⟨r, cap, cur, e, _⟩
    · omega
    · subst e
      exact hK r cap w' q1 q2
theorem own_e {w : World} {B b : Nat} (hb : B ≤ b) (h : w.heap[b]? = some (.cells #[] 25 (0, 0))) : w.ownsRow B 25 3 (.slice (some ⟨b, 0, none⟩) 0 0) 0 [] := ⟨rfl, .inr ⟨b, 0, #[], rfl, hb, h, Nat.le_refl _, Nat.zero_le _, rfl, rfl⟩⟩
theorem two_new (w : World) (o1 o2 : Obj) : ((w.alloc o1).alloc o2).heap[w.heap.size]? = some o1 ∧ ((w.alloc o1).alloc o2).heap[w.heap.size + 1]? = some o2 := by
  have e : (w.alloc o1).heap.size = w.heap.size + 1 := by simp
  exact ⟨(Below.heap_alloc _ _ _ (by omega)).trans (heap_alloc_new _ _), by rw [← e]; exact heap_alloc_new _ _⟩
theorem step_A {ops : Array Oper} {o : Oper} {a : Act} {W : World} {K : Act → World → Prop} {Q : Exit → Act → World → Prop} {E : Prop}
    (hg : o.guard = none) (s x : Operand) (hop : o.op = Op.call { callee := Callee.builtin Builtin.append, args := #[s, x], argTypes := #[23, 23] })
    (w2 : World) (hB : Below w2.heap.size w2 W) (b bo : Nat) (k1 n1 : Int) (a1 : Option Addr) (l1 p1 : Nat) (hs : a.eval s = .slice (some ⟨b, 0, none⟩) 0 0) (hx : a.eval x = .slice (some ⟨bo, 0, none⟩) 1 1)
    (hb : w2.heap.size ≤ b) (he : W.heap[b]? = some (.cells #[] 25 (0, 0))) (ho : W.heap[bo]? = some (.cells #[.int .i64 k1, .int .i64 n1, .slice a1 l1 p1] 25 (0, 0)))
    (hK : ∀ r c w', w'.ownsRow w2.heap.size 25 3 (.slice (some ⟨r, 0, none⟩) 1 c) 1 [.int .i64 k1, .int .i64 n1, .slice a1 l1 p1] → Below w2.heap.size w2 w' → K (a.put o.dst (.slice (some ⟨r, 0, none⟩) 1 c)) w') :
    if Region.wanted o (yielded ops a.tmps) = true then Oper.wp Tryd.prog o a W K Q else E := by
  refine step_row hg s x hop w2.heap.size b 0 0 [] hs (own_e hb he) bo 1 k1 n1 a1 l1 p1 hx (Joins.cell_of_block ho 0) (Joins.cell_of_block ho 1) (Joins.cell_of_block ho 2) (Nat.zero_le _) hB.size (fun r c w' h1 h2 => hK r c w' h1 (hB.grown h2 hB.size (fun k hk => by have := Option.some.inj hk; omega)))
theorem step_B {ops : Array Oper} {o : Oper} {a : Act} {W : World} {K : Act → World → Prop} {Q : Exit → Act → World → Prop} {E : Prop}
    (hg : o.guard = none) (s x : Operand) (hop : o.op = Op.call { callee := Callee.builtin Builtin.append, args := #[s, x], argTypes := #[23, 23] })
    (w2 : World) (hB : Below w2.heap.size w2 W) (b n c0 fb fc : Nat) (xs : List Value) (k1 n1 : Int) (a1 : Option Addr) (l1 p1 : Nat) (hs : a.eval s = .slice (some ⟨b, 0, none⟩) n c0) (hx : a.eval x = .slice (some ⟨fb, 0, none⟩) 1 fc)
    (hown : W.ownsRow w2.heap.size 25 3 (.slice (some ⟨b, 0, none⟩) n c0) n xs) (h0 : W.cell? ⟨fb, 0, none⟩ = some (.int .i64 k1)) (h1 : W.cell? ⟨fb, 1, none⟩ = some (.int .i64 n1)) (h2 : W.cell? ⟨fb, 2, none⟩ = some (.slice a1 l1 p1)) (hn : n ≤ 5)
    (hK : ∀ r c w', w'.ownsRow w2.heap.size 25 3 (.slice (some ⟨r, 0, none⟩) (n + 1) c) (n + 1) (xs ++ [.int .i64 k1, .int .i64 n1, .slice a1 l1 p1]) → Below w2.heap.size w2 w' → (∀ j, j ≠ b → j < W.heap.size → w'.heap[j]? = W.heap[j]?) → K (a.put o.dst (.slice (some ⟨r, 0, none⟩) (n + 1) c)) w') :
    if Region.wanted o (yielded ops a.tmps) = true then Oper.wp Tryd.prog o a W K Q else E :=
  step_row hg s x hop w2.heap.size b n c0 xs hs hown fb fc k1 n1 a1 l1 p1 hx h0 h1 h2 hn hB.size (fun r c w' q1 q2 => hK r c w' q1 (hB.grown q2 hB.size (fun k hk => by have := Option.some.inj hk; have := (hown.lt b rfl).1; omega)) (fun j hj hl => q2.block j hl (fun e => hj (Option.some.inj e))))
theorem os_kid {S : Nat → Prop} {w : World} {f x : Tr} {k n : Int} {fa : Option Addr} {fl fc : Nat} (h : Os S w f (.agg #[.int .i64 k, .int .i64 n, .slice fa fl fc])) (hks : f.ks = [x]) (hsl : ∀ u v, Os S w u v → ∃ a l c, v = .agg #[.int .i64 u.k, .int .i64 u.n, .slice a l c]) :
    ∃ fb a1 l1 p1, fa = some ⟨fb, 0, none⟩ ∧ fl = 1 ∧ fb < w.heap.size ∧ S fb ∧ w.cell? ⟨fb, 0, none⟩ = some (.int .i64 x.k) ∧ w.cell? ⟨fb, 1, none⟩ = some (.int .i64 x.n) ∧ w.cell? ⟨fb, 2, none⟩ = some (.slice a1 l1 p1) ∧ Os S w x (.agg #[.int .i64 x.k, .int .i64 x.n, .slice a1 l1 p1]) := by
  obtain ⟨k0, n0, ks⟩ := f
  dsimp only at hks
  subst hks
  obtain ⟨ao, cap, e, _, hc⟩ := (os_eq _ _ _ _ _ _).1 h
  obtain ⟨b, c, s, ⟨e1, hS, hh, c0, c1, c2⟩, ho⟩ := hc 0 (by simp)
  obtain ⟨a1, l1, p1, es⟩ := hsl _ _ ho
  simp at e es
  obtain ⟨_, _, rfl, rfl, rfl⟩ := e
  subst es
  exact ⟨b, a1, l1, p1, e1, rfl, blk_lt hh, hS, by rw [Joins.cell_of_block hh]; exact c0, by rw [Joins.cell_of_block hh]; exact c1, by rw [Joins.cell_of_block hh]; exact c2, ho⟩
/-- what stands behind the frame's new Kids -/
structure EN (X : Nat) (wr : World) (F g r R : Nat) (f t : Tr) (r3 c3 : Nat) (wx : World) : Prop where
  k : wx.heap[F]? = some (.cells #[.int .i64 f.k, .int .i64 f.n, .slice (some ⟨r3, 0, none⟩) (f.ks.length + 1) c3] 71 (0, 0))
  b : Below F wr wx
  o : Os (fun b => ((g + 1 ≤ b ∧ b ≠ X) ∧ b ≠ r ∧ b ≠ R ∧ b ≠ R + 1) ∧ b ≠ F) wx ⟨f.k, f.n, f.ks ++ [t]⟩ (.agg #[.int .i64 f.k, .int .i64 f.n, .slice (some ⟨r3, 0, none⟩) (f.ks.length + 1) c3])
theorem en_of {wr w2 w3 : World} {X F g r R r3 c3 : Nat} {f t : Tr} {s0 : Value} {ss : List Value} (hF : wr.heap.size = F) (hFs : w2.heap.size = F + 1) (B2 : Below wr.heap.size wr w2) (K2 : w2.heap[F]? = some (.cells #[.int .i64 f.k, .int .i64 f.n, s0] 71 (0, 0))) (B3 : Below w2.heap.size w2 w3) (hf : fit f.k f.n) (hl : ss.length = (f.ks ++ [t]).length) (hm : f.ks.length ≤ 5)
    (hown : w3.ownsRow w2.heap.size 25 3 (.slice (some ⟨r3, 0, none⟩) (f.ks.length + 1) c3) (f.ks.length + 1) (cso (f.ks ++ [t]) ss)) (hr : r < F) (hR : R + 1 < F) (hg : g < F) (hX : X < F)
    (hk : ∀ (j : Nat) u s, (f.ks ++ [t])[j]? = some u → ss[j]? = some s → Os (fun b => (g + 1 ≤ b ∧ b ≠ X) ∧ b ≠ r ∧ b ≠ R ∧ b ≠ R + 1) wr u (.agg #[.int .i64 u.k, .int .i64 u.n, s])) :
    EN X wr F g r R f t r3 c3 (w3.setCell ⟨F, 2, none⟩ (.slice (some ⟨r3, 0, none⟩) (f.ks.length + 1) c3)) := by
  have hr3 := (hown.lt r3 rfl).1
  have k3 : w3.heap[F]? = some (.cells #[.int .i64 f.k, .int .i64 f.n, s0] 71 (0, 0)) := (B3.block F (by omega)).trans K2
  have hb : ∀ b, b < F → (w3.setCell ⟨F, 2, none⟩ (.slice (some ⟨r3, 0, none⟩) (f.ks.length + 1) c3)).heap[b]? = wr.heap[b]? := fun b hb => by
    rw [sc_blk _ _ _ (show b ≠ F by omega), B3.block b (by omega), B2.block b (by omega)]
  have hll : (f.ks ++ [t]).length = f.ks.length + 1 := by simp
  refine ⟨?_, ⟨B3.os.trans B2.os, B3.tape.trans B2.tape, B3.output.trans B2.output, by rw [sc_size]; exact Nat.le_trans B2.size B3.size, hb⟩, ?_⟩
  · rw [Joins.block_setCell k3]; rfl
  · have h1 := hown.kept (Lib.Hx.grownBy_set (Lib.Hx.grownBy_refl w3 (some F)) ⟨F, 2, none⟩ rfl (.slice (some ⟨r3, 0, none⟩) (f.ks.length + 1) c3)) (.inr (fun e => by have := Option.some.inj e; dsimp only at this; omega))
    rw [← hll] at h1 ⊢
    refine os_row hf hl (by omega) ⟨⟨⟨by omega, by omega⟩, by omega, by omega, by omega⟩, by omega⟩ h1 (fun j u s e1 e2 => ?_)
    exact Os.keep2 (fun b hS hlt => ⟨hS, by omega⟩) (fun b _ hlt => by rw [← hll] at hb; exact hb b (by omega)) _ _ (hk j u s e1 e2)
end Go.Proofs.YtfoblbpbhldngaaDoor
