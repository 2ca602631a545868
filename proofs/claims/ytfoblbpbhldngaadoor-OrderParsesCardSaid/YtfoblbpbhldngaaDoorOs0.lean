/-
  Orders in memory of one's own: their lists lie at the beginning of blocks of a set.
-/
import Derived.Test.YtfoblbpbhldngaaDoorOc1
namespace Go.Proofs.YtfoblbpbhldngaaDoor
open Flo Go.RowKit Tr
/-- a Kid in a block of one's own -/
structure Kon (S : Nat → Prop) (w : World) (ao : Option Addr) (i : Nat) (t : Tr) (b : Nat) (c : Array Value) (s : Value) : Prop where
  at0 : ao = some ⟨b, 0, none⟩
  set : S b
  blk : w.heap[b]? = some (.cells c 25 (0, 0))
  d0 : c[i * 3]? = some (.int .i64 t.k)
  d1 : c[i * 3 + 1]? = some (.int .i64 t.n)
  d2 : c[i * 3 + 2]? = some s
def OsF (S : Nat → Prop) (w : World) : Nat → Tr → Value → Prop
  | 0, _, _ => False
  | m + 1, ⟨k, n, ks⟩, v => ∃ ao cap, v = .agg #[.int .i64 k, .int .i64 n, .slice ao ks.length cap] ∧ (ks.length ≤ 9223372036854775807 ∧ fit k n) ∧ ∀ i (h : i < ks.length), ∃ b c s, Kon S w ao i ks[i] b c s ∧ OsF S w m ks[i] (.agg #[.int .i64 (ks[i]).k, .int .i64 (ks[i]).n, s])
def Os (S : Nat → Prop) (w : World) (t : Tr) (v : Value) : Prop := OsF S w (pt t) t v
theorem osf_pt {S : Nat → Prop} {w : World} (t : Tr) : ∀ m m' v, OsF S w m t v → pt t ≤ m' → OsF S w m' t v := by
  refine Tr.ind (P := fun t => ∀ m m' v, OsF S w m t v → pt t ≤ m' → OsF S w m' t v) (fun k n ks ih m m' v h hm => ?_) t
  cases m with
  | zero => exact h.elim
  | succ m =>
    cases m' with
    | zero => have := pt_pos ⟨k, n, ks⟩; omega
    | succ m' =>
      obtain ⟨ao, cap, rfl, hl, hc⟩ := h
      refine ⟨ao, cap, rfl, hl, fun i hi => ?_⟩
      obtain ⟨b, c, s, K, ho⟩ := hc i hi
      have := pt_kid (k := k) (n := n) (List.getElem_mem hi)
      exact ⟨b, c, s, K, ih _ (List.getElem_mem hi) m m' _ ho (by omega)⟩
theorem os_eq (S : Nat → Prop) (w : World) (k n : Int) (ks : List Tr) (v : Value) : Os S w ⟨k, n, ks⟩ v ↔ ∃ ao cap, v = .agg #[.int .i64 k, .int .i64 n, .slice ao ks.length cap] ∧ (ks.length ≤ 9223372036854775807 ∧ fit k n) ∧ ∀ i (h : i < ks.length), ∃ b c s, Kon S w ao i ks[i] b c s ∧ Os S w ks[i] (.agg #[.int .i64 (ks[i]).k, .int .i64 (ks[i]).n, s]) := by
  constructor
  · intro h
    obtain ⟨ao, cap, rfl, hl, hc⟩ := osf_pt _ _ (pt ⟨k, n, ks⟩ + 1) _ h (Nat.le_succ _)
    refine ⟨ao, cap, rfl, hl, fun i hi => ?_⟩
    obtain ⟨b, c, s, K, ho⟩ := hc i hi
    exact ⟨b, c, s, K, osf_pt _ _ _ _ ho (Nat.le_refl _)⟩
  · rintro ⟨ao, cap, rfl, hl, hc⟩
    have h : OsF S w (pt ⟨k, n, ks⟩ + 1) ⟨k, n, ks⟩ (.agg #[.int .i64 k, .int .i64 n, .slice ao ks.length cap]) := by
      refine ⟨ao, cap, rfl, hl, fun i hi => ?_⟩
      obtain ⟨b, c, s, K, ho⟩ := hc i hi
      exact ⟨b, c, s, K, osf_pt _ _ _ _ ho (Nat.le_of_lt (pt_kid (List.getElem_mem hi)))⟩
    exact osf_pt _ _ _ _ h (Nat.le_refl _)
theorem blk_lt {w : World} {b : Nat} {o : Obj} (h : w.heap[b]? = some o) : b < w.heap.size := (Array.getElem?_eq_some_iff.1 h).1
theorem Os.keep {S S' : Nat → Prop} {w w' : World} (hs : ∀ b, S b → S' b) (hk : ∀ b, S b → b < w.heap.size → w'.heap[b]? = w.heap[b]?) (t : Tr) : ∀ v, Os S w t v → Os S' w' t v := by
  refine Tr.ind (P := fun t => ∀ v, Os S w t v → Os S' w' t v) (fun k n ks ih v h => ?_) t
  rw [os_eq] at h ⊢
  obtain ⟨ao, cap, rfl, hl, hc⟩ := h
  refine ⟨ao, cap, rfl, hl, fun i hi => ?_⟩
  obtain ⟨b, c, s, K, ho⟩ := hc i hi
  exact ⟨b, c, s, ⟨K.at0, hs _ K.set, (hk _ K.set (blk_lt K.blk)).trans K.blk, K.d0, K.d1, K.d2⟩, ih _ (List.getElem_mem hi) _ ho⟩
theorem Os.od {S : Nat → Prop} {w : World} (t : Tr) : ∀ v, Os S w t v → Od w t v := by
  refine Tr.ind (P := fun t => ∀ v, Os S w t v → Od w t v) (fun k n ks ih v h => ?_) t
  rw [os_eq] at h
  rw [od_eq]
  obtain ⟨ao, cap, rfl, hl, hc⟩ := h
  refine ⟨ao, cap, rfl, hl, fun i hi => ?_⟩
  obtain ⟨b, c, s, K, ho⟩ := hc i hi
  have e : ∀ j, w.cell? ⟨b, j, none⟩ = c[j]? := fun j => Joins.cell_of_block K.blk j
  refine ⟨b, 0, s, K.at0, blk_lt K.blk, ?_, ?_, ?_, ih _ (List.getElem_mem hi) _ ho⟩
  · rw [Nat.zero_add, e]; exact K.d0
  · rw [Nat.zero_add, e]; exact K.d1
  · rw [Nat.zero_add, e]; exact K.d2
/-- new blocks -/
def nw (w : World) : Nat → Prop := fun b => w.heap.size ≤ b
theorem Os.gb {S : Nat → Prop} {w w' : World} {g : Nat} {t : Tr} {v : Value} (h : Os S w t v) (hg : w.grownBy w' (some g)) (hS : ∀ b, S b → b ≠ g) : Os S w' t v :=
  Os.keep (fun _ hb => hb) (fun b hb hl => hg.block b hl (fun e => hS b hb (Option.some.inj e))) t v h
theorem Os.bel {S : Nat → Prop} {w w' : World} {t : Tr} {v : Value} (h : Os S w t v) (hg : Below w.heap.size w w') : Os S w' t v :=
  Os.keep (fun _ hb => hb) (fun b _ hl => hg.block b hl) t v h
theorem Os.leaf {S : Nat → Prop} {w : World} {k n : Int} {a : Option Addr} {c : Nat} (h : fit k n) : Os S w ⟨k, n, []⟩ (.agg #[.int .i64 k, .int .i64 n, .slice a 0 c]) := by
  rw [os_eq]
  exact ⟨a, c, rfl, ⟨by simp, h⟩, fun i hi => absurd hi (Nat.not_lt_zero _)⟩
theorem Os.shape {S : Nat → Prop} {w : World} {t : Tr} {v : Value} (h : Os S w t v) : ∃ a c, v = .agg #[.int .i64 t.k, .int .i64 t.n, .slice a t.ks.length c] := by
  obtain ⟨k, n, ks⟩ := t
  rw [os_eq] at h
  obtain ⟨ao, cap, rfl, _⟩ := h
  exact ⟨ao, cap, rfl⟩
theorem Os.fits {S : Nat → Prop} {w : World} {t : Tr} {v : Value} (h : Os S w t v) : fit t.k t.n := by
  obtain ⟨k, n, ks⟩ := t
  rw [os_eq] at h
  obtain ⟨ao, cap, rfl, hl, _⟩ := h
  exact hl.2
/-- an order of two, its list in block b -/
theorem Os.two {S : Nat → Prop} {w : World} {k n : Int} {x y : Tr} {sx sy : Value} {b : Nat} {cap : Nat} (hf : fit k n) (hb : S b)
    (hx : Os S w x (.agg #[.int .i64 x.k, .int .i64 x.n, sx])) (hy : Os S w y (.agg #[.int .i64 y.k, .int .i64 y.n, sy]))
    (hc : w.heap[b]? = some (.cells #[.int .i64 x.k, .int .i64 x.n, sx, .int .i64 y.k, .int .i64 y.n, sy] 25 (0, 0))) : Os S w ⟨k, n, [x, y]⟩ (.agg #[.int .i64 k, .int .i64 n, .slice (some ⟨b, 0, none⟩) 2 cap]) := by
  rw [os_eq]
  refine ⟨_, cap, rfl, ⟨by simp, hf⟩, fun i hi => ?_⟩
  match i, hi with
  | 0, _ => exact ⟨b, _, sx, ⟨rfl, hb, hc, rfl, rfl, rfl⟩, hx⟩
  | 1, _ => exact ⟨b, _, sy, ⟨rfl, hb, hc, rfl, rfl, rfl⟩, hy⟩
theorem Os.one {S : Nat → Prop} {w : World} {k n : Int} {x : Tr} {sx : Value} {b : Nat} {cap : Nat} (hf : fit k n) (hb : S b)
    (hx : Os S w x (.agg #[.int .i64 x.k, .int .i64 x.n, sx]))
    (hc : w.heap[b]? = some (.cells #[.int .i64 x.k, .int .i64 x.n, sx] 25 (0, 0))) : Os S w ⟨k, n, [x]⟩ (.agg #[.int .i64 k, .int .i64 n, .slice (some ⟨b, 0, none⟩) 1 cap]) := by
  rw [os_eq]
  refine ⟨_, cap, rfl, ⟨by simp, hf⟩, fun i hi => ?_⟩
  match i, hi with
  | 0, _ => exact ⟨b, _, sx, ⟨rfl, hb, hc, rfl, rfl, rfl⟩, hx⟩
end Go.Proofs.YtfoblbpbhldngaaDoor
