/-
  The document's end: the pieces in memory.
-/
import Derived.Test.YtfoblbpbhldngaaDoorOp2
namespace Go.Proofs.YtfoblbpbhldngaaDoor
open Flo Go.RowKit Tr
theorem cso_take : ∀ (fs : List Tr) (ss : List Value) (n : Nat), cso (fs.take n) (ss.take n) = (cso fs ss).take (n * 3)
  | [], ss, n => by simp [cso]
  | t :: fs, [], n => by cases n <;> simp [cso]
  | t :: fs, s :: ss, 0 => by simp [cso]
  | t :: fs, s :: ss, n + 1 => by
    have := cso_take fs ss n
    show [Value.int .i64 t.k, .int .i64 t.n, s] ++ cso (fs.take n) (ss.take n) = ([Value.int .i64 t.k, .int .i64 t.n, s] ++ cso fs ss).take ((n + 1) * 3)
    have e3 : (n + 1) * 3 = n * 3 + 1 + 1 + 1 := by omega
    rw [this, e3]
    rfl
/-- the first n of them -/
theorem Gq.cut {X B : Nat} {w : World} {sa : Option Addr} {sc : Nat} {fs : List Tr} {ss : List Value} {n : Nat} (h : Gq X B w (.slice sa fs.length sc) fs ss) (hn : n ≤ fs.length) : Gq X B w (.slice sa n sc) (fs.take n) (ss.take n) := by
  have hl : (fs.take n).length = n := by rw [List.length_take]; omega
  have hls : (ss.take n).length = (fs.take n).length := by rw [List.length_take, List.length_take, h.len]
  refine ⟨⟨cso_len _ _ hls, ?_⟩, hls, (fun s hs => h.sl s (List.mem_of_mem_take hs)), (fun j t s h1 h2 => ?_), fun j t s h1 h2 => ?_⟩
  · rw [hl]
    rcases h.own.2 with ⟨e, e0⟩ | ⟨r, cap, cur, e, h1, h2, h3, h4, h5, h6⟩
    · simp only [Value.slice.injEq] at e
      left
      exact ⟨by rw [e.1, e.2.2, show n = 0 by omega], by omega⟩
    · simp only [Value.slice.injEq] at e
      right
      refine ⟨r, cap, cur, by rw [e.1, e.2.2], h1, h2, by omega, h4, h5, ?_⟩
      rw [cso_take, ← h6, List.take_take, Nat.min_eq_left (by omega)]
  · have hj : j < n := by have := (List.getElem?_eq_some_iff.1 h1).1; omega
    rw [List.getElem?_take, if_pos hj] at h1 h2
    have := h.kid j t s h1 h2
    exact Os.keep (fun b hb => ⟨hb.1, by cases sa <;> exact hb.2⟩) (fun _ _ _ => rfl) _ _ this
  · have hj : j < n := by have := (List.getElem?_eq_some_iff.1 h1).1; omega
    rw [List.getElem?_take, if_pos hj] at h1 h2
    exact h.nl j t s h1 h2
/-- the cells of the last one, and where its Kids lie -/
theorem Gq.last {X B : Nat} {w : World} {sa : Option Addr} {sc : Nat} {fs : List Tr} {ss : List Value} {m : Nat} {f : Tr} (h : Gq X B w (.slice sa fs.length sc) fs ss) (hf : fs[m]? = some f) : ∃ r s, sa = some ⟨r, 0, none⟩ ∧ B ≤ r ∧ r < w.heap.size ∧ ss[m]? = some s ∧ (∃ a l c, s = .slice a l c) ∧ w.cell? ⟨r, m * 3, none⟩ = some (.int .i64 f.k) ∧ w.cell? ⟨r, m * 3 + 1, none⟩ = some (.int .i64 f.n) ∧ w.cell? ⟨r, m * 3 + 2, none⟩ = some s ∧ (∃ cur, w.heap[r]? = some (.cells cur 71 (0, 0)) ∧ fs.length * 3 ≤ cur.size) ∧ fs.length ≤ sc ∧ Os (fun b => (B ≤ b ∧ b ≠ X) ∧ b ≠ r) w f (.agg #[.int .i64 f.k, .int .i64 f.n, s]) := by
  have hm : m < fs.length := (List.getElem?_eq_some_iff.1 hf).1
  have hm' : m < ss.length := by rw [h.len]; exact hm
  have hs : ss[m]? = some ss[m] := List.getElem?_eq_getElem hm'
  rcases h.own.2 with ⟨e, e0⟩ | ⟨r, cap, cur, e, h1, h2, h3, h4, h5, h6⟩
  · omega
  · simp only [Value.slice.injEq] at e
    obtain ⟨ea, _, ec⟩ := e
    have hc : ∀ j, j < 3 → w.cell? ⟨r, m * 3 + j, none⟩ = [Value.int .i64 f.k, .int .i64 f.n, ss[m]][j]? := fun j hj => by
      rw [← cso_at fs ss m j _ _ h.len hf hs hj, ← h6, List.getElem?_take, if_pos (by omega), Joins.cell_of_block h2]; simp
    refine ⟨r, ss[m], ea, h1, blk_lt h2, hs, h.sl _ (List.getElem_mem hm'), ?_, hc 1 (by decide), hc 2 (by decide), ⟨cur, h2, by rw [h5]; omega⟩, by rw [ec]; exact h3, ?_⟩
    · have := hc 0 (by decide); rw [Nat.add_zero] at this; exact this
    · refine Os.keep (fun b hb => ⟨hb.1, fun e2 => hb.2 ?_⟩) (fun _ _ _ => rfl) _ _ (h.kid m f _ hf hs)
      rw [ea, e2]; rfl
/-- a list of one's own becomes an order's Kids -/
theorem os_row {S : Nat → Prop} {w : World} {B r cap : Nat} {k n : Int} {ks : List Tr} {ss : List Value} (hf : fit k n) (hl : ss.length = ks.length) (hmax : ks.length ≤ 9223372036854775807) (hr : S r) (hown : w.ownsRow B 25 3 (.slice (some ⟨r, 0, none⟩) ks.length cap) ks.length (cso ks ss))
    (hk : ∀ (j : Nat) t s, ks[j]? = some t → ss[j]? = some s → Os S w t (.agg #[.int .i64 t.k, .int .i64 t.n, s])) : Os S w ⟨k, n, ks⟩ (.agg #[.int .i64 k, .int .i64 n, .slice (some ⟨r, 0, none⟩) ks.length cap]) := by
  rw [os_eq]
  refine ⟨_, cap, rfl, ⟨hmax, hf⟩, fun i hi => ?_⟩
  have hi1 : ks[i]? = some ks[i] := List.getElem?_eq_getElem hi
  have hi' : i < ss.length := by rw [hl]; exact hi
  have hi2 : ss[i]? = some ss[i] := List.getElem?_eq_getElem hi'
  rcases hown.2 with ⟨e, _⟩ | ⟨g, cap', cur, e', hbg, hh, hnc, _, hsz, htk⟩
  · simp at e
  · simp only [Value.slice.injEq, Option.some.injEq, Addr.mk.injEq] at e'
    obtain ⟨⟨rfl, _⟩, _, rfl⟩ := e'
    have hc : ∀ j, j < 3 → cur[i * 3 + j]? = [Value.int .i64 ks[i].k, .int .i64 ks[i].n, ss[i]][j]? := fun j hj => by
      rw [← cso_at ks ss i j _ _ hl hi1 hi2 hj, ← htk, List.getElem?_take, if_pos (by omega)]; simp
    refine ⟨r, cur, ss[i], ⟨rfl, hr, hh, ?_, ?_, ?_⟩, hk i _ _ hi1 hi2⟩
    · have := hc 0 (by decide); rw [Nat.add_zero] at this; exact this
    · exact hc 1 (by decide)
    · exact hc 2 (by decide)
end Go.Proofs.YtfoblbpbhldngaaDoor
