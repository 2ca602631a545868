/-
  Lists of orders that are grown; the program's partsLeft, copiedByParts.
-/
import Derived.Test.YtoaccmblaifnmaaDoorAa7
import Derived.OwnWalk
import Derived.BigCall
namespace Go.Proofs.YtoaccmblaifnmaaDoor
open Flo Go.RowKit Tr
theorem Os.keep2 {S S' : Nat → Prop} {w w' : World} (hs : ∀ b, S b → b < w.heap.size → S' b) (hk : ∀ b, S b → b < w.heap.size → w'.heap[b]? = w.heap[b]?) (t : Tr) : ∀ v, Os S w t v → Os S' w' t v := by
  refine Tr.ind (P := fun t => ∀ v, Os S w t v → Os S' w' t v) (fun k n ks ih v h => ?_) t
  rw [os_eq] at h ⊢
  obtain ⟨ao, cap, rfl, hl, hc⟩ := h
  refine ⟨ao, cap, rfl, hl, fun i hi => ?_⟩
  obtain ⟨b, c, s, K, ho⟩ := hc i hi
  exact ⟨b, c, s, ⟨K.at0, hs _ K.set (blk_lt K.blk), (hk _ K.set (blk_lt K.blk)).trans K.blk, K.d0, K.d1, K.d2⟩, ih _ (List.getElem_mem hi) _ ho⟩
/-- the cells of a list of orders -/
def cso (ks : List Tr) (ss : List Value) : List Value := (ks.zip ss).flatMap fun p => [.int .i64 p.1.k, .int .i64 p.1.n, p.2]
theorem cso_len : ∀ (ks : List Tr) (ss : List Value), ss.length = ks.length → (cso ks ss).length = ks.length * 3
  | [], _, _ => by simp [cso]
  | t :: ks, [], h => by simp at h
  | t :: ks, s :: ss, h => by
    have := cso_len ks ss (by simpa using h)
    show ([Value.int .i64 t.k, .int .i64 t.n, s] ++ cso ks ss).length = _
    rw [List.length_append, this]
    simp only [List.length_cons, List.length_nil]; omega
theorem cso_snoc (ks : List Tr) (ss : List Value) (t : Tr) (s : Value) (h : ss.length = ks.length) : cso (ks ++ [t]) (ss ++ [s]) = cso ks ss ++ [.int .i64 t.k, .int .i64 t.n, s] := by
  unfold cso
  rw [List.zip_append h.symm]
  simp
theorem cso_at : ∀ (ks : List Tr) (ss : List Value) (i j : Nat) (t : Tr) (s : Value), ss.length = ks.length → ks[i]? = some t → ss[i]? = some s → j < 3 → (cso ks ss)[i * 3 + j]? = [Value.int .i64 t.k, .int .i64 t.n, s][j]?
  | [], _, _, _, _, _, _, h, _, _ => by simp at h
  | _ :: _, [], _, _, _, _, h, _, _, _ => by simp at h
  | t0 :: ks, s0 :: ss, 0, j, t, s, _, h1, h2, hj => by
    have e1 : t0 = t := by simpa using h1
    have e2 : s0 = s := by simpa using h2
    subst e1; subst e2
    show ([Value.int .i64 t0.k, .int .i64 t0.n, s0] ++ cso ks ss)[0 * 3 + j]? = _
    rw [Nat.zero_mul, Nat.zero_add, List.getElem?_append_left (by simpa using hj)]
  | t0 :: ks, s0 :: ss, i + 1, j, t, s, h, h1, h2, hj => by
    show ([Value.int .i64 t0.k, .int .i64 t0.n, s0] ++ cso ks ss)[(i + 1) * 3 + j]? = _
    rw [List.getElem?_append_right (by simp; omega)]
    have := cso_at ks ss i j t s (by simpa using h) (by simpa using h1) (by simpa using h2) hj
    rw [← this]
    congr 1
    simp; omega
/-- a list of orders that grows, in a row of its own; the orders lie elsewhere -/
structure Gr (B : Nat) (w : World) (kv : Value) (ks : List Tr) (ss : List Value) : Prop where
  own : w.ownsRow B 24 3 kv ks.length (cso ks ss)
  len : ss.length = ks.length
  sl : ∀ s ∈ ss, ∃ a l c, s = .slice a l c
  kid : ∀ (j : Nat) t s, ks[j]? = some t → ss[j]? = some s → Os (fun b => B ≤ b ∧ some b ≠ kv.ownBlock) w t (.agg #[.int .i64 t.k, .int .i64 t.n, s])
theorem Gr.nil (B : Nat) (w : World) : Gr B w (.slice none 0 0) [] [] := ⟨World.ownsRow_nil _ _ _ _, rfl, (fun s h => by cases h), fun j t s h => by simp at h⟩
theorem Gr.bel {B : Nat} {w w' : World} {kv : Value} {ks : List Tr} {ss : List Value} (h : Gr B w kv ks ss) (hb : Below w.heap.size w w') : Gr B w' kv ks ss :=
  ⟨h.own.kept (below_gb hb none) (by cases hv : kv.ownBlock with | none => exact .inl rfl | some b => exact .inr (by simp)), h.len, h.sl, fun j t s h1 h2 => (h.kid j t s h1 h2).bel hb⟩
/-- one more, which lies in new blocks -/
theorem Gr.snoc {B : Nat} {w1 w2 w3 w' : World} {kv kv' : Value} {ks : List Tr} {ss : List Value} {t : Tr} {s : Value} {a : Option Addr} {l c : Nat} (h : Gr B w1 kv ks ss) (hB : B ≤ w1.heap.size) (b12 : Below w1.heap.size w1 w2) (ho : Os (nw w1) w2 t (.agg #[.int .i64 t.k, .int .i64 t.n, s])) (hs : s = .slice a l c)
    (b23 : Below w2.heap.size w2 w3) (hown : w'.ownsRow B 24 3 kv' (ks.length + 1) (cso ks ss ++ [.int .i64 t.k, .int .i64 t.n, s])) (hg : w3.grownBy w' kv.ownBlock) (hnew : ∀ b, kv'.ownBlock = some b → kv.ownBlock = some b ∨ w3.heap.size ≤ b) : Gr B w' kv' (ks ++ [t]) (ss ++ [s]) := by
  have hkeep : ∀ (u : Tr) (v : Value) (W : World) (S : Nat → Prop), (∀ b, S b → b < W.heap.size → B ≤ b ∧ some b ≠ kv.ownBlock) → (Below W.heap.size W w3) → Os S W u v → Os (fun b => B ≤ b ∧ some b ≠ kv'.ownBlock) w' u v := fun u v W S hS hW hO => by
    refine Os.keep2 (fun b hb hl => ?_) (fun b hb hl => ?_) u v hO
    · obtain ⟨h1, h2⟩ := hS b hb hl
      refine ⟨h1, fun e => ?_⟩
      rcases hnew b e.symm with h3 | h3
      · exact h2 h3.symm
      · have := hW.size; omega
    · obtain ⟨h1, h2⟩ := hS b hb hl
      rw [hg.block b (Nat.lt_of_lt_of_le hl hW.size) h2]
      exact hW.block b hl
  refine ⟨by rw [cso_snoc _ _ _ _ h.len, List.length_append]; exact hown, by simp [h.len], (fun x hx => ?_), fun j u v h1 h2 => ?_⟩
  · rcases List.mem_append.1 hx with hx | hx
    · exact h.sl x hx
    · rw [List.mem_singleton.1 hx]; exact ⟨a, l, c, hs⟩
  · by_cases hj : j < ks.length
    · rw [List.getElem?_append_left hj] at h1
      rw [List.getElem?_append_left (by rw [h.len]; exact hj)] at h2
      refine hkeep u _ w1 _ (fun b hb _ => hb) (btr b12 b23) (h.kid j u v h1 h2)
    · rw [List.getElem?_append_right (by omega)] at h1
      rw [List.getElem?_append_right (by rw [h.len]; omega)] at h2
      rw [h.len] at h2
      cases hjj : j - ks.length with
      | succ n => rw [hjj] at h1; simp at h1
      | zero =>
        rw [hjj] at h1 h2
        obtain rfl : t = u := by simpa using h1
        obtain rfl : s = v := by simpa using h2
        refine hkeep t _ w2 (nw w1) (fun b hb _ => ?_) b23 ho
        have h3 : w1.heap.size ≤ b := hb
        refine ⟨by omega, fun e => ?_⟩
        have := (h.own.lt b e.symm).2
        omega
/-- the whole of it -/
theorem Gr.os {B : Nat} {w : World} {kv : Value} {ks : List Tr} {ss : List Value} {k n : Int} (h : Gr B w kv ks ss) (hf : fit k n) (hl : ks.length ≤ 9223372036854775807) : Os (fun b => B ≤ b) w ⟨k, n, ks⟩ (.agg #[.int .i64 k, .int .i64 n, kv]) ∧ ∃ a c, kv = .slice a ks.length c := by
  have hsh : ∃ a c, kv = .slice a ks.length c := by
    rcases h.own.2 with ⟨e, e0⟩ | ⟨g, cap, cur, e, _⟩
    · exact ⟨none, 0, by rw [e, e0]⟩
    · exact ⟨_, _, e⟩
  refine ⟨?_, hsh⟩
  rw [os_eq]
  obtain ⟨a, c, e⟩ := hsh
  refine ⟨a, c, by rw [e], ⟨hl, hf⟩, fun i hi => ?_⟩
  have hi1 : ks[i]? = some ks[i] := List.getElem?_eq_getElem hi
  have hi' : i < ss.length := by rw [h.len]; exact hi
  have hi2 : ss[i]? = some ss[i] := List.getElem?_eq_getElem hi'
  rcases h.own.2 with ⟨_, e0⟩ | ⟨g, cap, cur, e', hbg, hh, hnc, _, hsz, htk⟩
  · omega
  · rw [e'] at e
    simp only [Value.slice.injEq] at e
    obtain ⟨e1, _, _⟩ := e
    have hc : ∀ j, j < 3 → cur[i * 3 + j]? = [Value.int .i64 ks[i].k, .int .i64 ks[i].n, ss[i]][j]? := fun j hj => by
      rw [← cso_at ks ss i j _ _ h.len hi1 hi2 hj, ← htk, List.getElem?_take, if_pos (by omega)]; simp
    refine ⟨g, cur, ss[i], ⟨e1.symm, hbg, hh, ?_, ?_, ?_⟩, Os.keep (fun b hb => hb.1) (fun _ _ _ => rfl) _ _ (h.kid i _ _ hi1 hi2)⟩
    · have := hc 0 (by decide); rw [Nat.add_zero] at this; exact this
    · exact hc 1 (by decide)
    · exact hc 2 (by decide)
end Go.Proofs.YtoaccmblaifnmaaDoor
