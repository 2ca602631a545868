/-
  The document's end: a frame with its first Kid, stored back into the list of orders that aren't ended.
-/
import Derived.Test.YtfoblbpbhldngaaDoorOp4
import Derived.Deep.MidRow
namespace Go.Proofs.YtfoblbpbhldngaaDoor
open Flo Go.RowKit Tr
/-- three stores: an order's cells at place i of block b -/
def sf3 (w : World) (b i : Nat) (k n : Int) (s : Value) : World := ((w.setCell ⟨b, i, none⟩ (.int .i64 k)).setCell ⟨b, i + 1, none⟩ (.int .i64 n)).setCell ⟨b, i + 2, none⟩ s
theorem sf3_blk (w : World) (b i : Nat) (k n : Int) (s : Value) {j : Nat} (h : j ≠ b) : (sf3 w b i k n s).heap[j]? = w.heap[j]? := by
  unfold sf3
  rw [sc_blk _ _ _ h, sc_blk _ _ _ h, sc_blk _ _ _ h]
theorem sf3_size (w : World) (b i : Nat) (k n : Int) (s : Value) : (sf3 w b i k n s).heap.size = w.heap.size := by
  unfold sf3
  simp only [sc_size]
theorem infoF3 : (Tryd.prog.info? 71).map (·.size) = some 3 := by kernel_rfl
/-- an order's cells stored into a frame's place, inside a region that draws its order -/
theorem step_back {ops : Array Oper} {o : Oper} {a : Act} {w : World} {K : Act → World → Prop} {Q : Exit → Act → World → Prop} {E : Prop}
    (hg : o.guard = none) (x y : Operand) (ho : o.op = .store 71 x y) (b i : Nat) (k n : Int) (sa : Option Addr) (sl sc : Nat)
    (hx : a.eval x = .pointer (some ⟨b, i, none⟩)) (hy : a.eval y = .agg #[.int .i64 k, .int .i64 n, .slice sa sl sc]) (ht : w.there b i 3)
    (hK : K (a.put o.dst undef) (sf3 w b i k n (.slice sa sl sc))) :
    if Region.wanted o (yielded ops a.tmps) = true then Oper.wp Tryd.prog o a w K Q else E := by
  have hw : Region.wanted o (yielded ops a.tmps) = true := by simp [Region.wanted, hg]
  rw [if_pos hw]
  exact wp_store_mid _ x y ho b i #[.int .i64 k, .int .i64 n, .slice sa sl sc] hx hy ht infoF3 (by simp [Value.oneCell']) hK
theorem take_last {α : Type} {fs : List α} {m : Nat} {f : α} (h : fs[m]? = some f) : fs.take (m + 1) = fs.take m ++ [f] := by
  obtain ⟨h1, h2⟩ := List.getElem?_eq_some_iff.1 h
  rw [List.take_add_one, h]; rfl
theorem set_tail {A : List Value} {n : Nat} (a b c : Value) (c' : Value) (h : A.length = n) : (((A ++ [a, b, c]).set n a).set (n + 1) b).set (n + 2) c' = A ++ [a, b, c'] := by
  subst h
  have e1 : ∀ (B : List Value) (x : Value), (A ++ B).set A.length x = A ++ B.set 0 x := fun B x => by rw [List.set_append_right _ _ (Nat.le_refl _)]; simp
  have e2 : ∀ (B : List Value) (i : Nat) (x : Value), (A ++ B).set (A.length + i) x = A ++ B.set i x := fun B i x => by rw [List.set_append_right _ _ (Nat.le_add_right _ _)]; simp
  rw [e1, e2 _ 1, e2 _ 2]
  rfl
/-- the last frame, with its first Kid -/
theorem Gq.back {X g r m sc : Nat} {w wx : World} {fs : List Tr} {ss : List Value} {f t : Tr} {s' : Value} (h : Gq X (g + 1) w (.slice (some ⟨r, 0, none⟩) fs.length sc) fs ss) (hfm : fs[m]? = some f)
    (hk : ∀ b, b < w.heap.size → b ≠ g → wx.heap[b]? = w.heap[b]?) (hsl : ∃ a l c, s' = .slice a l c)
    (ho : Os (fun b => (g + 1 ≤ b ∧ b ≠ X) ∧ b ≠ r) wx ⟨f.k, f.n, [t]⟩ (.agg #[.int .i64 f.k, .int .i64 f.n, s'])) :
    Gq X (g + 1) (sf3 wx r (m * 3) f.k f.n s') (.slice (some ⟨r, 0, none⟩) (m + 1) sc) (fs.take m ++ [⟨f.k, f.n, [t]⟩]) (ss.take m ++ [s']) := by
  have hm : m < fs.length := (List.getElem?_eq_some_iff.1 hfm).1
  have hm' : m < ss.length := by rw [h.len]; exact hm
  have hsm : ss[m]? = some ss[m] := List.getElem?_eq_getElem hm'
  have hcut := h.cut (n := m + 1) (by omega)
  have hr := hcut.own.lt r rfl
  have e1 := take_last hfm
  have e2 := take_last hsm
  have hl1 : (ss.take m).length = (fs.take m).length := by rw [List.length_take, List.length_take, h.len]
  have hlm : (fs.take m).length = m := by rw [List.length_take]; omega
  have hlm2 : (ss.take m).length = m := by rw [hl1, hlm]
  have own1 : wx.ownsRow (g + 1) 71 3 (.slice (some ⟨r, 0, none⟩) (m + 1) sc) (m + 1) (cso (fs.take m) (ss.take m) ++ [.int .i64 f.k, .int .i64 f.n, ss[m]]) := by
    have h1 := hcut.own
    rw [e1, e2, cso_snoc _ _ _ _ hl1, List.length_append, hlm] at h1
    obtain ⟨h2, h3⟩ := h1
    refine ⟨h2, ?_⟩
    rcases h3 with ⟨e, _⟩ | ⟨r', cap, cur, e, h4, h5, h6⟩
    · simp at e
    · refine .inr ⟨r', cap, cur, e, h4, ?_, h6⟩
      simp only [Value.slice.injEq, Option.some.injEq, Addr.mk.injEq, and_true] at e
      obtain ⟨rfl, _⟩ := e
      exact (hk r hr.2 (by omega)).trans h5
  have s1 := (own1.stored (m * 3) (.int .i64 f.k)).1
  have s2 := (s1.stored (m * 3 + 1) (.int .i64 f.n)).1
  have s3 := (s2.stored (m * 3 + 2) s').1
  rw [set_tail _ _ _ _ (by rw [cso_len _ _ hl1, hlm])] at s3
  have hb : ∀ b, b < w.heap.size → g + 1 ≤ b → b ≠ r → (sf3 wx r (m * 3) f.k f.n s').heap[b]? = w.heap[b]? := fun b h1 h2 h3 => by rw [sf3_blk _ _ _ _ _ _ h3, hk b h1 (by omega)]
  refine ⟨?_, ?_, ?_, fun j u v h1 h2 => ?_, fun j u v h1 h2 => ?_⟩
  · rw [List.length_append, hlm, cso_snoc _ _ _ _ hl1]
    exact s3
  · rw [List.length_append, List.length_append, hl1]; rfl
  · intro x hx
    rcases List.mem_append.1 hx with hx | hx
    · exact h.sl x (List.mem_of_mem_take hx)
    · rw [List.mem_singleton.1 hx]; exact hsl
  · by_cases hj : j < m
    · rw [List.getElem?_append_left (by omega), List.getElem?_take, if_pos hj] at h1 h2
      refine Os.keep2 (fun b hb' hl => hb') (fun b hb' hl => hb b hl hb'.1.1 (fun e => hb'.2 (by rw [e]; rfl))) u _ (h.kid j u v h1 h2)
    · rw [List.getElem?_append_right (by omega), hlm] at h1
      rw [List.getElem?_append_right (by omega), hlm2] at h2
      cases hjj : j - m with
      | succ n => rw [hjj] at h1; simp at h1
      | zero =>
        rw [hjj] at h1 h2
        obtain rfl : (⟨f.k, f.n, [t]⟩ : Tr) = u := by simpa using h1
        obtain rfl : s' = v := by simpa using h2
        exact Os.keep (fun b hb' => ⟨hb'.1, fun e => hb'.2 (Option.some.inj e)⟩) (fun b hb' _ => sf3_blk _ _ _ _ _ _ hb'.2) _ _ ho
  · by_cases hj : j < m
    · rw [List.getElem?_append_left (by omega), List.getElem?_take, if_pos hj] at h1 h2
      exact h.nl j u v h1 h2
    · rw [List.getElem?_append_right (by omega), hlm] at h1
      rw [List.getElem?_append_right (by omega), hlm2] at h2
      cases hjj : j - m with
      | succ n => rw [hjj] at h1; simp at h1
      | zero =>
        rw [hjj] at h1
        obtain rfl : (⟨f.k, f.n, [t]⟩ : Tr) = u := by simpa using h1
        exact .inr ⟨t, rfl⟩
/-- the same in a later world, where besides g only the block R1 was touched -/
theorem Gq.back2 {X g r m sc R1 : Nat} {w wx W' : World} {fs : List Tr} {ss : List Value} {f t : Tr} {s' : Value} (h : Gq X (g + 1) w (.slice (some ⟨r, 0, none⟩) fs.length sc) fs ss) (hfm : fs[m]? = some f)
    (hk : ∀ b, b < w.heap.size → b ≠ g → wx.heap[b]? = w.heap[b]?) (hs : w.heap.size ≤ wx.heap.size) (hsl : ∃ a l c, s' = .slice a l c)
    (ho : Os (fun b => ((g + 1 ≤ b ∧ b ≠ X) ∧ b ≠ r) ∧ b ≠ R1) wx ⟨f.k, f.n, [t]⟩ (.agg #[.int .i64 f.k, .int .i64 f.n, s'])) (hR1 : w.heap.size ≤ R1)
    (hW : ∀ b, b < wx.heap.size → b ≠ g → b ≠ R1 → W'.heap[b]? = (sf3 wx r (m * 3) f.k f.n s').heap[b]?) :
    Gq X (g + 1) W' (.slice (some ⟨r, 0, none⟩) (m + 1) sc) (fs.take m ++ [⟨f.k, f.n, [t]⟩]) (ss.take m ++ [s']) := by
  have h1 := h.back hfm hk hsl (Os.keep (fun b hb => hb.1) (fun _ _ _ => rfl) _ _ ho)
  have hm : m < fs.length := (List.getElem?_eq_some_iff.1 hfm).1
  have hr := h.own.lt r rfl
  have hl1 : (ss.take m).length = (fs.take m).length := by rw [List.length_take, List.length_take, h.len]
  have hlm : (fs.take m).length = m := by rw [List.length_take]; omega
  have hlm2 : (ss.take m).length = m := by rw [hl1, hlm]
  refine ⟨?_, h1.len, h1.sl, fun j u v k1 k2 => ?_, h1.nl⟩
  · obtain ⟨q1, q2⟩ := h1.own
    refine ⟨q1, ?_⟩
    rcases q2 with q2 | ⟨r', cap, cur, e, q3, q4, q5⟩
    · exact .inl q2
    · refine .inr ⟨r', cap, cur, e, q3, ?_, q5⟩
      simp only [Value.slice.injEq, Option.some.injEq, Addr.mk.injEq, and_true] at e
      obtain ⟨rfl, _⟩ := e
      exact (hW r (by omega) (by omega) (by omega)).trans q4
  · by_cases hj : j < m
    · rw [List.getElem?_append_left (by omega), List.getElem?_take, if_pos hj] at k1 k2
      refine Os.keep2 (fun b hb' hl => hb') (fun b hb' hl => ?_) u _ (h.kid j u v k1 k2)
      have hbr : b ≠ r := fun e => hb'.2 (by rw [e]; rfl)
      have := hb'.1.1
      rw [hW b (by omega) (by omega) (by omega), sf3_blk _ _ _ _ _ _ hbr, hk b hl (by omega)]
    · rw [List.getElem?_append_right (by omega), hlm] at k1
      rw [List.getElem?_append_right (by omega), hlm2] at k2
      cases hjj : j - m with
      | succ n => rw [hjj] at k1; simp at k1
      | zero =>
        rw [hjj] at k1 k2
        obtain rfl : (⟨f.k, f.n, [t]⟩ : Tr) = u := by simpa using k1
        obtain rfl : s' = v := by simpa using k2
        refine Os.keep (fun b hb' => ⟨hb'.1.1, fun e => hb'.1.2 (Option.some.inj e)⟩) (fun b hb' hl => ?_) _ _ ho
        have := hb'.1.1.1
        rw [hW b hl (by omega) hb'.2, sf3_blk _ _ _ _ _ _ hb'.1.2]
end Go.Proofs.YtfoblbpbhldngaaDoor
