/-
  The program's reader: an order that begins here.
-/
import Derived.Test.YtoaccmblaifnmaaDoorAa6
import Derived.RegionDies
namespace Go.Proofs.YtoaccmblaifnmaaDoor
open Flo Go.RowKit Tr
/-- an order's variable -/
structure Bo (w : World) (b : Nat) (k n : Int) (s : Value) : Prop where
  b : w.heap[b]? = some (.cells #[.int .i64 k, .int .i64 n, s] 24 (0, 0))
namespace Bo
theorem c0 {w : World} {b : Nat} {k n : Int} {s : Value} (h : Bo w b k n s) : w.cell? ⟨b, 0, none⟩ = some (.int .i64 k) := by rw [Joins.cell_of_block h.b]; rfl
theorem c1 {w : World} {b : Nat} {k n : Int} {s : Value} (h : Bo w b k n s) : w.cell? ⟨b, 1, none⟩ = some (.int .i64 n) := by rw [Joins.cell_of_block h.b]; rfl
theorem c2 {w : World} {b : Nat} {k n : Int} {s : Value} (h : Bo w b k n s) : w.cell? ⟨b, 2, none⟩ = some s := by rw [Joins.cell_of_block h.b]; rfl
theorem fz {w : World} {b : Nat} {k n : Int} {s : Value} (h : Bo w b k n s) (i : Nat) : w.frozen? ⟨b, i, none⟩ = false := Joins.unfrozen_of_block h.b i
theorem lt {w : World} {b : Nat} {k n : Int} {s : Value} (h : Bo w b k n s) : b < w.heap.size := blk_lt h.b
theorem new (w : World) (k n : Int) (s : Value) : Bo (w.alloc (.cells #[.int .i64 k, .int .i64 n, s] 24)) w.heap.size k n s := ⟨heap_alloc_new _ _⟩
theorem gb {w w' : World} {b g : Nat} {k n : Int} {s : Value} (h : Bo w b k n s) (hg : w.grownBy w' (some g)) (hne : b ≠ g) : Bo w' b k n s := ⟨(hg.block b h.lt (fun e => hne (Option.some.inj e))).trans h.b⟩
theorem bel {w w' : World} {b : Nat} {k n : Int} {s : Value} (h : Bo w b k n s) (hb : Below w.heap.size w w') : Bo w' b k n s := ⟨(hb.block b h.lt).trans h.b⟩
theorem dr {w : World} {b : Nat} {k n : Int} {s : Value} (h : Bo w b k n s) (i : Nat) : Bo (w.drewN i) b k n s := ⟨h.b⟩
end Bo
theorem pa_le (l : List UInt8) {p : Nat} (h : p ≤ l.length) : p ≤ (Ps.pa l p).2 ∧ (Ps.pa l p).2 ≤ l.length := by
  have := Ps.po_le (l.length + 1) (l.drop p)
  rw [List.length_drop] at this
  unfold Ps.pa
  exact ⟨Nat.le_add_right _ _, by show p + _ ≤ _; omega⟩
def RE2 (g : Nat) (l : List UInt8) (a : Addr) (w : World) (o : Option Tr) (q : Nat) (e : Ending) (w' : World) : Prop :=
  Rz w' g l q ∧ w.grownBy w' (some g) ∧ (∀ t, o = some t → ∃ v, e = .returned v ∧ Os (nw w) w' t v) ∧ (o = none → e = .panicked (pan a))
def OC (l : List UInt8) (a : Addr) (m : Nat) : Prop := ∀ (p g : Nat) (w : World), Rz w g l p → Et w a → 3 < g → p ≤ l.length → l.length - p < m →
  Calls Tryd.prog 66 #[.pointer (some ⟨g, 0, none⟩)] w (RE2 g l a w (Ps.pa l p).1 (Ps.pa l p).2)
theorem below_gb {w w' : World} (h : Below w.heap.size w w') (g : Option Nat) : w.grownBy w' g := ⟨h.os, h.tape, h.output, h.size, fun i hi _ => h.block i hi⟩
set_option maxRecDepth 100000 in
theorem direct_c (n : Int) (w : World) : Calls Tryd.prog 39 #[.int .i64 n] w fun e w' => e = .returned (.agg #[.int .i64 1, .int .i64 n, .slice none 0 0]) ∧ Below w.heap.size w w' := by
  have hB : Hid (∀ x, Below w.heap.size w (w.alloc x)) := fun x => (Below.refl _ _).alloc (Nat.le_refl _) _
  go_enter Tryd.func39, Tryd.ntmps39
  go_wp2_with fail
  refine bodyPost_ret (v := .agg #[.int .i64 1, .int .i64 n, .slice none 0 0]) (by simp [results, Tryd.results39, go_sem]) rfl ?_
  exact ⟨rfl, hB.out _⟩
set_option maxRecDepth 100000 in
theorem fly_c (n : Int) (w : World) : Calls Tryd.prog 38 #[.int .i64 n] w fun e w' => e = .returned (.agg #[.int .i64 2, .int .i64 n, .slice none 0 0]) ∧ Below w.heap.size w w' := by
  have hB : Hid (∀ x, Below w.heap.size w (w.alloc x)) := fun x => (Below.refl _ _).alloc (Nat.le_refl _) _
  go_enter Tryd.func38, Tryd.ntmps38
  go_wp2_with fail
  refine bodyPost_ret (v := .agg #[.int .i64 2, .int .i64 n, .slice none 0 0]) (by simp [results, Tryd.results38, go_sem]) rfl ?_
  exact ⟨rfl, hB.out _⟩
/-- six stores: into the variable, then into the result -/
def st6 (w : World) (G : Nat) (k n : Int) (s : Value) : World := (((((w.setCell ⟨G + 1, 0, none⟩ (.int .i64 k)).setCell ⟨G + 1, 1, none⟩ (.int .i64 n)).setCell ⟨G + 1, 2, none⟩ s).setCell ⟨G, 0, none⟩ (.int .i64 k)).setCell ⟨G, 1, none⟩ (.int .i64 n)).setCell ⟨G, 2, none⟩ s
theorem sc_blk (w : World) {b j : Nat} (i : Nat) (v : Value) (h : j ≠ b) : (w.setCell ⟨b, i, none⟩ v).heap[j]? = w.heap[j]? := by
  by_cases hj : j < w.heap.size
  · exact (Lib.Hx.grownBy_set (Lib.Hx.grownBy_refl w (some b)) ⟨b, i, none⟩ rfl v).block j hj (fun e => h (Option.some.inj e))
  · have h1 : (w.setCell ⟨b, i, none⟩ v).heap.size = w.heap.size := by simp [World.setCell]
    rw [Array.getElem?_eq_none (by rw [h1]; omega), Array.getElem?_eq_none (by omega)]
theorem sc_size (w : World) (a : Addr) (v : Value) : (w.setCell a v).heap.size = w.heap.size := by simp [World.setCell]
theorem st6_blk (w : World) (G : Nat) (k n : Int) (s : Value) {j : Nat} (h0 : j ≠ G) (h1 : j ≠ G + 1) : (st6 w G k n s).heap[j]? = w.heap[j]? := by
  unfold st6
  rw [sc_blk _ _ _ h0, sc_blk _ _ _ h0, sc_blk _ _ _ h0, sc_blk _ _ _ h1, sc_blk _ _ _ h1, sc_blk _ _ _ h1]
theorem st6_size (w : World) (G : Nat) (k n : Int) (s : Value) : (st6 w G k n s).heap.size = w.heap.size := by
  unfold st6
  simp only [sc_size]
theorem sc_gb {w w5 : World} {g b : Nat} (i : Nat) (v : Value) (hb : w.heap.size ≤ b) (hg : w.grownBy w5 (some g)) : w.grownBy (w5.setCell ⟨b, i, none⟩ v) (some g) :=
  ⟨hg.os, hg.tape, hg.output, by rw [sc_size]; exact hg.size, fun j hj hn => by rw [sc_blk _ _ _ (by omega)]; exact hg.block j hj hn⟩
theorem st6_gb {w w5 : World} {g G : Nat} {k n : Int} {s : Value} (hG : w.heap.size = G) (hg : w.grownBy w5 (some g)) : w.grownBy (st6 w5 G k n s) (some g) :=
  sc_gb _ _ (by omega) (sc_gb _ _ (by omega) (sc_gb _ _ (by omega) (sc_gb _ _ (by omega) (sc_gb _ _ (by omega) (sc_gb _ _ (by omega) hg)))))
theorem fin6 {w w5 : World} {g G : Nat} {l : List UInt8} {a : Addr} {PO : Option Tr} {PQ : Nat} {t : Tr} {k n : Int} {s : Value} (hG : w.heap.size = G) (hz : Rz w5 g l PQ) (hg : w.grownBy w5 (some g)) (hgG : g < G)
    (ho : Os (fun b => G + 2 ≤ b) w5 t (.agg #[.int .i64 k, .int .i64 n, s])) (hPO : PO = some t) : RE2 g l a w PO PQ (.returned (.agg #[.int .i64 k, .int .i64 n, s])) (st6 w5 G k n s) := by
  refine ⟨⟨by rw [st6_blk _ _ _ _ _ (by omega) (by omega)]; exact hz.b⟩, st6_gb hG hg, fun t' h => ?_, fun h => by rw [hPO] at h; cases h⟩
  rw [hPO] at h
  cases h
  refine ⟨_, rfl, Os.keep (fun b hb => ?_) (fun b hb _ => st6_blk _ _ _ _ _ (by omega) (by omega)) _ _ ho⟩
  show w.heap.size ≤ b
  omega
/-- three stores into a variable -/
def st3 (w : World) (b : Nat) (k n : Int) (s : Value) : World := ((w.setCell ⟨b, 0, none⟩ (.int .i64 k)).setCell ⟨b, 1, none⟩ (.int .i64 n)).setCell ⟨b, 2, none⟩ s
theorem st3_blk (w : World) (b : Nat) (k n : Int) (s : Value) {j : Nat} (h : j ≠ b) : (st3 w b k n s).heap[j]? = w.heap[j]? := by
  unfold st3
  rw [sc_blk _ _ _ h, sc_blk _ _ _ h, sc_blk _ _ _ h]
theorem st3_size (w : World) (b : Nat) (k n : Int) (s : Value) : (st3 w b k n s).heap.size = w.heap.size := by
  unfold st3
  simp only [sc_size]
theorem st3_gb {w w5 : World} {g b : Nat} {k n : Int} {s : Value} (hb : w.heap.size ≤ b) (hg : w.grownBy w5 (some g)) : w.grownBy (st3 w5 b k n s) (some g) := sc_gb _ _ hb (sc_gb _ _ hb (sc_gb _ _ hb hg))
theorem st3_own (w : World) (b : Nat) (k n : Int) (s : Value) : w.grownBy (st3 w b k n s) (some b) := ⟨rfl, rfl, rfl, by rw [st3_size]; exact Nat.le_refl _, fun j _ hn => st3_blk _ _ _ _ _ (fun e => hn (by rw [e]))⟩
theorem st3_bo {w : World} {b : Nat} {k0 n0 : Int} {s0 : Value} (h : Bo w b k0 n0 s0) (k n : Int) (s : Value) : Bo (st3 w b k n s) b k n s := by
  unfold st3
  have h1 := Joins.block_setCell h.b (i := 0) (v := .int .i64 k)
  have h2 := Joins.block_setCell h1 (i := 1) (v := .int .i64 n)
  have h3 := Joins.block_setCell h2 (i := 2) (v := s)
  exact ⟨h3⟩
/-- a list made behind: what stands then -/
theorem al_two {w w7 : World} {g G d : Nat} {l : List UInt8} {a : Addr} {k n : Int} {x y : Tr} {sx sy : Value} (hw : w.heap.size = G) (hgG : g < G) (hf : fit k n) (Z7 : Rz w7 g l d) (G7 : w.grownBy w7 (some g)) (E7 : Et w7 a) (hgE : 3 < g)
    (X7 : Bo w7 G 0 0 (.slice none 0 0)) (Y7 : Bo w7 (G + 1) 0 0 (.slice none 0 0)) (ox : Os (fun b => G + 2 ≤ b) w7 x (.agg #[.int .i64 x.k, .int .i64 x.n, sx])) (oy : Os (fun b => G + 2 ≤ b) w7 y (.agg #[.int .i64 y.k, .int .i64 y.n, sy])) :
    ∃ w8, Hid ((st3 w7 (G + 1) k n (.slice (some ⟨w7.heap.size, 0, none⟩) 2 2)).alloc (.cells #[.int .i64 x.k, .int .i64 x.n, sx, .int .i64 y.k, .int .i64 y.n, sy] 24) = w8) ∧ Hid (Rz w8 g l d) ∧ Hid (w.grownBy w8 (some g)) ∧ Hid (Et w8 a) ∧ Hid (Bo w8 G 0 0 (.slice none 0 0)) ∧ Hid (Bo w8 (G + 1) k n (.slice (some ⟨w7.heap.size, 0, none⟩) 2 2)) ∧ Hid (Os (fun b => G + 2 ≤ b) w8 ⟨k, n, [x, y]⟩ (.agg #[.int .i64 k, .int .i64 n, .slice (some ⟨w7.heap.size, 0, none⟩) 2 2])) := by
  have hy := Y7.lt
  have hk : ∀ j, j < w7.heap.size → j ≠ G + 1 → ((st3 w7 (G + 1) k n (.slice (some ⟨w7.heap.size, 0, none⟩) 2 2)).alloc (.cells #[.int .i64 x.k, .int .i64 x.n, sx, .int .i64 y.k, .int .i64 y.n, sy] 24)).heap[j]? = w7.heap[j]? := fun j hj hn => by
    rw [Below.heap_alloc _ _ j (by rw [st3_size]; exact hj), st3_blk _ _ _ _ _ hn]
  have hg8 : w.grownBy ((st3 w7 (G + 1) k n (.slice (some ⟨w7.heap.size, 0, none⟩) 2 2)).alloc (.cells #[.int .i64 x.k, .int .i64 x.n, sx, .int .i64 y.k, .int .i64 y.n, sy] 24)) (some g) := gb_tr (st3_gb (by omega) G7) (gb_al _ _)
  have hnew : ((st3 w7 (G + 1) k n (.slice (some ⟨w7.heap.size, 0, none⟩) 2 2)).alloc (.cells #[.int .i64 x.k, .int .i64 x.n, sx, .int .i64 y.k, .int .i64 y.n, sy] 24)).heap[w7.heap.size]? = some (.cells #[.int .i64 x.k, .int .i64 x.n, sx, .int .i64 y.k, .int .i64 y.n, sy] 24 (0, 0)) := by
    have := heap_alloc_new (st3 w7 (G + 1) k n (.slice (some ⟨w7.heap.size, 0, none⟩) 2 2)) (.cells #[.int .i64 x.k, .int .i64 x.n, sx, .int .i64 y.k, .int .i64 y.n, sy] 24)
    rw [st3_size] at this; exact this
  refine ⟨_, (rfl : _ = _), ⟨(hk g (by have := Z7.lt; omega) (by omega)).trans Z7.b⟩, hg8, ?_, ⟨(hk G (by omega) (by omega)).trans X7.b⟩, ?_, ?_⟩
  · exact (E7.kept (st3_own w7 (G + 1) k n _) (by omega)).kept (gb_al _ (some g)) hgE
  · exact (st3_bo Y7 k n _).gb (gb_al _ (some g)) (by omega)
  · exact Os.two hf (show G + 2 ≤ _ by omega) (Os.keep (fun _ h => h) (fun b hb hl => hk b hl (by have h1 : G + 2 ≤ b := hb; omega)) _ _ ox) (Os.keep (fun _ h => h) (fun b hb hl => hk b hl (by have h1 : G + 2 ≤ b := hb; omega)) _ _ oy) hnew
theorem al_one {w w7 : World} {g G d : Nat} {l : List UInt8} {a : Addr} {k n : Int} {x : Tr} {sx : Value} (hw : w.heap.size = G) (hgG : g < G) (hf : fit k n) (Z7 : Rz w7 g l d) (G7 : w.grownBy w7 (some g)) (E7 : Et w7 a) (hgE : 3 < g)
    (X7 : Bo w7 G 0 0 (.slice none 0 0)) (Y7 : Bo w7 (G + 1) 0 0 (.slice none 0 0)) (ox : Os (fun b => G + 2 ≤ b) w7 x (.agg #[.int .i64 x.k, .int .i64 x.n, sx])) :
    ∃ w8, Hid ((st3 w7 (G + 1) k n (.slice (some ⟨w7.heap.size, 0, none⟩) 1 1)).alloc (.cells #[.int .i64 x.k, .int .i64 x.n, sx] 24) = w8) ∧ Hid (Rz w8 g l d) ∧ Hid (w.grownBy w8 (some g)) ∧ Hid (Et w8 a) ∧ Hid (Bo w8 G 0 0 (.slice none 0 0)) ∧ Hid (Bo w8 (G + 1) k n (.slice (some ⟨w7.heap.size, 0, none⟩) 1 1)) ∧ Hid (Os (fun b => G + 2 ≤ b) w8 ⟨k, n, [x]⟩ (.agg #[.int .i64 k, .int .i64 n, .slice (some ⟨w7.heap.size, 0, none⟩) 1 1])) := by
  have hy := Y7.lt
  have hk : ∀ j, j < w7.heap.size → j ≠ G + 1 → ((st3 w7 (G + 1) k n (.slice (some ⟨w7.heap.size, 0, none⟩) 1 1)).alloc (.cells #[.int .i64 x.k, .int .i64 x.n, sx] 24)).heap[j]? = w7.heap[j]? := fun j hj hn => by
    rw [Below.heap_alloc _ _ j (by rw [st3_size]; exact hj), st3_blk _ _ _ _ _ hn]
  have hg8 : w.grownBy ((st3 w7 (G + 1) k n (.slice (some ⟨w7.heap.size, 0, none⟩) 1 1)).alloc (.cells #[.int .i64 x.k, .int .i64 x.n, sx] 24)) (some g) := gb_tr (st3_gb (by omega) G7) (gb_al _ _)
  have hnew : ((st3 w7 (G + 1) k n (.slice (some ⟨w7.heap.size, 0, none⟩) 1 1)).alloc (.cells #[.int .i64 x.k, .int .i64 x.n, sx] 24)).heap[w7.heap.size]? = some (.cells #[.int .i64 x.k, .int .i64 x.n, sx] 24 (0, 0)) := by
    have := heap_alloc_new (st3 w7 (G + 1) k n (.slice (some ⟨w7.heap.size, 0, none⟩) 1 1)) (.cells #[.int .i64 x.k, .int .i64 x.n, sx] 24)
    rw [st3_size] at this; exact this
  refine ⟨_, (rfl : _ = _), ⟨(hk g (by have := Z7.lt; omega) (by omega)).trans Z7.b⟩, hg8, ?_, ⟨(hk G (by omega) (by omega)).trans X7.b⟩, ?_, ?_⟩
  · exact (E7.kept (st3_own w7 (G + 1) k n _) (by omega)).kept (gb_al _ (some g)) hgE
  · exact (st3_bo Y7 k n _).gb (gb_al _ (some g)) (by omega)
  · exact Os.one hf (show G + 2 ≤ _ by omega) (Os.keep (fun _ h => h) (fun b hb hl => hk b hl (by have h1 : G + 2 ≤ b := hb; omega)) _ _ ox) hnew
theorem fin3 {w w5 : World} {g G : Nat} {l : List UInt8} {a : Addr} {PO : Option Tr} {PQ : Nat} {t : Tr} {k n : Int} {s : Value} (hG : w.heap.size = G) (hz : Rz w5 g l PQ) (hg : w.grownBy w5 (some g)) (hgG : g < G)
    (ho : Os (fun b => G + 2 ≤ b) w5 t (.agg #[.int .i64 k, .int .i64 n, s])) (hPO : PO = some t) : RE2 g l a w PO PQ (.returned (.agg #[.int .i64 k, .int .i64 n, s])) (st3 w5 G k n s) := by
  refine ⟨⟨by rw [st3_blk _ _ _ _ _ (by omega)]; exact hz.b⟩, st3_gb (by omega) hg, fun t' h => ?_, fun h => by rw [hPO] at h; cases h⟩
  rw [hPO] at h
  cases h
  refine ⟨_, rfl, Os.keep (fun b hb => ?_) (fun b hb _ => st3_blk _ _ _ _ _ (by omega)) _ _ ho⟩
  show w.heap.size ≤ b
  omega
set_option maxRecDepth 100000 in
set_option maxHeartbeats 2000000 in
theorem order_c (l : List UInt8) (a : Addr) (hl : l.length ≤ 65536) (m : Nat) : OC l a m := by
  induction m with
  | zero => intro p g w _ _ _ _ h; omega
  | succ m ih0 =>
  intro p g w hz hE hgE hp hm
  have ih : Hid (OC l a m) := ih0
  clear ih0
  obtain ⟨w1, ew1⟩ : ∃ w1, Hid (w.alloc (.cells #[.int .i64 0, .int .i64 0, .slice none 0 0] 24) = w1) := ⟨_, (rfl : _ = _)⟩
  obtain ⟨w2, ew2⟩ : ∃ w2, Hid (w1.alloc (.cells #[.int .i64 0, .int .i64 0, .slice none 0 0] 24) = w2) := ⟨_, (rfl : _ = _)⟩
  have s1 : w1.heap.size = w.heap.size + 1 := by rw [← ew1.out]; simp
  have s2 : w2.heap.size = w.heap.size + 2 := by rw [← ew2.out]; simp [s1]
  have B2 : Hid (Below w.heap.size w w2) := by show Below _ _ _; rw [← ew2.out, ← ew1.out]; exact ((Below.refl _ _).alloc (Nat.le_refl _) _).alloc (by simp) _
  have X2 : Hid (Bo w2 w.heap.size 0 0 (.slice none 0 0)) := by show Bo _ _ _ _ _; rw [← ew2.out, ← ew1.out]; exact (Bo.new w 0 0 (.slice none 0 0)).bel ((Below.refl _ _).alloc (Nat.le_refl _) _)
  have Y2 : Hid (Bo w2 (w.heap.size + 1) 0 0 (.slice none 0 0)) := by show Bo _ _ _ _ _; rw [← ew2.out, ← s1]; exact Bo.new w1 0 0 (.slice none 0 0)
  have G2 : Hid (w.grownBy w2 (some g)) := by show World.grownBy _ _ _; rw [← ew2.out, ← ew1.out]; exact gb_tr (gb_al _ _) (gb_al _ _)
  have Z2 : Hid (Rz w2 g l p) := hz.bel B2.out
  have E2 : Hid (Et w2 a) := hE.kept G2.out hgE
  have hgs : g < w.heap.size := hz.lt
  clear hz hE s1
  obtain ⟨PO, hPO⟩ : ∃ PO, Hid ((Ps.pa l p).1 = PO) := ⟨_, (rfl : _ = _)⟩
  obtain ⟨PQ, hPQ⟩ : ∃ PQ, Hid ((Ps.pa l p).2 = PQ) := ⟨_, (rfl : _ = _)⟩
  rw [hPO.out, hPQ.out]
  go_enter Tryd.func66, Tryd.ntmps66
  go_upto_region 3 with fail
  rw [ew1.out, ew2.out]
  obtain ⟨G, hG⟩ : ∃ G, Hid (w.heap.size = G) := ⟨_, (rfl : _ = _)⟩
  rw [hG.out] at X2 Y2 s2 hgs ⊢
  by_cases hd : l[p]? = some 100
  · have hc : Hid (Calls Tryd.prog 87 #[.pointer (some ⟨g, 0, none⟩), .int .u8 100] w2 fun e w' => e = .returned (.bool true) ∧ Rz w' g l (p + 1) ∧ w2.grownBy w' (some g)) := takes_t g p l 100 w2 Z2.out hl hd
    go_wp2_with fail
    refine hc.out.mono ?_
    rintro e w3 ⟨rfl, z3, g3⟩
    have Z3 : Hid (Rz w3 g l (p + 1)) := z3
    have G3 : Hid (w.grownBy w3 (some g)) := gb_tr G2.out g3
    have E3 : Hid (Et w3 a) := E2.out.kept g3 hgE
    have X3 : Hid (Bo w3 G 0 0 (.slice none 0 0)) := X2.out.gb g3 (by omega)
    have Y3 : Hid (Bo w3 (G + 1) 0 0 (.slice none 0 0)) := Y2.out.gb g3 (by omega)
    have hp1 : p + 1 ≤ l.length := (List.getElem?_eq_some_iff.1 hd).1
    clear z3 g3 hc
    go_wp2_with fail
    refine (number_c g (p + 1) l a w3 Z3.out E3.out hgE hl hp1).mono ?_
    rintro e w4 ⟨z4, g4, e4, f4⟩
    have hpa := Ps.pa_leaf hd (Or.inl rfl)
    by_cases hdc : Ps.dc (l.drop (p + 1)) = 0
    · rw [f4 hdc]
      rw [if_pos hdc] at hpa
      have hfin : Hid (RE2 g l a w PO PQ (.panicked (pan a)) w4) := by
        refine ⟨?_, gb_tr G3.out g4, fun t h => ?_, fun _ => rfl⟩
        · rw [← hPQ.out, hpa]; rw [hdc] at z4; exact z4
        · rw [← hPO.out, hpa] at h; cases h
      clear hpa hdc z4 g4 e4 f4
      go_wp2_with fail
      exact ⟨rfl, hfin.out⟩
    · rw [e4 hdc]
      rw [if_neg hdc] at hpa
      obtain ⟨N, hN⟩ : ∃ N : Nat, Hid (Ps.nv (l.drop (p + 1)) = N) := ⟨_, (rfl : _ = _)⟩
      have hN6 : Hid (N ≤ 999999) := by show _ ≤ _; rw [← hN.out]; exact (Ps.dc_take hdc).2.2
      rw [hN.out]
      clear e4 f4
      go_wp2_with fail
      refine (direct_c (N : Int) w4).mono ?_
      rintro e w5 ⟨rfl, B5⟩
      have X5 : Hid (Bo w5 G 0 0 (.slice none 0 0)) := (X3.out.gb g4 (by omega)).bel B5
      have Y5 : Hid (Bo w5 (G + 1) 0 0 (.slice none 0 0)) := (Y3.out.gb g4 (by omega)).bel B5
      have hfin : Hid (RE2 g l a w PO PQ (.returned (.agg #[.int .i64 1, .int .i64 (N : Int), .slice none 0 0])) (st6 w5 G 1 (N : Int) (.slice none 0 0))) := by
        refine fin6 (t := ⟨1, (N : Int), []⟩) hG.out ?_ (gb_tr G3.out (gb_tr g4 (below_gb B5 _))) hgs (Os.leaf ⟨by decide, ?_⟩) ?_
        · rw [← hPQ.out, hpa]
          have := z4.bel B5
          rw [show p + 1 + Ps.dc (l.drop (p + 1)) = p + (1 + Ps.dc (l.drop (p + 1))) by omega] at this
          exact this
        · have := hN6.out; omega
        · rw [← hPO.out, hpa, hN.out]; rfl
      have x0 := X5.out.c0
      have x1 := X5.out.c1
      have x2 := X5.out.c2
      have y0 := Y5.out.c0
      have y1 := Y5.out.c1
      have y2 := Y5.out.c2
      have xf := X5.out.fz
      have yf := Y5.out.fz
      clear hpa hdc z4 g4 B5
      go_wp2_with fail
      refine bodyPost_ret (v := .agg #[.int .i64 1, .int .i64 (N : Int), .slice none 0 0]) (by simp [results, Tryd.results66, go_sem, x0, x1, x2]) rfl ?_
      exact hfin.out
  have nd := hd
  have hca : Hid (Calls Tryd.prog 87 #[.pointer (some ⟨g, 0, none⟩), .int .u8 100] w2 fun e w' => e = .returned (.bool false) ∧ Rz w' g l p ∧ w2.grownBy w' (some g)) := takes_f g p l 100 w2 Z2.out hl hp hd
  go_wp2_with fail
  refine hca.out.mono ?_
  rintro e w2a ⟨rfl, zz, gg⟩
  have Z2a : Hid (Rz w2a g l p) := zz
  have G2a : Hid (w.grownBy w2a (some g)) := gb_tr G2.out gg
  have E2a : Hid (Et w2a a) := E2.out.kept gg hgE
  have X2a : Hid (Bo w2a G 0 0 (.slice none 0 0)) := X2.out.gb gg (by omega)
  have Y2a : Hid (Bo w2a (G + 1) 0 0 (.slice none 0 0)) := Y2.out.gb gg (by omega)
  clear zz gg hca
  clear hd
  by_cases hd : l[p]? = some 102
  · have hc : Hid (Calls Tryd.prog 87 #[.pointer (some ⟨g, 0, none⟩), .int .u8 102] w2a fun e w' => e = .returned (.bool true) ∧ Rz w' g l (p + 1) ∧ w2a.grownBy w' (some g)) := takes_t g p l 102 w2a Z2a.out hl hd
    go_wp2_with fail
    refine hc.out.mono ?_
    rintro e w3 ⟨rfl, z3, g3⟩
    have Z3 : Hid (Rz w3 g l (p + 1)) := z3
    have G3 : Hid (w.grownBy w3 (some g)) := gb_tr G2a.out g3
    have E3 : Hid (Et w3 a) := E2a.out.kept g3 hgE
    have X3 : Hid (Bo w3 G 0 0 (.slice none 0 0)) := X2a.out.gb g3 (by omega)
    have Y3 : Hid (Bo w3 (G + 1) 0 0 (.slice none 0 0)) := Y2a.out.gb g3 (by omega)
    have hp1 : p + 1 ≤ l.length := (List.getElem?_eq_some_iff.1 hd).1
    clear z3 g3 hc
    go_wp2_with fail
    refine (number_c g (p + 1) l a w3 Z3.out E3.out hgE hl hp1).mono ?_
    rintro e w4 ⟨z4, g4, e4, f4⟩
    have hpa := Ps.pa_leaf hd (Or.inr rfl)
    by_cases hdc : Ps.dc (l.drop (p + 1)) = 0
    · rw [f4 hdc]
      rw [if_pos hdc] at hpa
      have hfin : Hid (RE2 g l a w PO PQ (.panicked (pan a)) w4) := by
        refine ⟨?_, gb_tr G3.out g4, fun t h => ?_, fun _ => rfl⟩
        · rw [← hPQ.out, hpa]; rw [hdc] at z4; exact z4
        · rw [← hPO.out, hpa] at h; cases h
      clear hpa hdc z4 g4 e4 f4
      go_wp2_with fail
      exact ⟨rfl, hfin.out⟩
    · rw [e4 hdc]
      rw [if_neg hdc] at hpa
      obtain ⟨N, hN⟩ : ∃ N : Nat, Hid (Ps.nv (l.drop (p + 1)) = N) := ⟨_, (rfl : _ = _)⟩
      have hN6 : Hid (N ≤ 999999) := by show _ ≤ _; rw [← hN.out]; exact (Ps.dc_take hdc).2.2
      rw [hN.out]
      clear e4 f4
      go_wp2_with fail
      refine (fly_c (N : Int) w4).mono ?_
      rintro e w5 ⟨rfl, B5⟩
      have X5 : Hid (Bo w5 G 0 0 (.slice none 0 0)) := (X3.out.gb g4 (by omega)).bel B5
      have Y5 : Hid (Bo w5 (G + 1) 0 0 (.slice none 0 0)) := (Y3.out.gb g4 (by omega)).bel B5
      have hfin : Hid (RE2 g l a w PO PQ (.returned (.agg #[.int .i64 2, .int .i64 (N : Int), .slice none 0 0])) (st6 w5 G 2 (N : Int) (.slice none 0 0))) := by
        refine fin6 (t := ⟨2, (N : Int), []⟩) hG.out ?_ (gb_tr G3.out (gb_tr g4 (below_gb B5 _))) hgs (Os.leaf ⟨by decide, ?_⟩) ?_
        · rw [← hPQ.out, hpa]
          have := z4.bel B5
          rw [show p + 1 + Ps.dc (l.drop (p + 1)) = p + (1 + Ps.dc (l.drop (p + 1))) by omega] at this
          exact this
        · have := hN6.out; omega
        · rw [← hPO.out, hpa, hN.out]; rfl
      have x0 := X5.out.c0
      have x1 := X5.out.c1
      have x2 := X5.out.c2
      have y0 := Y5.out.c0
      have y1 := Y5.out.c1
      have y2 := Y5.out.c2
      have xf := X5.out.fz
      have yf := Y5.out.fz
      clear hpa hdc z4 g4 B5
      go_wp2_with fail
      refine bodyPost_ret (v := .agg #[.int .i64 2, .int .i64 (N : Int), .slice none 0 0]) (by simp [results, Tryd.results66, go_sem, x0, x1, x2]) rfl ?_
      exact hfin.out
  have nf := hd
  have hcb : Hid (Calls Tryd.prog 87 #[.pointer (some ⟨g, 0, none⟩), .int .u8 102] w2a fun e w' => e = .returned (.bool false) ∧ Rz w' g l p ∧ w2a.grownBy w' (some g)) := takes_f g p l 102 w2a Z2a.out hl hp hd
  go_wp2_with fail
  refine hcb.out.mono ?_
  rintro e w2b ⟨rfl, zz, gg⟩
  have Z2b : Hid (Rz w2b g l p) := zz
  have G2b : Hid (w.grownBy w2b (some g)) := gb_tr G2a.out gg
  have E2b : Hid (Et w2b a) := E2a.out.kept gg hgE
  have X2b : Hid (Bo w2b G 0 0 (.slice none 0 0)) := X2a.out.gb gg (by omega)
  have Y2b : Hid (Bo w2b (G + 1) 0 0 (.slice none 0 0)) := Y2a.out.gb gg (by omega)
  clear zz gg hcb
  clear hd
  by_cases hd : l[p]? = some 40
  · have hc : Hid (Calls Tryd.prog 87 #[.pointer (some ⟨g, 0, none⟩), .int .u8 40] w2b fun e w' => e = .returned (.bool true) ∧ Rz w' g l (p + 1) ∧ w2b.grownBy w' (some g)) := takes_t g p l 40 w2b Z2b.out hl hd
    go_wp2_with fail
    refine hc.out.mono ?_
    rintro e w3 ⟨rfl, z3, g3⟩
    have Z3 : Hid (Rz w3 g l (p + 1)) := z3
    have G3 : Hid (w.grownBy w3 (some g)) := gb_tr G2b.out g3
    have E3 : Hid (Et w3 a) := E2b.out.kept g3 hgE
    have X3 : Hid (Bo w3 G 0 0 (.slice none 0 0)) := X2b.out.gb g3 (by omega)
    have Y3 : Hid (Bo w3 (G + 1) 0 0 (.slice none 0 0)) := Y2b.out.gb g3 (by omega)
    have hp1 : p + 1 ≤ l.length := (List.getElem?_eq_some_iff.1 hd).1
    clear z3 g3 hc
    have hk : Ps.pa l p = Ps.kont l [⟨3, 0, []⟩] (Ps.pa l (p + 1)) := Ps.k_times (l := l) (p := p) [] hd
    go_wp2_with fail
    refine (ih.out (p + 1) g w3 Z3.out E3.out hgE hp1 (by omega)).mono ?_
    rintro e w4 ⟨z4, g4, s4, n4⟩
    have hcl := pa_le l hp1
    obtain ⟨o, c, hA⟩ : ∃ o c, Ps.pa l (p + 1) = (o, c) := ⟨_, _, rfl⟩
    rw [hA] at z4 s4 n4 hk hcl
    clear hA
    have G4 : Hid (w.grownBy w4 (some g)) := gb_tr G3.out g4
    cases o with
    | none =>
      rw [n4 rfl]
      rw [Ps.kont_none] at hk
      have hfin : Hid (RE2 g l a w PO PQ (.panicked (pan a)) w4) := by
        refine ⟨?_, G4.out, fun t h => ?_, fun _ => rfl⟩
        · rw [← hPQ.out, hk]; exact z4
        · rw [← hPO.out, hk] at h; cases h
      clear hk z4 g4 s4 n4
      go_wp2_with fail
      exact ⟨rfl, hfin.out⟩
    | some x =>
      obtain ⟨v, ev, o4⟩ := s4 x rfl
      obtain ⟨xa, xc, rfl⟩ := o4.shape
      rw [ev]
      clear s4 n4 ev
      have hkH : Hid (Ps.pa l p = Ps.kont l [⟨3, 0, []⟩] (some x, c)) := hk
      have hcl1 : p + 1 ≤ c := hcl.1
      have hcl2 : c ≤ l.length := hcl.2
      clear hk hcl
      generalize x.ks.length = xl at *
      obtain ⟨w5, e5⟩ : ∃ w5, Hid (w4.alloc (.cells #[.int .i64 x.k, .int .i64 x.n, .slice xa xl xc] 24) = w5) := ⟨_, (rfl : _ = _)⟩
      have B5 : Below w4.heap.size w4 w5 := by rw [← e5.out]; exact (Below.refl _ _).alloc (Nat.le_refl _) _
      have F5 : Hid (Bo w5 w4.heap.size x.k x.n (.slice xa xl xc)) := by show Bo _ _ _ _ _; rw [← e5.out]; exact Bo.new _ _ _ _
      have Z5 : Hid (Rz w5 g l c) := Rz.bel z4 B5
      have G5 : Hid (w.grownBy w5 (some g)) := gb_tr G4.out (below_gb B5 _)
      have E5 : Hid (Et w5 a) := (E3.out.kept g4 hgE).kept (below_gb B5 _) hgE
      have X5 : Hid (Bo w5 G 0 0 (.slice none 0 0)) := (X3.out.gb g4 (by omega)).bel B5
      have Y5 : Hid (Bo w5 (G + 1) 0 0 (.slice none 0 0)) := (Y3.out.gb g4 (by omega)).bel B5
      have hs3 : G + 2 ≤ w3.heap.size := by have := Y3.out.lt; omega
      have hs4 : w3.heap.size ≤ w4.heap.size := g4.size
      have O5 : Hid (Os (fun b => G + 2 ≤ b) w5 x (.agg #[.int .i64 x.k, .int .i64 x.n, .slice xa xl xc])) := Os.keep (fun b hb => by have h1 : w3.heap.size ≤ b := hb; show G + 2 ≤ b; omega) (fun _ _ _ => rfl) _ _ (o4.bel B5)
      obtain ⟨gf, hgf⟩ : ∃ gf, Hid (w4.heap.size = gf) := ⟨_, (rfl : _ = _)⟩
      have hgf2 : G + 2 ≤ gf := by rw [← hgf.out]; omega
      clear z4 g4 o4 B5 hs3 hs4
      obtain ⟨xk, hxk⟩ : ∃ xk, Hid (x.k = xk) := ⟨_, (rfl : _ = _)⟩
      obtain ⟨xn, hxn⟩ : ∃ xn, Hid (x.n = xn) := ⟨_, (rfl : _ = _)⟩
      rw [hxk.out, hxn.out] at e5 F5 O5 ⊢
      rw [hgf.out] at F5
      go_wp2_with fail
      rw [e5.out, hgf.out]
      have hc6 : Hid (Calls Tryd.prog 89 #[.pointer (some ⟨g, 0, none⟩), .string ⟨#[32, 120, 32]⟩] w5 (NE g c (Ps.mt Ps.sx (l.drop c)) 3 l a w5)) := needs_c g c l Ps.sx a w5 Z5.out E5.out hgE hl hcl2 (by decide)
      refine hc6.out.mono ?_
      rintro e w6 ⟨z6, g6, r6, n6⟩
      have G6 : Hid (w.grownBy w6 (some g)) := gb_tr G5.out g6
      clear hc6
      by_cases hM : Ps.mt Ps.sx (l.drop c) = 3
      · rw [r6 hM]
        have hk2 : Hid (Ps.pa l p = Ps.kont l [⟨3, 0, [x]⟩] (Ps.pa l (c + 3))) := hkH.out.trans (Ps.k_first [] 0 x (by omega))
        have hc3 : c + 3 ≤ l.length := by have := Ps.mt_le2 Ps.sx (l.drop c); rw [List.length_drop] at this; omega
        rw [hM] at z6
        have Z6 : Hid (Rz w6 g l (c + 3)) := z6
        have E6 : Hid (Et w6 a) := E5.out.kept g6 hgE
        have X6 : Hid (Bo w6 G 0 0 (.slice none 0 0)) := X5.out.gb g6 (by omega)
        have Y6 : Hid (Bo w6 (G + 1) 0 0 (.slice none 0 0)) := Y5.out.gb g6 (by omega)
        have F6 : Hid (Bo w6 gf xk xn (.slice xa xl xc)) := F5.out.gb g6 (by omega)
        have O6 : Hid (Os (fun b => G + 2 ≤ b) w6 x (.agg #[.int .i64 xk, .int .i64 xn, .slice xa xl xc])) := O5.out.gb g6 (fun b hb => by have h1 : G + 2 ≤ b := hb; omega)
        have hs6 : G + 2 ≤ w6.heap.size := by have := F6.out.lt; omega
        clear z6 g6 r6 n6 hM hkH
        have hih := ih.out (c + 3) g w6.drew (Z6.out.dr 1) (E6.out.dr 1) hgE hc3 (by omega)
        have hdl := pa_le l hc3
        obtain ⟨o2, d, hB⟩ : ∃ o c', Ps.pa l (c + 3) = (o, c') := ⟨_, _, rfl⟩
        rw [hB] at hih hdl hk2
        clear hB
        go_wp2_with fail
        cases o2 with
        | none =>
          have hc7 : Hid (Calls Tryd.prog 66 #[.pointer (some ⟨g, 0, none⟩)] w6.drew fun e w' => e = .panicked (pan a) ∧ RE2 g l a w PO PQ e w') := hih.mono (by
            rintro e w7 ⟨z7, g7, s7, n7⟩
            have hk3 := hk2.out
            rw [Ps.kont_none] at hk3
            refine ⟨n7 rfl, ?_, gb_tr (gb_dr G6.out 1) g7, fun t h => ?_, fun _ => n7 rfl⟩
            · rw [← hPQ.out, hk3]; exact z7
            · rw [← hPO.out, hk3] at h; cases h)
          clear hih hk2
          have f0 := F6.out.c0
          have f1 := F6.out.c1
          have f2 := F6.out.c2
          go_region_dies
          all_goals (refine hc7.out.mono ?_; rintro e w7 ⟨rfl, hfin⟩; exact ⟨rfl, hfin⟩)
        | some y =>
          have hc7 : Hid (Calls Tryd.prog 66 #[.pointer (some ⟨g, 0, none⟩)] w6.drew fun e w' => ∃ ya yl yc, e = .returned (.agg #[.int .i64 y.k, .int .i64 y.n, .slice ya yl yc]) ∧ Hid (Rz w' g l d) ∧ Hid (w6.grownBy w' (some g)) ∧ Hid (Os (fun b => G + 2 ≤ b) w' y (.agg #[.int .i64 y.k, .int .i64 y.n, .slice ya yl yc]))) := hih.mono (by
            rintro e w7 ⟨z7, g7, s7, n7⟩
            obtain ⟨v, ev, o7⟩ := s7 y rfl
            obtain ⟨ya, yc, rfl⟩ := o7.shape
            exact ⟨ya, _, yc, ev, z7, gb_tr (gb_dr (Lib.Hx.grownBy_refl _ _) 1) g7, Os.keep (fun b hb => by have h1 : w6.heap.size ≤ b := hb; show G + 2 ≤ b; omega) (fun _ _ _ => rfl) _ _ o7⟩)
          have hdl1 : c + 3 ≤ d := hdl.1
          have hdl2 : d ≤ l.length := hdl.2
          clear hih hdl
          obtain ⟨yk, hyk⟩ : ∃ yk, Hid (y.k = yk) := ⟨_, (rfl : _ = _)⟩
          obtain ⟨yn, hyn⟩ : ∃ yn, Hid (y.n = yn) := ⟨_, (rfl : _ = _)⟩
          rw [hyk.out, hyn.out] at hc7
          have f0 := F6.out.c0
          have f1 := F6.out.c1
          have f2 := F6.out.c2
          have y0 := Y6.out.c0
          have y1 := Y6.out.c1
          have y2 := Y6.out.c2
          have yf := Y6.out.fz
          go_region_with (go_at_call 66; refine hc7.out.mono ?_; rintro e w7 ⟨ya, yl, yc, rfl, Z7, g7, O7⟩; have f0' := (F6.out.gb g7.out (show gf ≠ g by omega)).c0; have f1' := (F6.out.gb g7.out (show gf ≠ g by omega)).c1; have f2' := (F6.out.gb g7.out (show gf ≠ g by omega)).c2; have y0' := (Y6.out.gb g7.out (show G + 1 ≠ g by omega)).c0; have y1' := (Y6.out.gb g7.out (show G + 1 ≠ g by omega)).c1; have y2' := (Y6.out.gb g7.out (show G + 1 ≠ g by omega)).c2; have yf' := (Y6.out.gb g7.out (show G + 1 ≠ g by omega)).fz; have hy7 := (Y6.out.gb g7.out (show G + 1 ≠ g by omega)).lt)
          all_goals go_wp2_with fail
          all_goals
            have hal := al_two (k := 3) (n := 0) hG.out hgs (⟨by decide, by decide⟩) Z7.out (gb_tr G6.out g7.out) (E6.out.kept g7.out hgE) hgE (X6.out.gb g7.out (show G ≠ g by omega)) (Y6.out.gb g7.out (show G + 1 ≠ g by omega)) (by rw [hxk.out, hxn.out]; exact O6.out.gb g7.out (fun b hb => by have h1 : G + 2 ≤ b := hb; omega)) (by rw [hyk.out, hyn.out]; exact O7.out)
            rw [hxk.out, hxn.out, hyk.out, hyn.out] at hal
            obtain ⟨w8, e8, Z8, G8, E8, X8, Y8, O8⟩ := hal
            have e8' : Hid ((((w7.setCell ⟨G + 1, 0, none⟩ (.int .i64 3)).setCell ⟨G + 1, 1, none⟩ (.int .i64 0)).setCell ⟨G + 1, 2, none⟩ (.slice (some ⟨w7.heap.size, 0, none⟩) 2 2)).alloc (.cells #[.int .i64 xk, .int .i64 xn, .slice xa xl xc, .int .i64 yk, .int .i64 yn, .slice ya yl yc] 24) = w8) := e8.out
            rw [e8'.out]
            clear e8 e8' f0 f1 f2 y0 y1 y2 yf f0' f1' f2' y0' y1' y2' yf' hc7
            obtain ⟨gl, hgl⟩ : ∃ gl, Hid (w7.heap.size = gl) := ⟨_, (rfl : _ = _)⟩
            rw [hgl.out] at Y8 O8 ⊢
            have hc9 : Hid (Calls Tryd.prog 89 #[.pointer (some ⟨g, 0, none⟩), .string ⟨#[41]⟩] w8 (NE g d (Ps.mt [41] (l.drop d)) 1 l a w8)) := needs_c g d l [41] a w8 Z8.out E8.out hgE hl hdl2 (by decide)
            refine hc9.out.mono ?_
            rintro e w9 ⟨z9, g9, r9, n9⟩
            clear hc9
            by_cases hM9 : Ps.mt [41] (l.drop d) = 1
            · rw [r9 hM9]
              rw [hM9] at z9
              have hk9 := hk2.out.trans (Ps.k_shut ⟨3, 0, [x]⟩ [] y (show ¬ ((⟨3, 0, [x]⟩ : Tr).k = 3 ∧ (⟨3, 0, [x]⟩ : Tr).ks.length = 0) from fun hh => absurd hh.2 (show ¬ ((1 : Nat) = 0) by decide)) (by omega))
              have hfin : Hid (RE2 g l a w PO PQ (.returned (.agg #[.int .i64 3, .int .i64 0, .slice (some ⟨gl, 0, none⟩) 2 2])) (st3 w9 G 3 0 (.slice (some ⟨gl, 0, none⟩) 2 2))) := by
                refine fin3 (t := ⟨3, 0, [x, y]⟩) hG.out ?_ (gb_tr G8.out g9) hgs (O8.out.gb g9 (fun b hb => by have h1 : G + 2 ≤ b := hb; omega)) ?_
                · rw [← hPQ.out, hk9]; exact z9
                · rw [← hPO.out, hk9]; rfl
              have X9 := X8.out.gb g9 (show G ≠ g by omega)
              have Y9 := Y8.out.gb g9 (show G + 1 ≠ g by omega)
              have x0 := X9.c0
              have x1 := X9.c1
              have x2 := X9.c2
              have xf := X9.fz
              have y0 := Y9.c0
              have y1 := Y9.c1
              have y2 := Y9.c2
              clear X9 Y9 z9 g9 r9 n9 hk9 hM9 hk2
              go_wp2_with fail
              refine bodyPost_ret (v := .agg #[.int .i64 3, .int .i64 0, .slice (some ⟨gl, 0, none⟩) 2 2]) (by simp [results, Tryd.results66, go_sem, x0, x1, x2]) rfl ?_
              exact hfin.out
            · rw [n9 hM9]
              have hM0 : Ps.mt [41] (l.drop d) = 0 := by have := Ps.mt_le1 [41] (l.drop d); simp at this; omega
              have hk9 := hk2.out.trans (Ps.k_shut_bad ⟨3, 0, [x]⟩ [] y (show ¬ ((⟨3, 0, [x]⟩ : Tr).k = 3 ∧ (⟨3, 0, [x]⟩ : Tr).ks.length = 0) from fun hh => absurd hh.2 (show ¬ ((1 : Nat) = 0) by decide)) (by omega))
              have hfin : Hid (RE2 g l a w PO PQ (.panicked (pan a)) w9) := by
                refine ⟨?_, gb_tr G8.out g9, fun t h => ?_, fun _ => rfl⟩
                · rw [← hPQ.out, hk9]; rw [hM0] at z9; exact z9
                · rw [← hPO.out, hk9] at h; cases h
              clear z9 g9 r9 n9 hk9 hM9 hM0 hk2
              go_wp2_with fail
              exact ⟨rfl, hfin.out⟩
      · rw [n6 hM]
        have hM3 : Ps.mt Ps.sx (l.drop c) < 3 := by have h1 := Ps.mt_le1 Ps.sx (l.drop c); have h2 : Ps.sx.length = 3 := rfl; omega
        have hk9 := hkH.out.trans (Ps.k_first_bad [] 0 x hM3)
        have hfin : Hid (RE2 g l a w PO PQ (.panicked (pan a)) w6) := by
          refine ⟨?_, G6.out, fun t h => ?_, fun _ => rfl⟩
          · rw [← hPQ.out, hk9]; exact z6
          · rw [← hPO.out, hk9] at h; cases h
        clear z6 g6 r6 n6 hk9 hM hM3
        go_wp2_with fail
        exact ⟨rfl, hfin.out⟩
  have nt := hd
  have hcc : Hid (Calls Tryd.prog 87 #[.pointer (some ⟨g, 0, none⟩), .int .u8 40] w2b fun e w' => e = .returned (.bool false) ∧ Rz w' g l p ∧ w2b.grownBy w' (some g)) := takes_f g p l 40 w2b Z2b.out hl hp hd
  go_wp2_with fail
  refine hcc.out.mono ?_
  rintro e w2c ⟨rfl, zz, gg⟩
  have Z2c : Hid (Rz w2c g l p) := zz
  have G2c : Hid (w.grownBy w2c (some g)) := gb_tr G2b.out gg
  have E2c : Hid (Et w2c a) := E2b.out.kept gg hgE
  have X2c : Hid (Bo w2c G 0 0 (.slice none 0 0)) := X2b.out.gb gg (by omega)
  have Y2c : Hid (Bo w2c (G + 1) 0 0 (.slice none 0 0)) := Y2b.out.gb gg (by omega)
  clear zz gg hcc
  clear hd
  by_cases hd : l[p]? = some 98
  · have hc : Hid (Calls Tryd.prog 87 #[.pointer (some ⟨g, 0, none⟩), .int .u8 98] w2c fun e w' => e = .returned (.bool true) ∧ Rz w' g l (p + 1) ∧ w2c.grownBy w' (some g)) := takes_t g p l 98 w2c Z2c.out hl hd
    go_wp2_with fail
    refine hc.out.mono ?_
    rintro e w3 ⟨rfl, z3, g3⟩
    have Z3 : Hid (Rz w3 g l (p + 1)) := z3
    have G3 : Hid (w.grownBy w3 (some g)) := gb_tr G2c.out g3
    have E3 : Hid (Et w3 a) := E2c.out.kept g3 hgE
    have X3 : Hid (Bo w3 G 0 0 (.slice none 0 0)) := X2c.out.gb g3 (by omega)
    have Y3 : Hid (Bo w3 (G + 1) 0 0 (.slice none 0 0)) := Y2c.out.gb g3 (by omega)
    have hp1 : p + 1 ≤ l.length := (List.getElem?_eq_some_iff.1 hd).1
    clear z3 g3 hc
    go_wp2_with fail
    refine (number_c g (p + 1) l a w3 Z3.out E3.out hgE hl hp1).mono ?_
    rintro e w4 ⟨z4, g4, e4, f4⟩
    have G4 : Hid (w.grownBy w4 (some g)) := gb_tr G3.out g4
    by_cases hdc : Ps.dc (l.drop (p + 1)) = 0
    · rw [f4 hdc]
      have hpa := Ps.pa_blue0 hd hdc
      have hfin : Hid (RE2 g l a w PO PQ (.panicked (pan a)) w4) := by
        refine ⟨?_, G4.out, fun t h => ?_, fun _ => rfl⟩
        · rw [← hPQ.out, hpa]; rw [hdc] at z4; exact z4
        · rw [← hPO.out, hpa] at h; cases h
      clear hpa hdc z4 g4 e4 f4
      go_wp2_with fail
      exact ⟨rfl, hfin.out⟩
    · rw [e4 hdc]
      obtain ⟨N, hN⟩ : ∃ N : Nat, Hid (Ps.nv (l.drop (p + 1)) = N) := ⟨_, (rfl : _ = _)⟩
      have hN6 : N ≤ 999999 := by rw [← hN.out]; exact (Ps.dc_take hdc).2.2
      rw [hN.out]
      clear e4 f4
      obtain ⟨c, hc⟩ : ∃ c, Hid (p + 1 + Ps.dc (l.drop (p + 1)) = c) := ⟨_, (rfl : _ = _)⟩
      have hcl : c ≤ l.length := by rw [← hc.out]; have := Ps.dc_le (l.drop (p + 1)); rw [List.length_drop] at this; omega
      have hcl1 : p + 1 ≤ c := by rw [← hc.out]; omega
      rw [hc.out] at z4
      have Z4 : Hid (Rz w4 g l c) := z4
      have E4 : Hid (Et w4 a) := E3.out.kept g4 hgE
      have X4 : Hid (Bo w4 G 0 0 (.slice none 0 0)) := X3.out.gb g4 (by omega)
      have Y4 : Hid (Bo w4 (G + 1) 0 0 (.slice none 0 0)) := Y3.out.gb g4 (by omega)
      have hdcH : Hid (Ps.dc (l.drop (p + 1)) ≠ 0) := hdc
      clear z4 g4 hdc
      go_wp2_with fail
      have hc5 : Hid (Calls Tryd.prog 89 #[.pointer (some ⟨g, 0, none⟩), .string ⟨#[40]⟩] w4 (NE g c (Ps.mt [40] (l.drop c)) 1 l a w4)) := needs_c g c l [40] a w4 Z4.out E4.out hgE hl hcl (by decide)
      refine hc5.out.mono ?_
      rintro e w5 ⟨z5, g5, r5, n5⟩
      have G5 : Hid (w.grownBy w5 (some g)) := gb_tr G4.out g5
      clear hc5
      by_cases hM : Ps.mt [40] (l.drop c) = 1
      · rw [r5 hM]
        have hk : Ps.pa l p = Ps.kont l [⟨4, (N : Int), []⟩] (Ps.pa l (c + 1)) := by
          have := Ps.k_blue (l := l) (p := p) [] hd hdcH.out (by rw [hc.out]; omega)
          rw [hc.out, hN.out] at this; exact this
        have hk2 : Hid (Ps.pa l p = Ps.kont l [⟨4, (N : Int), []⟩] (Ps.pa l (c + 1))) := hk
        have hc1 : c + 1 ≤ l.length := by have := Ps.mt_le2 [40] (l.drop c); rw [List.length_drop] at this; omega
        rw [hM] at z5
        have Z5 : Hid (Rz w5 g l (c + 1)) := z5
        have E5 : Hid (Et w5 a) := E4.out.kept g5 hgE
        have X5 : Hid (Bo w5 G 0 0 (.slice none 0 0)) := X4.out.gb g5 (by omega)
        have Y5 : Hid (Bo w5 (G + 1) 0 0 (.slice none 0 0)) := Y4.out.gb g5 (by omega)
        have hs5 : G + 2 ≤ w5.heap.size := by have := Y5.out.lt; omega
        clear z5 g5 r5 n5 hM hk
        have hih : Hid (Calls Tryd.prog 66 #[.pointer (some ⟨g, 0, none⟩)] w5 (RE2 g l a w5 (Ps.pa l (c + 1)).1 (Ps.pa l (c + 1)).2)) := ih.out (c + 1) g w5 Z5.out E5.out hgE hc1 (by omega)
        have hdl := pa_le l hc1
        obtain ⟨o2, d, hB⟩ : ∃ o c', Ps.pa l (c + 1) = (o, c') := ⟨_, _, rfl⟩
        rw [hB] at hih hdl hk2
        clear hB
        go_wp2_with fail
        refine hih.out.mono ?_
        rintro e w7 ⟨z7, g7, s7, n7⟩
        have hdl1 : c + 1 ≤ d := hdl.1
        have hdl2 : d ≤ l.length := hdl.2
        clear hih hdl
        cases o2 with
        | none =>
          rw [n7 rfl]
          have hk3 := hk2.out
          rw [Ps.kont_none] at hk3
          have hfin : Hid (RE2 g l a w PO PQ (.panicked (pan a)) w7) := by
            refine ⟨?_, gb_tr G5.out g7, fun t h => ?_, fun _ => rfl⟩
            · rw [← hPQ.out, hk3]; exact z7
            · rw [← hPO.out, hk3] at h; cases h
          clear hk3 hk2 z7 g7 s7 n7
          go_wp2_with fail
          exact ⟨rfl, hfin.out⟩
        | some x =>
          obtain ⟨v, ev, o7⟩ := s7 x rfl
          obtain ⟨xa, xc, rfl⟩ := o7.shape
          rw [ev]
          generalize x.ks.length = xl at *
          have Y7 := Y5.out.gb g7 (show G + 1 ≠ g by omega)
          have O7 : Os (fun b => G + 2 ≤ b) w7 x (.agg #[.int .i64 x.k, .int .i64 x.n, .slice xa xl xc]) := Os.keep (fun b hb => by have h1 : w5.heap.size ≤ b := hb; show G + 2 ≤ b; omega) (fun _ _ _ => rfl) _ _ o7
          have hal := al_one (k := 4) (n := (N : Int)) hG.out hgs (⟨by decide, by omega⟩) z7 (gb_tr G5.out g7) (E5.out.kept g7 hgE) hgE (X5.out.gb g7 (show G ≠ g by omega)) Y7 O7
          have y0 := Y7.c0
          have y1 := Y7.c1
          have y2 := Y7.c2
          have yf := Y7.fz
          have hy7 := Y7.lt
          clear Y7 O7 o7 s7 n7 ev z7 g7
          obtain ⟨w8, e8, Z8, G8, E8, X8, Y8, O8⟩ := hal
          have e8' : Hid ((((w7.setCell ⟨G + 1, 0, none⟩ (.int .i64 4)).setCell ⟨G + 1, 1, none⟩ (.int .i64 (N : Int))).setCell ⟨G + 1, 2, none⟩ (.slice (some ⟨w7.heap.size, 0, none⟩) 1 1)).alloc (.cells #[.int .i64 x.k, .int .i64 x.n, .slice xa xl xc] 24) = w8) := e8.out
          clear e8
          obtain ⟨xk, hxk⟩ : ∃ xk, Hid (x.k = xk) := ⟨_, (rfl : _ = _)⟩
          obtain ⟨xn, hxn⟩ : ∃ xn, Hid (x.n = xn) := ⟨_, (rfl : _ = _)⟩
          rw [hxk.out, hxn.out] at e8' ⊢
          go_wp2_with fail
          rw [e8'.out]
          clear e8' y0 y1 y2 yf
          obtain ⟨gl, hgl⟩ : ∃ gl, Hid (w7.heap.size = gl) := ⟨_, (rfl : _ = _)⟩
          rw [hgl.out] at Y8 O8 ⊢
          have hc9 : Hid (Calls Tryd.prog 89 #[.pointer (some ⟨g, 0, none⟩), .string ⟨#[41]⟩] w8 (NE g d (Ps.mt [41] (l.drop d)) 1 l a w8)) := needs_c g d l [41] a w8 Z8.out E8.out hgE hl hdl2 (by decide)
          refine hc9.out.mono ?_
          rintro e w9 ⟨z9, g9, r9, n9⟩
          clear hc9
          by_cases hM9 : Ps.mt [41] (l.drop d) = 1
          · rw [r9 hM9]
            rw [hM9] at z9
            have hk9 := hk2.out.trans (Ps.k_shut ⟨4, (N : Int), []⟩ [] x (show ¬ ((⟨4, (N : Int), []⟩ : Tr).k = 3 ∧ (⟨4, (N : Int), []⟩ : Tr).ks.length = 0) from fun hh => absurd hh.1 (show ¬ ((4 : Int) = 3) by decide)) (by omega))
            have hfin : Hid (RE2 g l a w PO PQ (.returned (.agg #[.int .i64 4, .int .i64 (N : Int), .slice (some ⟨gl, 0, none⟩) 1 1])) (st3 w9 G 4 (N : Int) (.slice (some ⟨gl, 0, none⟩) 1 1))) := by
              refine fin3 (t := ⟨4, (N : Int), [x]⟩) hG.out ?_ (gb_tr G8.out g9) hgs (O8.out.gb g9 (fun b hb => by have h1 : G + 2 ≤ b := hb; omega)) ?_
              · rw [← hPQ.out, hk9]; exact z9
              · rw [← hPO.out, hk9]; rfl
            have X9 := X8.out.gb g9 (show G ≠ g by omega)
            have Y9 := Y8.out.gb g9 (show G + 1 ≠ g by omega)
            have x0 := X9.c0
            have x1 := X9.c1
            have x2 := X9.c2
            have xf := X9.fz
            have y0 := Y9.c0
            have y1 := Y9.c1
            have y2 := Y9.c2
            clear X9 Y9 z9 g9 r9 n9 hk9 hM9 hk2
            go_wp2_with fail
            refine bodyPost_ret (v := .agg #[.int .i64 4, .int .i64 (N : Int), .slice (some ⟨gl, 0, none⟩) 1 1]) (by simp [results, Tryd.results66, go_sem, x0, x1, x2]) rfl ?_
            exact hfin.out
          · rw [n9 hM9]
            have hM0 : Ps.mt [41] (l.drop d) = 0 := by have := Ps.mt_le1 [41] (l.drop d); simp at this; omega
            have hk9 := hk2.out.trans (Ps.k_shut_bad ⟨4, (N : Int), []⟩ [] x (show ¬ ((⟨4, (N : Int), []⟩ : Tr).k = 3 ∧ (⟨4, (N : Int), []⟩ : Tr).ks.length = 0) from fun hh => absurd hh.1 (show ¬ ((4 : Int) = 3) by decide)) (by omega))
            have hfin : Hid (RE2 g l a w PO PQ (.panicked (pan a)) w9) := by
              refine ⟨?_, gb_tr G8.out g9, fun t h => ?_, fun _ => rfl⟩
              · rw [← hPQ.out, hk9]; rw [hM0] at z9; exact z9
              · rw [← hPO.out, hk9] at h; cases h
            clear z9 g9 r9 n9 hk9 hM9 hM0 hk2
            go_wp2_with fail
            exact ⟨rfl, hfin.out⟩
      · rw [n5 hM]
        have hM3 : Ps.mt [40] (l.drop c) < 1 := by have h1 := Ps.mt_le1 [40] (l.drop c); simp at h1; omega
        have hpa := Ps.pa_blue1 hd hdcH.out (by rw [hc.out]; exact hM3)
        rw [hc.out] at hpa
        have hfin : Hid (RE2 g l a w PO PQ (.panicked (pan a)) w5) := by
          refine ⟨?_, G5.out, fun t h => ?_, fun _ => rfl⟩
          · rw [← hPQ.out, hpa]; rw [show Ps.mt [40] (l.drop c) = 0 by omega] at z5; exact z5
          · rw [← hPO.out, hpa] at h; cases h
        clear z5 g5 r5 n5 hpa hM hM3
        go_wp2_with fail
        exact ⟨rfl, hfin.out⟩
  have nb := hd
  have hcd : Hid (Calls Tryd.prog 87 #[.pointer (some ⟨g, 0, none⟩), .int .u8 98] w2c fun e w' => e = .returned (.bool false) ∧ Rz w' g l p ∧ w2c.grownBy w' (some g)) := takes_f g p l 98 w2c Z2c.out hl hp hd
  go_wp2_with fail
  refine hcd.out.mono ?_
  rintro e w2d ⟨rfl, zz, gg⟩
  have Z2d : Hid (Rz w2d g l p) := zz
  have G2d : Hid (w.grownBy w2d (some g)) := gb_tr G2c.out gg
  have E2d : Hid (Et w2d a) := E2c.out.kept gg hgE
  have X2d : Hid (Bo w2d G 0 0 (.slice none 0 0)) := X2c.out.gb gg (by omega)
  have Y2d : Hid (Bo w2d (G + 1) 0 0 (.slice none 0 0)) := Y2c.out.gb gg (by omega)
  clear zz gg hcd
  clear hd
  have hpa : Ps.pa l p = (none, p) := by
    cases hb : l[p]? with
    | none => exact Ps.pa_none hb
    | some b =>
      rw [hb] at nd nf nt nb
      exact Ps.pa_bad hb (fun h => by rcases h with h | h; exact nd (by rw [h]); exact nf (by rw [h])) (fun h => nt (by rw [h])) (fun h => nb (by rw [h]))
  have hfin : Hid (RE2 g l a w PO PQ (.panicked (pan a)) w2d) := by
    refine ⟨?_, G2d.out, fun t h => ?_, fun _ => rfl⟩
    · rw [← hPQ.out, hpa]; exact Z2d.out
    · rw [← hPO.out, hpa] at h; cases h
  clear hpa nd nf nt nb
  go_wp2_with fail
  refine (giveUp_c g a w2d E2d.out).mono ?_
  rintro e w3 ⟨rfl, rfl⟩
  go_wp2_with fail
  exact ⟨rfl, hfin.out⟩
end Go.Proofs.YtoaccmblaifnmaaDoor
