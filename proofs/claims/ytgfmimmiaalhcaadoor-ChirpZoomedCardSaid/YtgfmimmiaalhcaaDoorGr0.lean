/-
  Lists of complex numbers that grow, told by a function; a sum and a twist of the document's; literal lists.
-/
import Derived.Test.YtgfmimmiaalhcaaDoorLa1
import Derived.Test.YtgfmimmiaalhcaaDoorPu7
import Derived.Test.YtgfmimmiaalhcaaDoorDp1
namespace Go.Proofs.YtgfmimmiaalhcaaDoor
open Flo Go.RowKit
set_option maxHeartbeats 1000000 in
theorem plus10_c (a b c d : Nat) (w : World) :
    Calls Tryd.prog 37 #[.complex .f64 a b, .complex .f64 c d] w (RZ w (adc (a, b) (c, d))) := by
  have h2 := @run_fadd Tryd.prog
  go_enter Tryd.func37, Tryd.ntmps37
  go_wp2
  go_ret
  exact ⟨_, _, _, rfl, rfl, fr_lt .., fr_lt .., by rw [bt_fr]; exact (bt_co ..).symm, by rw [bt_fr]; exact (bt_co ..).symm⟩
theorem tw10_c (a b n : Nat) (k : Int) (w : World) (h : 0 < n) (hn : n ≤ 4194304) (ha : a < 18446744073709551616) (hb : b < 18446744073709551616) :
    Calls Tryd.prog 36 #[.complex .f64 a b, .int .i64 n, .int .i64 k] w (RZ w (tws n (Rp.md n k) (a, b))) := by
  by_cases hk : k.tmod n = 0
  · refine (r7TwistId_c a b n k w h hn hk).mono ?_
    rintro e w' ⟨rfl, d, rfl⟩
    refine ⟨a, b, d, rfl, rfl, ha, hb, ?_⟩
    unfold tws
    rw [if_pos ((md_zero h).2 hk)]
    exact Lk.refl _
  · refine (r7TwistOk_c a b n k w h hn hk).mono ?_
    intro e w' h2
    have := RC.z h2 (bt_mulRe ..) (bt_mulIm ..)
    unfold tws
    rw [if_neg (fun c => hk ((md_zero h).1 c))]
    exact this
/-- a list that has grown by i, each told by F -/
structure Gro (w : World) (B i : Nat) (v : Value) (F : Nat → Nat × Nat) (us : List (Nat × Nat)) : Prop where
  own : w.ownsRow B 23 1 v i (cz us)
  len : us.length = i
  lim : Lim us
  up : Upl us F i
theorem Lim.snoc {us : List (Nat × Nat)} (h : Lim us) {x y : Nat} (hx : x < 18446744073709551616) (hy : y < 18446744073709551616) : Lim (us ++ [(x, y)]) := by
  intro i hi
  rw [List.length_append] at hi
  by_cases c : i < us.length
  · rw [show (us ++ [(x, y)]).getD i (0, 0) = us.getD i (0, 0) by simp [List.getD, List.getElem?_append, c]]
    exact h i c
  · have e : i = us.length := by simp at hi; omega
    subst e
    rw [show (us ++ [(x, y)]).getD us.length (0, 0) = (x, y) by simp [List.getD]]
    exact ⟨hx, hy⟩
theorem Gro.snoc {w w' : World} {B i : Nat} {v v' : Value} {F : Nat → Nat × Nat} {us : List (Nat × Nat)} {x y : Nat} (h : Gro w B i v F us) (hown : w'.ownsRow B 23 1 v' (i + 1) (cz us ++ [.complex .f64 x y])) (hx : x < 18446744073709551616) (hy : y < 18446744073709551616) (hz : Lk (x, y) (F i)) : Gro w' B (i + 1) v' F (us ++ [(x, y)]) := by
  refine ⟨by rw [cz_snoc]; exact hown, by rw [List.length_append, h.len]; rfl, h.lim.snoc hx hy, fun k hk => ?_⟩
  by_cases c : k < i
  · rw [show (us ++ [(x, y)]).getD k (0, 0) = us.getD k (0, 0) by simp [List.getD, List.getElem?_append, h.len, c]]
    exact h.up k c
  · have e : k = i := by omega
    subst e
    rw [show (us ++ [(x, y)]).getD k (0, 0) = (x, y) by simp [List.getD, ← h.len]]
    exact hz
theorem Gro.keep {w w' : World} {B i : Nat} {v : Value} {F : Nat → Nat × Nat} {us : List (Nat × Nat)} (h : Gro w B i v F us) (hb : Below w.heap.size w w') : Gro w' B i v F us := ⟨own_blw h.own hb, h.len, h.lim, h.up⟩
theorem Gro.rd {w : World} {B i : Nat} {v : Value} {F : Nat → Nat × Nat} {us : List (Nat × Nat)} (h : Gro w B i v F us) : RdC w v us := RdC.of_own (by rw [h.len]; exact h.own)
theorem Gro.start (w : World) (F : Nat → Nat × Nat) : Gro (w.alloc (.cells #[] 23)) w.heap.size 0 (.slice (some ⟨w.heap.size, 0, none⟩) 0 0) F [] :=
  ⟨emptyCx w _ (Nat.le_refl _), rfl, fun i hi => absurd hi (Nat.not_lt_zero i), fun i hi => absurd hi (Nat.not_lt_zero i)⟩
theorem Gro.slice {w : World} {B i : Nat} {v : Value} {F : Nat → Nat × Nat} {us : List (Nat × Nat)} (h : Gro w B i v F us) (hi : 0 < i) : ∃ g cap, v = .slice (some ⟨g, 0, none⟩) i cap ∧ B ≤ g ∧ g < w.heap.size := by
  rcases h.own.2 with ⟨_, h0⟩ | ⟨g, c, cu, e, h1, h2, _⟩
  · omega
  · exact ⟨g, c, e, h1, (Array.getElem?_eq_some_iff.1 h2).1⟩
theorem Gro.cell {w : World} {B i g cap : Nat} {F : Nat → Nat × Nat} {us : List (Nat × Nat)} (h : Gro w B i (.slice (some ⟨g, 0, none⟩) i cap) F us) {k : Nat} (hk : k < i) : w.cell? ⟨g, k, none⟩ = some (.complex .f64 (us.getD k (0, 0)).1 (us.getD k (0, 0)).2) := by
  have := h.own.cellAt k (by omega)
  rw [cz_get us k (by rw [h.len]; exact hk)] at this
  simpa using this
theorem Gro.frozen {w : World} {B i g cap : Nat} {F : Nat → Nat × Nat} {us : List (Nat × Nat)} (h : Gro w B i (.slice (some ⟨g, 0, none⟩) i cap) F us) (k : Nat) : w.frozen? ⟨g, k, none⟩ = false := by
  have := h.own.frozenAt k
  simpa using this
theorem eqbt10 {x c : Nat} (h : bt x = bt c) (hc : nanB c = false) : x = c := by
  have h1 : nanB x = false := by rw [← nan_bt, h, nan_bt, hc]
  rw [bt_fin hc, bt_fin h1] at h
  exact h
theorem Lk.eq {z : Nat × Nat} {a b : Nat} (h : Lk z (a, b)) (ha : nanB a = false) (hb : nanB b = false) : z = (a, b) := by
  obtain ⟨x, y⟩ := z
  have e1 : x = a := eqbt10 h.1 ha
  have e2 : y = b := eqbt10 h.2 hb
  rw [e1, e2]
theorem Row.lit {w : World} {B g n : Nat} {f : Nat → Nat × Nat} {us : List (Nat × Nat)} (h : Row w B g n f n us) {k : Nat} (hk : k < n) {a b : Nat} (hf : f k = (a, b)) (ha : nanB a = false) (hb : nanB b = false) : w.cell? ⟨g, k, none⟩ = some (.complex .f64 a b) := by
  have h1 := h.cell hk
  have h2 := h.up k hk
  rw [hf] at h2
  rw [h2.eq ha hb] at h1
  exact h1
theorem rdc2 (w : World) (a b c d : Nat) : RdC (w.alloc (.cells #[.complex .f64 a b, .complex .f64 c d] 23)) (.slice (some ⟨w.heap.size, 0, none⟩) 2 2) [(a, b), (c, d)] := by
  refine ⟨_, 2, rfl, fun _ => ⟨w.heap.size, 0, rfl, by simp, fun i hi => ?_⟩⟩
  have hi' : i < 2 := hi
  rw [Nat.zero_add, cell_of_row _ _ _ _ _ _ (heap_alloc_new w _)]
  match i, hi' with
  | 0, _ => rfl | 1, _ => rfl
theorem rdc3 (w : World) (a b c d e f : Nat) : RdC (w.alloc (.cells #[.complex .f64 a b, .complex .f64 c d, .complex .f64 e f] 23)) (.slice (some ⟨w.heap.size, 0, none⟩) 3 3) [(a, b), (c, d), (e, f)] := by
  refine ⟨_, 3, rfl, fun _ => ⟨w.heap.size, 0, rfl, by simp, fun i hi => ?_⟩⟩
  have hi' : i < 3 := hi
  rw [Nat.zero_add, cell_of_row _ _ _ _ _ _ (heap_alloc_new w _)]
  match i, hi' with
  | 0, _ => rfl | 1, _ => rfl | 2, _ => rfl
def lva : List (Nat × Nat) := [(4607182418800017408, 0), (4611686018427387904, 0)]
def lvb : List (Nat × Nat) := [(4613937818241073152, 0), (13830554455654793216, 0)]
def lvc : List (Nat × Nat) := [(4617315517961601024, 0), (4619567317775286272, 0), (4621256167635550208, 0)]
theorem lim_of (zs : List (Nat × Nat)) (h : (zs.all fun z => decide (z.1 < 18446744073709551616) && decide (z.2 < 18446744073709551616)) = true) : Lim zs := by
  intro i hi
  have := List.all_eq_true.1 h (zs.getD i (0, 0)) (by simp [List.getD, hi])
  simpa using this
theorem lv1 : (dsm 2 0 fun j => lva.getD j (0, 0)) = (4613937818241073152, 0) ∧ (dsm 2 1 fun j => lva.getD j (0, 0)) = (13830554455654793216, 0) := by decide +kernel
end Go.Proofs.YtgfmimmiaalhcaaDoor
