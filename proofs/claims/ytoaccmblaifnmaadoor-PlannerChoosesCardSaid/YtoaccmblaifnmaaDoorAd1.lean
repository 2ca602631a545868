/-
  Package planner: sum, times, product; fly.Work; slices.Index and Contains of ints.
-/
import Derived.Test.YtoaccmblaifnmaaDoorPn0
import Derived.Test.YtoaccmblaifnmaaDoorFop
import Derived.Test.YtoaccmblaifnmaaDoorAa1
import Derived.Test.YtoaccmblaifnmaaDoorAa7
import Derived.Deep.RegionHeldLaw
import Derived.Test.YtoaccmblaifnmaaDoorOd3
namespace Go.Proofs.YtoaccmblaifnmaaDoor
open Flo Go.RowKit Tr
open Pl (tm)
set_option maxHeartbeats 1000000 in
theorem psum_c (a b c : Nat) (ha : a ≤ 4611686018427387905) (hb : b ≤ 4611686018427387905) (hc : c = tm (a + b)) (w : World) : Calls Tryd.prog 80 #[.int .i64 (a : Int), .int .i64 (b : Int)] w fun e w' => e = .returned (.int .i64 (c : Int)) ∧ w' = w := by
  obtain ⟨d, hd⟩ : ∃ d : Int, (4611686018427387905 : Int) - (b : Int) = d := ⟨_, rfl⟩
  have w1 : wrap64 d = d := by unfold wrap64; omega
  by_cases h : 4611686018427387905 < a + b
  · have h1 : (a : Int) > d := by omega
    have e : c = 4611686018427387905 := by rw [hc]; unfold tm; omega
    subst e
    clear hc
    clear h ha hb
    go_enter Tryd.func80, Tryd.ntmps80
    go_wp2_with fail
    go_ret
    exact ⟨rfl, rfl⟩
  · have h1 : decide ((a : Int) > d) = false := decide_eq_false (by omega)
    have h2 : ¬ d < (a : Int) := by omega
    have e : c = a + b := by rw [hc]; unfold tm; omega
    have e2 : (a : Int) + (b : Int) = (c : Int) := by rw [e]; omega
    have e3 : wrap64 (c : Int) = (c : Int) := by rw [e]; unfold wrap64; omega
    clear hc e h ha hb
    go_enter Tryd.func80, Tryd.ntmps80
    go_wp2_with fail
    go_ret
    exact ⟨rfl, rfl⟩
set_option maxHeartbeats 1000000 in
theorem ptimes_c (n a c : Nat) (hn : 1 ≤ n) (hn2 : n ≤ 16384) (hc : c = tm (n * a)) (w : World) : Calls Tryd.prog 81 #[.int .i64 (n : Int), .int .i64 (a : Int)] w fun e w' => e = .returned (.int .i64 (c : Int)) ∧ w' = w := by
  obtain ⟨q, hq⟩ : ∃ q : Nat, 4611686018427387905 / n = q := ⟨_, rfl⟩
  have hqi : (4611686018427387905 : Int) / (n : Int) = (q : Int) := by rw [← hq]; rfl
  have hql : q ≤ 4611686018427387905 := by rw [← hq]; exact Nat.div_le_self _ _
  have nz : ((n : Int) == 0) = false := beq_eq_false_iff_ne.2 (by omega)
  have w1 : wrap64 ((4611686018427387905 : Int) / (n : Int)) = (q : Int) := by rw [hqi]; unfold wrap64; omega
  have key : a ≤ q ↔ n * a ≤ 4611686018427387905 := by rw [← hq, Nat.le_div_iff_mul_le (by omega), Nat.mul_comm]
  by_cases h : q < a
  · have h1 : (a : Int) > (q : Int) := by omega
    have e : c = 4611686018427387905 := by
      rw [hc]; unfold tm
      have : ¬ n * a ≤ 4611686018427387905 := fun hh => (by have := key.2 hh; omega)
      omega
    subst e
    clear hc
    clear hq hql key h w1
    go_enter Tryd.func81, Tryd.ntmps81
    go_wp2_with fail
    go_ret
    exact ⟨rfl, rfl⟩
  · have h1 : decide ((a : Int) > (q : Int)) = false := decide_eq_false (by omega)
    have hle := key.1 (by omega)
    have e : c = n * a := by rw [hc]; unfold tm; omega
    have e2 : (n : Int) * (a : Int) = (c : Int) := by rw [castMul, ← e]
    have e3 : wrap64 (c : Int) = (c : Int) := by unfold wrap64; omega
    have h2 : ¬ q < a := h
    clear hc e hq hql key hle w1
    go_enter Tryd.func81, Tryd.ntmps81
    go_wp2_with fail
    go_ret
    exact ⟨by rw [e3]; rfl, rfl⟩
theorem work_c (n : Nat) (h1 : 2 ≤ n) (h2 : n ≤ 5) (w : World) : Calls Tryd.prog 78 #[.int .i64 (n : Int)] w fun e w' => (∃ x y : Nat, e = .returned (.tuple #[.int .i64 (x : Int), .int .i64 (y : Int)]) ∧ x + y = Pl.wk n ∧ x ≤ 32 ∧ y ≤ 16) ∧ w' = w := by
  have hc : n = 2 ∨ n = 3 ∨ n = 4 ∨ n = 5 := by omega
  rcases hc with rfl | rfl | rfl | rfl
  all_goals
    go_enter Tryd.func78, Tryd.ntmps78
    go_wp2
    go_ret2
  · exact ⟨⟨4, 0, rfl, rfl, by decide, by decide⟩, rfl⟩
  · exact ⟨⟨12, 4, rfl, rfl, by decide, by decide⟩, rfl⟩
  · exact ⟨⟨16, 0, rfl, rfl, by decide, by decide⟩, rfl⟩
  · exact ⟨⟨32, 16, rfl, rfl, by decide, by decide⟩, rfl⟩
/-- a pair of length and cost in a block -/
structure Bm (w : World) (b : Nat) (l c : Int) : Prop where
  b : w.heap[b]? = some (.cells #[.int .i64 l, .int .i64 c] 85 (0, 0))
theorem Bm.c0 {w : World} {b : Nat} {l c : Int} (h : Bm w b l c) : w.cell? ⟨b, 0, none⟩ = some (.int .i64 l) := by rw [Joins.cell_of_block h.b]; rfl
theorem Bm.c1 {w : World} {b : Nat} {l c : Int} (h : Bm w b l c) : w.cell? ⟨b, 1, none⟩ = some (.int .i64 c) := by rw [Joins.cell_of_block h.b]; rfl
theorem Bm.fz {w : World} {b : Nat} {l c : Int} (h : Bm w b l c) (i : Nat) : w.frozen? ⟨b, i, none⟩ = false := by unfold World.frozen?; rw [h.b]; simp
theorem Bm.new (w : World) (l c : Int) : Bm (w.alloc (.cells #[.int .i64 l, .int .i64 c] 85)) w.heap.size l c := ⟨heap_alloc_new w _⟩
theorem Bm.bel {w w' : World} {b : Nat} {l c : Int} (h : Bm w b l c) (k : Below w.heap.size w w') : Bm w' b l c := ⟨(k.block b (blk_lt h.b)).trans h.b⟩
/-- what product answers, of lengths and costs -/
def prc (a b x y : Nat) (f : Bool) : Nat := tm (tm (tm (tm (a * y) + tm (b * x)) + 6 * (a - 1) * (b - 1)) + (if f then 0 else a * b))
theorem prc_le (a b x y : Nat) (f : Bool) : prc a b x y f ≤ 4611686018427387905 := by unfold prc tm; omega
theorem tm_tm (x : Nat) : tm (tm x) = tm x := by unfold tm; omega
theorem tm_le (x : Nat) : tm x ≤ 4611686018427387905 := by unfold tm; omega
set_option maxHeartbeats 2000000 in
set_option maxRecDepth 100000 in
theorem pproduct_c (a b x y : Nat) (f : Bool) (ha : 2 ≤ a) (hb : 2 ≤ b) (hab : a * b ≤ 16384) (w : World) :
    Calls Tryd.prog 79 #[.agg #[.int .i64 (a : Int), .int .i64 (x : Int)], .agg #[.int .i64 (b : Int), .int .i64 (y : Int)], .bool f] w fun e w' => e = .returned (.agg #[.int .i64 ((a * b : Nat) : Int), .int .i64 (prc a b x y f : Int)]) ∧ Below w.heap.size w w' := by
  obtain ⟨n, hn⟩ : ∃ n, a * b = n := ⟨_, rfl⟩
  have hn1 : n ≤ 16384 := by rw [← hn]; exact hab
  have ha2 : a ≤ 16384 := by have := Nat.le_mul_of_pos_right a (show 0 < b by omega); omega
  have hb2 : b ≤ 16384 := by have := Nat.le_mul_of_pos_left b (show 0 < a by omega); omega
  obtain ⟨a1, ha1⟩ : ∃ a1 : Nat, (a : Int) - 1 = (a1 : Int) := ⟨a - 1, by omega⟩
  obtain ⟨b1, hb1⟩ : ∃ b1 : Nat, (b : Int) - 1 = (b1 : Int) := ⟨b - 1, by omega⟩
  obtain ⟨a6, ha6⟩ : ∃ a6 : Nat, 6 * (a1 : Int) = (a6 : Int) := ⟨6 * a1, by omega⟩
  have ea6 : a6 = 6 * (a - 1) := by omega
  have eb1 : b1 = b - 1 := by omega
  obtain ⟨tw, htw⟩ : ∃ tw, 6 * (a - 1) * (b - 1) = tw := ⟨_, rfl⟩
  have htl : tw ≤ 98304 := by
    have h1 : (a - 1) * (b - 1) ≤ a * b := Nat.mul_le_mul (by omega) (by omega)
    rw [← htw, Nat.mul_assoc]; omega
  obtain ⟨p1, hp1⟩ : ∃ p1, tm (a * y) = p1 := ⟨_, rfl⟩
  obtain ⟨p2, hp2⟩ : ∃ p2, tm (b * x) = p2 := ⟨_, rfl⟩
  obtain ⟨p3, hp3⟩ : ∃ p3, tm (p1 + p2) = p3 := ⟨_, rfl⟩
  obtain ⟨p4, hp4⟩ : ∃ p4, tm (p3 + tw) = p4 := ⟨_, rfl⟩
  have l1 : p1 ≤ 4611686018427387905 := by rw [← hp1]; exact tm_le _
  have l2 : p2 ≤ 4611686018427387905 := by rw [← hp2]; exact tm_le _
  have l3 : p3 ≤ 4611686018427387905 := by rw [← hp3]; exact tm_le _
  have l4 : p4 ≤ 4611686018427387905 := by rw [← hp4]; exact tm_le _
  have k1 : Hid (∀ w, Calls Tryd.prog 81 #[.int .i64 (a : Int), .int .i64 (y : Int)] w fun e w' => e = .returned (.int .i64 (p1 : Int)) ∧ w' = w) := fun w => ptimes_c a y p1 (by omega) ha2 hp1.symm w
  have k2 : Hid (∀ w, Calls Tryd.prog 81 #[.int .i64 (b : Int), .int .i64 (x : Int)] w fun e w' => e = .returned (.int .i64 (p2 : Int)) ∧ w' = w) := fun w => ptimes_c b x p2 (by omega) hb2 hp2.symm w
  have k3 : Hid (∀ w, Calls Tryd.prog 80 #[.int .i64 (p1 : Int), .int .i64 (p2 : Int)] w fun e w' => e = .returned (.int .i64 (p3 : Int)) ∧ w' = w) := fun w => psum_c p1 p2 p3 l1 l2 hp3.symm w
  have k4 : Hid (∀ w, Calls Tryd.prog 80 #[.int .i64 (p3 : Int), .int .i64 (tw : Int)] w fun e w' => e = .returned (.int .i64 (p4 : Int)) ∧ w' = w) := fun w => psum_c p3 tw p4 l3 (by omega) hp4.symm w
  obtain ⟨p5, hp5⟩ : ∃ p5, tm (p4 + n) = p5 := ⟨_, rfl⟩
  have k5 : Hid (∀ w, Calls Tryd.prog 80 #[.int .i64 (p4 : Int), .int .i64 (n : Int)] w fun e w' => e = .returned (.int .i64 (p5 : Int)) ∧ w' = w) := fun w => psum_c p4 n p5 l4 (by omega) hp5.symm w
  have er : Hid (prc a b x y f = if f then p4 else p5) := by
    show _ = _
    unfold prc
    rw [hp1, hp2, hp3, htw, hp4, hn]
    cases f
    · exact hp5
    · show tm (p4 + 0) = p4
      rw [Nat.add_zero, ← hp4, tm_tm]
  rw [er.out, hn]
  have m1 : (a : Int) * (b : Int) = (n : Int) := by rw [castMul, hn]
  have m2 : (a6 : Int) * (b1 : Int) = (tw : Int) := by rw [castMul, ea6, eb1, htw]
  have a6l : a6 ≤ 98304 := by omega
  obtain ⟨wa, ewa⟩ : ∃ wa, Hid (w.alloc (.cells #[.int .i64 (a : Int), .int .i64 (x : Int)] 85) = wa) := ⟨_, (rfl : _ = _)⟩
  obtain ⟨wb, ewb⟩ : ∃ wb, Hid (wa.alloc (.cells #[.int .i64 (b : Int), .int .i64 (y : Int)] 85) = wb) := ⟨_, (rfl : _ = _)⟩
  obtain ⟨wc, ewc⟩ : ∃ wc, Hid (wb.alloc (.cells #[.int .i64 0, .int .i64 0] 85) = wc) := ⟨_, (rfl : _ = _)⟩
  have sa : wa.heap.size = w.heap.size + 1 := by rw [← ewa.out]; simp
  have sb : wb.heap.size = w.heap.size + 2 := by rw [← ewb.out]; simp [sa]
  have Ba : Below w.heap.size w wa := by rw [← ewa.out]; exact (Below.refl _ _).alloc (Nat.le_refl _) _
  have Bab : Below wa.heap.size wa wb := by rw [← ewb.out]; exact (Below.refl _ _).alloc (Nat.le_refl _) _
  have Bbc : Below wb.heap.size wb wc := by rw [← ewc.out]; exact (Below.refl _ _).alloc (Nat.le_refl _) _
  have Bc : Hid (Below w.heap.size w wc) := btr (btr Ba Bab) Bbc
  have Xc : Bm wc w.heap.size a x := by
    have h : Bm wa w.heap.size a x := by rw [← ewa.out]; exact Bm.new _ _ _
    exact (h.bel Bab).bel Bbc
  have Yc : Bm wc (w.heap.size + 1) b y := by
    have h : Bm wb wa.heap.size b y := by rw [← ewb.out]; exact Bm.new _ _ _
    rw [sa] at h; exact h.bel Bbc
  have Zc : Bm wc (w.heap.size + 2) 0 0 := by
    have h : Bm wc wb.heap.size 0 0 := by rw [← ewc.out]; exact Bm.new _ _ _
    rw [sb] at h; exact h
  have Ze : Hid (w.heap.size + 1 + 1 = w.heap.size + 2) := (rfl : _ = _)
  clear hn hab htw hp1 hp2 hp3 hp4 hp5 ea6 eb1 Ba Bab Bbc sa sb er l1 l2 l3 l4
  go_enter Tryd.func79, Tryd.ntmps79
  go_upto_region 1 with fail
  rw [ewa.out, ewb.out, ewc.out, Ze.out]
  obtain ⟨g, hg⟩ : ∃ g, Hid (w.heap.size = g) := ⟨_, (rfl : _ = _)⟩
  rw [hg.out] at Xc Yc Zc ⊢
  have x0 := Xc.c0
  have x1 := Xc.c1
  have y0 := Yc.c0
  have y1 := Yc.c1
  have ZH : Hid (Bm wc (g + 2) 0 0) := Zc
  clear Xc Yc Zc
  go_upto_region 3 with fail
  go_quiet (first
    | (go_at_call_of 81 (Value.int IntKind.i64 (a : Int)); exact Calls.quiet_of_same (k1.out _))
    | (go_at_call_of 81 (Value.int IntKind.i64 (b : Int)); exact Calls.quiet_of_same (k2.out _))
    | (go_at_call_of 80 (Value.int IntKind.i64 (p1 : Int)); exact Calls.quiet_of_same (k3.out _))
    | (go_at_call_of 80 (Value.int IntKind.i64 (p3 : Int)); exact Calls.quiet_of_same (k4.out _)))
  have Bq : Hid (Below w.heap.size w (wc.drewN nq)) := below_drewN Bc.out nq
  have Zq : Hid (Bm (wc.drewN nq) (g + 2) 0 0) := ⟨ZH.out.b⟩
  clear x0 x1 y0 y1 ZH k1 k2 k3 k4 Bc
  generalize wc.drewN nq = wd at *
  have z0 := Zq.out.c0
  have z1 := Zq.out.c1
  have f0 := Zq.out.fz 0
  have f1 := Zq.out.fz 1
  have fin : ∀ c : Nat, Hid ((((wd.setCell ⟨g + 2, 0, none⟩ (.int .i64 (n : Int))).setCell ⟨g + 2, 1, none⟩ (.int .i64 (c : Int))).cell? ⟨g + 2, 0, none⟩ = some (.int .i64 (n : Int)) ∧ ((wd.setCell ⟨g + 2, 0, none⟩ (.int .i64 (n : Int))).setCell ⟨g + 2, 1, none⟩ (.int .i64 (c : Int))).cell? ⟨g + 2, 1, none⟩ = some (.int .i64 (c : Int))) ∧ Below w.heap.size w ((wd.setCell ⟨g + 2, 0, none⟩ (.int .i64 (n : Int))).setCell ⟨g + 2, 1, none⟩ (.int .i64 (c : Int)))) := fun c => by
    refine ⟨⟨?_, ?_⟩, ?_⟩
    · rw [World.cell?_setCell_other _ _ _ _ (by simp)]
      exact World.cell?_setCell_same' _ _ _ (by rw [z0]; rfl)
    · exact World.cell?_setCell_same' _ _ _ (by rw [World.cell?_setCell_other _ _ _ _ (by simp), z1]; rfl)
    · exact (Bq.out.setCell (p := ⟨g + 2, 0, none⟩) (by rw [hg.out]; show g ≤ g + 2; omega) _).setCell (p := ⟨g + 2, 1, none⟩) (by rw [hg.out]; show g ≤ g + 2; omega) _
  cases f
  · have fin0 := fin p5
    clear fin
    go_wp2_with fail
    refine (k5.out _).mono ?_
    rintro e w' ⟨rfl, rfl⟩
    go_wp2_with fail
    have q0 := fin0.out.1.1
    have q1 := fin0.out.1.2
    refine bodyPost_ret (v := .agg #[.int .i64 (n : Int), .int .i64 (p5 : Int)]) (by simp [results, Tryd.results79, go_sem, q0, q1]) rfl ?_
    exact ⟨rfl, fin0.out.2⟩
  · have fin0 := fin p4
    clear fin
    go_wp2_with fail
    have q0 := fin0.out.1.1
    have q1 := fin0.out.1.2
    refine bodyPost_ret (v := .agg #[.int .i64 (n : Int), .int .i64 (p4 : Int)]) (by simp [results, Tryd.results79, go_sem, q0, q1]) rfl ?_
    exact ⟨rfl, fin0.out.2⟩
end Go.Proofs.YtoaccmblaifnmaaDoor
/-
  Package planner's measure: length and cost of a good order.
-/
namespace Go.Proofs.YtoaccmblaifnmaaDoor
open Flo Go.RowKit Tr
open Pl (tm)
theorem prc_tm (a b x y : Nat) (f : Bool) (ha : 1 ≤ a) (hb : 1 ≤ b) : prc a b (tm x) (tm y) f = tm (a * y + b * x + 6 * (a - 1) * (b - 1) + (if f then 0 else a * b)) := by
  unfold prc
  generalize (if f = true then 0 else a * b) = d
  generalize 6 * (a - 1) * (b - 1) = c
  have k : ∀ n z : Nat, 1 ≤ n → tm (n * tm z) = tm (n * z) := fun n z hn => by
    by_cases h : z ≤ 4611686018427387905
    · rw [show tm z = z by unfold tm; omega]
    · rw [show tm z = 4611686018427387905 by unfold tm; omega]
      unfold tm
      have h1 : 4611686018427387905 ≤ n * 4611686018427387905 := Nat.le_mul_of_pos_left _ hn
      have h2 : n * 4611686018427387905 ≤ n * z := Nat.mul_le_mul_left _ (by omega)
      omega
  rw [k a y ha, k b x hb]
  generalize a * y = p
  generalize b * x = q
  unfold tm
  omega
theorem cs_two (n : Int) (x y : Tr) : Pl.cs ⟨3, n, [x, y]⟩ = (Pl.ms x).2.1 * Pl.cs y + (Pl.ms y).2.1 * Pl.cs x + 6 * ((Pl.ms x).2.1 - 1) * ((Pl.ms y).2.1 - 1) + (if x.k = 2 then 0 else (Pl.ms x).2.1 * (Pl.ms y).2.1) := by
  unfold Pl.cs
  rw [Pl.ms_eq]
  unfold Pl.mc
  rw [if_neg (by decide), if_neg (by decide), if_pos rfl]
  simp only [List.map_cons, List.map_nil]
  rw [Pl.ms_k x]
theorem cs_one (n : Int) (x : Tr) : Pl.cs ⟨4, n, [x]⟩ = 3 * Pl.cs x + (12 * n.toNat + 10 * (Pl.ms x).2.1) := by
  unfold Pl.cs
  rw [Pl.ms_eq]
  unfold Pl.mc
  rw [if_neg (by decide), if_neg (by decide), if_neg (by decide)]
  simp only [List.map_cons, List.map_nil]
theorem cs_d (n : Int) : Pl.cs ⟨1, n, []⟩ = 8 * n.toNat * n.toNat := by
  unfold Pl.cs
  rw [Pl.ms_eq]
  rfl
theorem cs_f (n : Int) : Pl.cs ⟨2, n, []⟩ = Pl.wk n := by
  unfold Pl.cs
  rw [Pl.ms_eq]
  rfl
set_option maxHeartbeats 4000000 in
set_option maxRecDepth 100000 in
theorem measure_c (t : Tr) : ∀ (v : Value) (w : World), Od w t v → 0 < ln t → Calls Tryd.prog 52 #[v] w fun e w' => e = .returned (.agg #[.int .i64 (ln t : Int), .int .i64 (Pl.tcs t : Int)]) ∧ Below w.heap.size w w' := by
  refine Tr.ind (P := fun t => ∀ (v : Value) (w : World), Od w t v → 0 < ln t → Calls Tryd.prog 52 #[v] w fun e w' => e = .returned (.agg #[.int .i64 (ln t : Int), .int .i64 (Pl.tcs t : Int)]) ∧ Below w.heap.size w w') (fun k n ks ih0 v w ho hln => ?_) t
  have hll : Hid (ln ⟨k, n, ks⟩ ≤ 16384) := ln_le _
  obtain ⟨ao, cap, rfl, hl0, hk0⟩ := ho.kds
  obtain ⟨L, hL⟩ : ∃ L, Hid (ks.length = L) := ⟨_, (rfl : _ = _)⟩
  have hk : Hid (Kds w ao L ks) := by show Kds _ _ _ _; rw [← hL.out]; exact hk0
  rw [hL.out]
  obtain ⟨wa, ewa⟩ : ∃ wa, Hid (w.alloc (.cells #[.int .i64 k, .int .i64 n, .slice ao L cap] 24) = wa) := ⟨_, (rfl : _ = _)⟩
  obtain ⟨wb, ewb⟩ : ∃ wb, Hid (wa.alloc (.cells #[.int .i64 0, .int .i64 0] 85) = wb) := ⟨_, (rfl : _ = _)⟩
  have sa : wa.heap.size = w.heap.size + 1 := by rw [← ewa.out]; simp
  have Ba : Below w.heap.size w wa := by rw [← ewa.out]; exact (Below.refl _ _).alloc (Nat.le_refl _) _
  have Bab : Below wa.heap.size wa wb := by rw [← ewb.out]; exact (Below.refl _ _).alloc (Nat.le_refl _) _
  have Bb : Hid (Below w.heap.size w wb) := btr Ba Bab
  have Xb : Hid (Bo wb w.heap.size k n (.slice ao L cap)) := by
    have h : Bo wa w.heap.size k n (.slice ao L cap) := by rw [← ewa.out]; exact Bo.new _ _ _ _
    exact h.bel Bab
  have Yb : Hid (Bm wb (w.heap.size + 1) 0 0) := by
    have h : Bm wb wa.heap.size 0 0 := by rw [← ewb.out]; exact Bm.new _ _ _
    rw [sa] at h; exact h
  obtain ⟨g, hg⟩ : ∃ g, Hid (w.heap.size = g) := ⟨_, (rfl : _ = _)⟩
  rw [hg.out] at Xb Yb
  have fin : Hid (∀ (W : World) (x c : Nat), Below w.heap.size w W → Bm W (g + 1) 0 0 → ((((W.setCell ⟨g + 1, 0, none⟩ (.int .i64 (x : Int))).setCell ⟨g + 1, 1, none⟩ (.int .i64 (c : Int))).cell? ⟨g + 1, 0, none⟩ = some (.int .i64 (x : Int)) ∧ ((W.setCell ⟨g + 1, 0, none⟩ (.int .i64 (x : Int))).setCell ⟨g + 1, 1, none⟩ (.int .i64 (c : Int))).cell? ⟨g + 1, 1, none⟩ = some (.int .i64 (c : Int))) ∧ Below w.heap.size w ((W.setCell ⟨g + 1, 0, none⟩ (.int .i64 (x : Int))).setCell ⟨g + 1, 1, none⟩ (.int .i64 (c : Int))))) := fun W x c hb hz => by
    refine ⟨⟨?_, ?_⟩, ?_⟩
    · rw [World.cell?_setCell_other _ _ _ _ (by simp)]
      exact World.cell?_setCell_same' _ _ _ (by rw [hz.c0]; rfl)
    · exact World.cell?_setCell_same' _ _ _ (by rw [World.cell?_setCell_other _ _ _ _ (by simp), hz.c1]; rfl)
    · exact (hb.setCell (p := ⟨g + 1, 0, none⟩) (by rw [hg.out]; show g ≤ g + 1; omega) _).setCell (p := ⟨g + 1, 1, none⟩) (by rw [hg.out]; show g ≤ g + 1; omega) _
  obtain ⟨R, hR⟩ : ∃ R, Hid (ln ⟨k, n, ks⟩ = R) := ⟨_, (rfl : _ = _)⟩
  obtain ⟨Cc, hCc⟩ : ∃ C, Hid (Pl.tcs ⟨k, n, ks⟩ = C) := ⟨_, (rfl : _ = _)⟩
  have hinv := ln_inv hln
  rw [hR.out, hCc.out]
  rw [hR.out] at hinv
  have ih : Hid (∀ t ∈ ks, ∀ (v : Value) (w : World), Od w t v → 0 < ln t → Calls Tryd.prog 52 #[v] w fun e w' => e = .returned (.agg #[.int .i64 (ln t : Int), .int .i64 (Pl.tcs t : Int)]) ∧ Below w.heap.size w w') := ih0
  clear hk0 hl0 ih0 ho Ba Bab sa hln
  have x0 := Xb.out.c0
  have x1 := Xb.out.c1
  have x2 := Xb.out.c2
  have y0 := Yb.out.c0
  have y1 := Yb.out.c1
  have yf0 := Yb.out.fz 0
  have yf1 := Yb.out.fz 1
  rcases hinv with ⟨rfl, hn, rfl⟩ | ⟨rfl, hn, rfl⟩ | ⟨rfl, rfl, x, y, rfl, hx2, hy2, hxy⟩ | ⟨rfl, hn, x, rfl, hxl⟩
  · obtain ⟨m, rfl⟩ : ∃ m : Nat, n = (m : Int) := ⟨n.toNat, by omega⟩
    obtain ⟨m8, hm8⟩ : ∃ m8 : Nat, 8 * (m : Int) = (m8 : Int) := ⟨8 * m, by omega⟩
    have eR : R = m := by
      rw [← hR.out, ln_eq]; unfold lnc; rw [if_pos rfl, if_pos ⟨hn.1, hn.2, rfl⟩]; simp
    have eC : (m8 : Int) * (m : Int) = (Cc : Int) := by
      rw [castMul, ← hCc.out]
      unfold Pl.tcs tm
      rw [cs_d, Int.toNat_natCast]
      have e8 : m8 = 8 * m := by omega
      have hb : m8 * m ≤ 512 * 64 := Nat.mul_le_mul (by omega) (by omega)
      rw [← e8]
      omega
    have hC2 : Cc ≤ 100000 := by
      have hb : m8 * m ≤ 512 * 64 := Nat.mul_le_mul (by omega) (by omega)
      rw [castMul] at eC
      omega
    subst eR
    have fin0 : Hid _ := fin.out wb R Cc Bb.out Yb.out
    have hm1 : R ≤ 64 := by omega
    have hm2 : m8 ≤ 512 := by omega
    clear hn hk hL ih hR hCc hll fin
    go_enter Tryd.func52, Tryd.ntmps52
    go_upto_region 1 with fail
    rw [ewa.out, ewb.out, hg.out]
    go_wp2_with fail
    have q0 := fin0.out.1.1
    have q1 := fin0.out.1.2
    refine bodyPost_ret (v := .agg #[.int .i64 (R : Int), .int .i64 (Cc : Int)]) (by simp [results, Tryd.results52, go_sem, q0, q1]) rfl ?_
    exact ⟨rfl, fin0.out.2⟩
  · obtain ⟨m, rfl⟩ : ∃ m : Nat, n = (m : Int) := ⟨n.toNat, by omega⟩
    have eR : R = m := by
      rw [← hR.out, ln_eq]; unfold lnc; rw [if_neg (by decide), if_pos rfl, if_pos ⟨hn.1, hn.2, rfl⟩]; simp
    have eC : Hid (Cc = Pl.wk m) := by
      show _ = _
      rw [← hCc.out]
      unfold Pl.tcs tm
      rw [cs_f]
      unfold Pl.wk
      repeat' split
      all_goals decide
    subst eR
    have fin0 : Hid _ := fin.out wb R Cc Bb.out Yb.out
    have hw := work_c R (by omega) (by omega) wb
    have hm1 : R ≤ 5 := by omega
    clear hn hk hL ih hR hCc hll fin
    go_enter Tryd.func52, Tryd.ntmps52
    go_upto_region 1 with fail
    rw [ewa.out, ewb.out, hg.out]
    go_wp2_with fail
    refine hw.mono ?_
    rintro e w' ⟨⟨a, b, rfl, hab, ha, hb⟩, rfl⟩
    have e1 : (a : Int) + (b : Int) = (Cc : Int) := by have := eC.out; omega
    clear hw hab
    go_wp2_with fail
    have q0 := fin0.out.1.1
    have q1 := fin0.out.1.2
    refine bodyPost_ret (v := .agg #[.int .i64 (R : Int), .int .i64 (Cc : Int)]) (by simp [results, Tryd.results52, go_sem, q0, q1]) rfl ?_
    exact ⟨rfl, fin0.out.2⟩
  · obtain ⟨A, hA⟩ : ∃ A, Hid (ln x = A) := ⟨_, (rfl : _ = _)⟩
    obtain ⟨B, hB⟩ : ∃ B, Hid (ln y = B) := ⟨_, (rfl : _ = _)⟩
    obtain ⟨cx, hcx⟩ : ∃ c, Hid (Pl.tcs x = c) := ⟨_, (rfl : _ = _)⟩
    obtain ⟨cy, hcy⟩ : ∃ c, Hid (Pl.tcs y = c) := ⟨_, (rfl : _ = _)⟩
    have ihx : Hid (∀ (v : Value) (w : World), Od w x v → Calls Tryd.prog 52 #[v] w fun e w' => e = .returned (.agg #[.int .i64 (A : Int), .int .i64 (cx : Int)]) ∧ Below w.heap.size w w') := fun v w h => by
      have := ih.out x (by simp) v w h (by omega)
      rw [hA.out, hcx.out] at this; exact this
    have ihy : Hid (∀ (v : Value) (w : World), Od w y v → Calls Tryd.prog 52 #[v] w fun e w' => e = .returned (.agg #[.int .i64 (B : Int), .int .i64 (cy : Int)]) ∧ Below w.heap.size w w') := fun v w h => by
      have := ih.out y (by simp) v w h (by omega)
      rw [hB.out, hcy.out] at this; exact this
    have hab : A * B ≤ 16384 := by
      have := hll.out
      rw [hR.out, ← hxy, hA.out, hB.out] at this
      exact this
    have eC : Hid (prc A B cx cy (x.k == 2) = Cc) := by
      show _ = _
      rw [← hCc.out, ← hcx.out, ← hcy.out]
      unfold Pl.tcs
      rw [prc_tm A B _ _ _ (by rw [← hA.out]; omega) (by rw [← hB.out]; omega), cs_two, Pl.ms_ln x (by omega), Pl.ms_ln y (by omega), hA.out, hB.out]
      by_cases hxk : x.k = 2
      · rw [if_pos hxk]; simp [hxk]
      · rw [if_neg hxk]; simp [hxk]
    have hprH : Hid (∀ w, Calls Tryd.prog 79 #[.agg #[.int .i64 (A : Int), .int .i64 (cx : Int)], .agg #[.int .i64 (B : Int), .int .i64 (cy : Int)], .bool (x.k == 2)] w fun e w' => e = .returned (.agg #[.int .i64 (R : Int), .int .i64 (Cc : Int)]) ∧ Below w.heap.size w w') := fun w => by
      have := pproduct_c A B cx cy (x.k == 2) (by rw [← hA.out]; exact hx2) (by rw [← hB.out]; exact hy2) hab w
      rw [eC.out, show A * B = R by rw [← hA.out, ← hB.out]; exact hxy] at this
      exact this
    obtain rfl : L = 2 := by rw [← hL.out]; rfl
    obtain ⟨b0, off0, s0, x', ex, K0⟩ := hk.out 0 (by decide)
    obtain ⟨b1, off1, s1, y', ey, K1⟩ := hk.out 1 (by decide)
    have e0 := K0.at0
    have e1 := K1.at0
    rw [e0] at e1
    obtain rfl : x = x' := by simpa using ex
    obtain rfl : y = y' := by simpa using ey
    obtain rfl := e0
    obtain ⟨rfl, rfl⟩ : b0 = b1 ∧ off0 = off1 := by simpa using e1
    obtain ⟨a0, l0, p0, rfl⟩ := K0.slc
    obtain ⟨a1, l1, p1, rfl⟩ := K1.slc
    have odx : Hid (Od w x (.agg #[.int .i64 x.k, .int .i64 x.n, .slice a0 l0 p0])) := K0.od
    have ody : Hid (Od w y (.agg #[.int .i64 y.k, .int .i64 y.n, .slice a1 l1 p1])) := K1.od
    have hS : Hid (∀ Z, Below wb.heap.size wb Z → (Z.cell? ⟨g, 2, none⟩ = some (.slice (some ⟨b0, off0, none⟩) 2 cap) ∧ Z.cell? ⟨b0, off0, none⟩ = some (.int .i64 x.k) ∧ Z.cell? ⟨b0, off0 + 1, none⟩ = some (.int .i64 x.n) ∧ Z.cell? ⟨b0, off0 + 2, none⟩ = some (.slice a0 l0 p0) ∧ Z.cell? ⟨b0, off0 + 3, none⟩ = some (.int .i64 y.k) ∧ Z.cell? ⟨b0, off0 + 3 + 1, none⟩ = some (.int .i64 y.n) ∧ Z.cell? ⟨b0, off0 + 3 + 2, none⟩ = some (.slice a1 l1 p1))) := fun Z hZ => by
      have k0 := K0.below (btr Bb.out hZ)
      have k1 := K1.below (btr Bb.out hZ)
      have c0 := k0.c0
      have c1 := k0.c1
      have c2 := k0.c2
      have d0 := k1.c0
      have d1 := k1.c1
      have d2 := k1.c2
      rw [Nat.zero_mul, Nat.add_zero] at c0 c1 c2
      rw [Nat.one_mul] at d0 d1 d2
      exact ⟨(Xb.out.bel hZ).c2, c0, c1, c2, d0, d1, d2⟩
    obtain ⟨xk, hxk⟩ : ∃ xk, Hid (x.k = xk) := ⟨_, (rfl : _ = _)⟩
    obtain ⟨xn, hxn⟩ : ∃ xn, Hid (x.n = xn) := ⟨_, (rfl : _ = _)⟩
    obtain ⟨yk, hyk⟩ : ∃ yk, Hid (y.k = yk) := ⟨_, (rfl : _ = _)⟩
    obtain ⟨yn, hyn⟩ : ∃ yn, Hid (y.n = yn) := ⟨_, (rfl : _ = _)⟩
    rw [hxk.out, hxn.out] at odx hS
    rw [hxk.out] at hprH
    rw [hyk.out, hyn.out] at ody hS
    have bD : Hid (Below wb.heap.size wb wb.drew) := (Below.refl _ _).drew
    have hb0 : b0 ≠ g + 1 := by have := K0.lt; rw [hg.out] at this; omega
    have hSt : Hid (∀ (Z : World) (u u' : Value), (Z.cell? ⟨g, 2, none⟩ = some (.slice (some ⟨b0, off0, none⟩) 2 cap) ∧ Z.cell? ⟨b0, off0, none⟩ = some (.int .i64 xk) ∧ Z.cell? ⟨b0, off0 + 1, none⟩ = some (.int .i64 xn) ∧ Z.cell? ⟨b0, off0 + 2, none⟩ = some (.slice a0 l0 p0) ∧ Z.cell? ⟨b0, off0 + 3, none⟩ = some (.int .i64 yk) ∧ Z.cell? ⟨b0, off0 + 3 + 1, none⟩ = some (.int .i64 yn) ∧ Z.cell? ⟨b0, off0 + 3 + 2, none⟩ = some (.slice a1 l1 p1)) → (((Z.setCell ⟨g + 1, 0, none⟩ u).setCell ⟨g + 1, 1, none⟩ u').cell? ⟨g, 2, none⟩ = some (.slice (some ⟨b0, off0, none⟩) 2 cap) ∧ ((Z.setCell ⟨g + 1, 0, none⟩ u).setCell ⟨g + 1, 1, none⟩ u').cell? ⟨b0, off0, none⟩ = some (.int .i64 xk) ∧ ((Z.setCell ⟨g + 1, 0, none⟩ u).setCell ⟨g + 1, 1, none⟩ u').cell? ⟨b0, off0 + 1, none⟩ = some (.int .i64 xn) ∧ ((Z.setCell ⟨g + 1, 0, none⟩ u).setCell ⟨g + 1, 1, none⟩ u').cell? ⟨b0, off0 + 2, none⟩ = some (.slice a0 l0 p0) ∧ ((Z.setCell ⟨g + 1, 0, none⟩ u).setCell ⟨g + 1, 1, none⟩ u').cell? ⟨b0, off0 + 3, none⟩ = some (.int .i64 yk) ∧ ((Z.setCell ⟨g + 1, 0, none⟩ u).setCell ⟨g + 1, 1, none⟩ u').cell? ⟨b0, off0 + 3 + 1, none⟩ = some (.int .i64 yn) ∧ ((Z.setCell ⟨g + 1, 0, none⟩ u).setCell ⟨g + 1, 1, none⟩ u').cell? ⟨b0, off0 + 3 + 2, none⟩ = some (.slice a1 l1 p1))) := fun Z u u' ⟨q1, q2, q3, q4, q5, q6, q7⟩ => by
      refine ⟨?_, ?_, ?_, ?_, ?_, ?_, ?_⟩
      all_goals rw [World.cell?_setCell_other _ _ _ _ (by intro e; have h9 := congrArg Addr.block e; simp only at h9; omega), World.cell?_setCell_other _ _ _ _ (by intro e; have h9 := congrArg Addr.block e; simp only at h9; omega)]; assumption
    clear hb0 hk hL ih hR hCc hll hA hB hcx hcy hab eC ex ey e1 K0 K1 hxy hx2 hy2 x0 x1 x2 y0 y1 yf0 yf1
    obtain ⟨s0, s1, s2, s3, s4, s5, s6⟩ := hS.out wb (Below.refl _ _)
    have x0 := Xb.out.c0
    go_enter Tryd.func52, Tryd.ntmps52
    go_upto_region 1 with fail
    rw [ewa.out, ewb.out, hg.out]
    go_upto_region 10 with fail
    go_region_held_law (fun Z => Z.cell? ⟨g, 2, none⟩ = some (.slice (some ⟨b0, off0, none⟩) 2 cap) ∧ Z.cell? ⟨b0, off0, none⟩ = some (.int .i64 xk) ∧ Z.cell? ⟨b0, off0 + 1, none⟩ = some (.int .i64 xn) ∧ Z.cell? ⟨b0, off0 + 2, none⟩ = some (.slice a0 l0 p0) ∧ Z.cell? ⟨b0, off0 + 3, none⟩ = some (.int .i64 yk) ∧ Z.cell? ⟨b0, off0 + 3 + 1, none⟩ = some (.int .i64 yn) ∧ Z.cell? ⟨b0, off0 + 3 + 2, none⟩ = some (.slice a1 l1 p1)) (first | exact hSt.out _ _ _ (hS.out _ hb3.out) | exact hS.out _ hb3.out | exact hS.out _ hb2.out | exact hS.out _ hb1.out | exact hS.out _ bD.out | trivial) ((first
      | (go_at_call_of 52 (Value.slice a0 l0 p0)
         refine (ihx.out _ _ (Od.below (btr Bb.out bD.out) _ _ odx.out)).mono ?_
         rintro e w1 ⟨rfl, B1⟩
         have hb1 : Hid (Below wb.heap.size wb w1) := bD.out.trans B1
         clear B1)
      | (go_at_call_of 52 (Value.slice a1 l1 p1)
         refine (ihy.out _ _ (Od.below (btr Bb.out hb1.out) _ _ ody.out)).mono ?_
         rintro e w2 ⟨rfl, B2⟩
         have hb2 : Hid (Below wb.heap.size wb w2) := btr hb1.out B2
         clear B2)
      | (go_at_call 79
         refine (hprH.out _).mono ?_
         rintro e w3 ⟨rfl, B3⟩
         have hb3 : Hid (Below wb.heap.size wb w3) := btr hb2.out B3
         have y0 := (Yb.out.bel hb3.out).c0
         have y1 := (Yb.out.bel hb3.out).c1
         have yf0 := (Yb.out.bel hb3.out).fz 0
         have yf1 := (Yb.out.bel hb3.out).fz 1
         clear B3)
      | fail))
    have fin0 : Hid _ := fin.out w3 R Cc (btr Bb.out hb3.out) (Yb.out.bel hb3.out)
    go_wp2_with fail
    have q0 := fin0.out.1.1
    have q1 := fin0.out.1.2
    refine bodyPost_ret (v := .agg #[.int .i64 (R : Int), .int .i64 (Cc : Int)]) (by simp [results, Tryd.results52, go_sem, q0, q1]) rfl ?_
    exact ⟨rfl, fin0.out.2⟩
  · obtain ⟨m, rfl⟩ : ∃ m : Nat, n = (m : Int) := ⟨n.toNat, by omega⟩
    obtain ⟨A, hA⟩ : ∃ A, Hid (ln x = A) := ⟨_, (rfl : _ = _)⟩
    have hA2 : A ≤ 16384 := by rw [← hA.out]; exact ln_le _
    have hA0 : 0 < A := by rw [← hA.out]; omega
    obtain ⟨cx, hcx⟩ : ∃ c, Hid (Pl.tcs x = c) := ⟨_, (rfl : _ = _)⟩
    have ihx : Hid (∀ (v : Value) (w : World), Od w x v → Calls Tryd.prog 52 #[v] w fun e w' => e = .returned (.agg #[.int .i64 (A : Int), .int .i64 (cx : Int)]) ∧ Below w.heap.size w w') := fun v w h => by
      have := ih.out x (by simp) v w h (by rw [hA.out]; exact hA0)
      rw [hA.out, hcx.out] at this; exact this
    have eR : R = m := by
      rw [← hR.out, ln_eq]; unfold lnc; rw [if_neg (by decide), if_neg (by decide), if_neg (by decide), if_pos rfl, if_pos hn]
      simp only [List.map_cons, List.map_nil]
      unfold Tr.blu
      dsimp only
      rw [if_pos hxl]; simp
    obtain ⟨t3, ht3⟩ : ∃ t3, tm (3 * cx) = t3 := ⟨_, rfl⟩
    obtain ⟨m12, hm12⟩ : ∃ z : Nat, 12 * (R : Int) = (z : Int) := ⟨12 * R, by omega⟩
    obtain ⟨a10, ha10⟩ : ∃ z : Nat, 10 * (A : Int) = (z : Int) := ⟨10 * A, by omega⟩
    obtain ⟨sm, hsm⟩ : ∃ z : Nat, (m12 : Int) + (a10 : Int) = (z : Int) := ⟨m12 + a10, by omega⟩
    have eC : tm (t3 + sm) = Cc := by
      rw [← hCc.out]
      unfold Pl.tcs
      rw [cs_one, Int.toNat_natCast, Pl.ms_ln x (by rw [hA.out]; exact hA0), hA.out, ← ht3, ← hcx.out]
      unfold Pl.tcs
      have e1 : sm = 12 * m + 10 * A := by omega
      rw [e1]
      generalize Pl.cs x = c
      generalize 12 * m + 10 * A = d
      unfold tm
      omega
    subst eR
    have hmb : R ≤ 8192 := by omega
    have k1 : Hid (∀ w, Calls Tryd.prog 81 #[.int .i64 3, .int .i64 (cx : Int)] w fun e w' => e = .returned (.int .i64 (t3 : Int)) ∧ w' = w) := fun w => by
      have := ptimes_c 3 cx t3 (by decide) (by decide) ht3.symm w
      rw [show ((3 : Nat) : Int) = 3 from rfl] at this
      exact this
    have k2 : Hid (∀ w, Calls Tryd.prog 80 #[.int .i64 (t3 : Int), .int .i64 (sm : Int)] w fun e w' => e = .returned (.int .i64 (Cc : Int)) ∧ w' = w) := fun w => psum_c t3 sm Cc (by rw [← ht3]; exact tm_le _) (by omega) eC.symm w
    obtain rfl : L = 1 := by rw [← hL.out]; rfl
    obtain ⟨b0, off0, s0, x', ex, K0⟩ := hk.out 0 (by decide)
    have e0 := K0.at0
    obtain rfl : x = x' := by simpa using ex
    obtain rfl := e0
    obtain ⟨a0, l0, p0, rfl⟩ := K0.slc
    have K0b := K0.below Bb.out
    have odx : Hid (Od wb x (.agg #[.int .i64 x.k, .int .i64 x.n, .slice a0 l0 p0])) := K0b.od
    have c0 := K0b.c0
    have c1 := K0b.c1
    have c2 := K0b.c2
    rw [Nat.zero_mul, Nat.add_zero] at c0 c1 c2
    have hsb : sm ≤ 400000 := by omega
    have hm12b : m12 ≤ 100000 := by omega
    have ha10b : a10 ≤ 200000 := by omega
    have wq1 : IntKind.i64.wrap (m12 : Int) = (m12 : Int) := by rw [IntKind.wrap_i64]; omega
    have wq2 : IntKind.i64.wrap (a10 : Int) = (a10 : Int) := by rw [IntKind.wrap_i64]; omega
    have wq3 : IntKind.i64.wrap (sm : Int) = (sm : Int) := by rw [IntKind.wrap_i64]; omega
    generalize x.k = xk at *
    generalize x.n = xn at *
    clear hk hL ih hR hCc hll hA hcx ex K0 K0b hxl hn ht3 eC hA0
    go_enter Tryd.func52, Tryd.ntmps52
    go_upto_region 1 with fail
    rw [ewa.out, ewb.out, hg.out]
    go_wp2_with fail
    refine (ihx.out _ _ odx.out).mono ?_
    rintro e w1 ⟨rfl, B1⟩
    obtain ⟨wd, ewd⟩ : ∃ wd, Hid (w1.alloc (.cells #[.int .i64 (A : Int), .int .i64 (cx : Int)] 85) = wd) := ⟨_, (rfl : _ = _)⟩
    have B1d : Below w1.heap.size w1 wd := by rw [← ewd.out]; exact (Below.refl _ _).alloc (Nat.le_refl _) _
    have Bd : Hid (Below w.heap.size w wd) := btr (btr Bb.out B1) B1d
    have Xd : Hid (Bo wd g 4 R (.slice (some ⟨b0, off0, none⟩) 1 cap)) := (Xb.out.bel B1).bel B1d
    have Yd : Hid (Bm wd (g + 1) 0 0) := (Yb.out.bel B1).bel B1d
    have Zd : Hid (Bm wd w1.heap.size A cx) := by show Bm _ _ _ _; rw [← ewd.out]; exact Bm.new _ _ _
    have hlt1 : Hid (g + 1 < w1.heap.size) := blk_lt (Yb.out.bel B1).b
    clear B1 B1d x0 x1 x2 y0 y1 yf0 yf1 c0 c1 c2 odx ihx Bb Xb Yb
    go_upto_region 3 with fail
    rw [ewd.out]
    obtain ⟨z, hz⟩ : ∃ z, Hid (w1.heap.size = z) := ⟨_, (rfl : _ = _)⟩
    rw [hz.out] at Zd ⊢
    have x1 := Xd.out.c1
    have z0 := Zd.out.c0
    have z1 := Zd.out.c1
    have y0 := Yd.out.c0
    have y1 := Yd.out.c1
    have yf0 := Yd.out.fz 0
    have yf1 := Yd.out.fz 1
    have z0' : wd.drew.cell? ⟨g + 1, 0, none⟩ = some (.int .i64 0) := y0
    have z1' : wd.drew.cell? ⟨g + 1, 1, none⟩ = some (.int .i64 0) := y1
    have zf0' : wd.drew.frozen? ⟨g + 1, 0, none⟩ = false := yf0
    have zf1' : wd.drew.frozen? ⟨g + 1, 1, none⟩ = false := yf1
    have hzg : g + 1 < z := by rw [← hz.out]; exact hlt1.out
    have hSt : Hid (∀ (Z : World) (u u' : Value), (Z.cell? ⟨g, 1, none⟩ = some (.int .i64 (R : Int)) ∧ Z.cell? ⟨z, 0, none⟩ = some (.int .i64 (A : Int)) ∧ Z.cell? ⟨z, 1, none⟩ = some (.int .i64 (cx : Int))) → (((Z.setCell ⟨g + 1, 0, none⟩ u).setCell ⟨g + 1, 1, none⟩ u').cell? ⟨g, 1, none⟩ = some (.int .i64 (R : Int)) ∧ ((Z.setCell ⟨g + 1, 0, none⟩ u).setCell ⟨g + 1, 1, none⟩ u').cell? ⟨z, 0, none⟩ = some (.int .i64 (A : Int)) ∧ ((Z.setCell ⟨g + 1, 0, none⟩ u).setCell ⟨g + 1, 1, none⟩ u').cell? ⟨z, 1, none⟩ = some (.int .i64 (cx : Int)))) := fun Z u u' ⟨q1, q2, q3⟩ => by
      refine ⟨?_, ?_, ?_⟩
      all_goals rw [World.cell?_setCell_other _ _ _ _ (by intro e; have h9 := congrArg Addr.block e; simp only at h9; omega), World.cell?_setCell_other _ _ _ _ (by intro e; have h9 := congrArg Addr.block e; simp only at h9; omega)]; assumption
    have hS : Hid ((fun Z : World => Z.cell? ⟨g, 1, none⟩ = some (.int .i64 (R : Int)) ∧ Z.cell? ⟨z, 0, none⟩ = some (.int .i64 (A : Int)) ∧ Z.cell? ⟨z, 1, none⟩ = some (.int .i64 (cx : Int))) wd.drew) := ⟨x1, z0, z1⟩
    clear hzg
    go_region_held_law (fun Z => Z.cell? ⟨g, 1, none⟩ = some (.int .i64 (R : Int)) ∧ Z.cell? ⟨z, 0, none⟩ = some (.int .i64 (A : Int)) ∧ Z.cell? ⟨z, 1, none⟩ = some (.int .i64 (cx : Int))) (first | exact hSt.out _ _ _ hS.out | exact hS.out) ((first
      | (go_at_call 81; refine (k1.out _).mono ?_; rintro e w' ⟨rfl, rfl⟩)
      | (go_at_call 80; refine (k2.out _).mono ?_; rintro e w' ⟨rfl, rfl⟩)
      | fail))
    have fin0 : Hid _ := fin.out wd R Cc Bd.out Yd.out
    go_wp2_with fail
    have q0 : (((wd.setCell ⟨g + 1, 0, none⟩ (.int .i64 (R : Int))).setCell ⟨g + 1, 1, none⟩ (.int .i64 (Cc : Int))).drew).cell? ⟨g + 1, 0, none⟩ = some (.int .i64 (R : Int)) := fin0.out.1.1
    have q1 : (((wd.setCell ⟨g + 1, 0, none⟩ (.int .i64 (R : Int))).setCell ⟨g + 1, 1, none⟩ (.int .i64 (Cc : Int))).drew).cell? ⟨g + 1, 1, none⟩ = some (.int .i64 (Cc : Int)) := fin0.out.1.2
    refine bodyPost_ret (v := .agg #[.int .i64 (R : Int), .int .i64 (Cc : Int)]) (by simp [results, Tryd.results52, go_sem, q0, q1]) rfl ?_
    exact ⟨rfl, fin0.out.2.drew⟩
end Go.Proofs.YtoaccmblaifnmaaDoor
/-
  Layer 14, plain: the candidates of a length one after another; the cheapest of a length that has small factors alone is cheap.
-/
namespace Go.Proofs.YtoaccmblaifnmaaDoor
open Tr
namespace Pl
theorem flt_succ (a : Nat) : ∀ (l : List Nat), l.Pairwise (· < ·) → l.filter (fun x => decide (x < a + 1)) = l.filter (fun x => decide (x < a)) ++ if a ∈ l then [a] else []
  | [], _ => by simp
  | x :: l, h => by
    have h1 := List.pairwise_cons.1 h
    have ih := flt_succ a l h1.2
    by_cases hx : x < a
    · have hne : a ≠ x := by omega
      rw [List.filter_cons_of_pos (by simp; omega), List.filter_cons_of_pos (by simpa using hx), ih]
      simp [hne]
    · have e1 : l.filter (fun x => decide (x < a)) = [] := by
        rw [List.filter_eq_nil_iff]
        intro y hy
        have := h1.1 y hy
        simp only [decide_eq_true_eq]; omega
      rw [e1, List.nil_append] at ih
      rw [List.filter_cons_of_neg (p := fun x => decide (x < a)) (by simpa using hx), e1, List.nil_append]
      by_cases hxa : x = a
      · subst hxa
        have hn : x ∉ l := fun hm => Nat.lt_irrefl x (h1.1 x hm)
        rw [List.filter_cons_of_pos (by simp), ih]
        simp [hn]
      · have hn : a ∉ x :: l := fun hm => by
          rcases List.mem_cons.1 hm with e | e
          · omega
          · have := h1.1 a e; omega
        have hn2 : a ∉ l := fun hm => hn (List.mem_cons_of_mem _ hm)
        rw [List.filter_cons_of_neg (by simp; omega), ih, if_neg hn, if_neg hn2]
/-- the candidates up to the divisor a -/
def acc (D : Int) (F : List Int) (sec : Nat → List Tr) (n a : Nat) : List Tr := lvs D F n ++ ((Nt.divs n).filter fun x => decide (x < a)).flatMap (stp D F sec n)
theorem acc_two (D : Int) (F : List Int) (sec : Nat → List Tr) (n : Nat) : acc D F sec n 2 = lvs D F n := by
  unfold acc
  have e : ((Nt.divs n).filter fun x => decide (x < 2)).flatMap (stp D F sec n) = [] := by
    rw [List.flatMap_eq_nil_iff]
    intro x hx
    have := (List.mem_filter.1 hx).2
    simp only [decide_eq_true_eq] at this
    unfold stp
    rw [if_neg (by omega)]
  rw [e, List.append_nil]
theorem acc_skip {D : Int} {F : List Int} {sec : Nat → List Tr} {n a : Nat} (hn : 1 ≤ n) (h : ¬ a ∣ n) : acc D F sec n (a + 1) = acc D F sec n a := by
  unfold acc
  rw [flt_succ a _ (Nt.divs_sorted n), if_neg (fun hm => h ((Nt.mem_divs hn).1 hm)), List.append_nil]
theorem acc_dvd {D : Int} {F : List Int} {sec : Nat → List Tr} {n a : Nat} (hn : 1 ≤ n) (h : a ∣ n) (h1 : 1 < a) (h2 : a < n) : acc D F sec n (a + 1) = acc D F sec n a ++ (lvs D F a).flatMap fun l => (sec (n / a)).map fun b => ⟨3, 0, [l, b]⟩ := by
  unfold acc
  rw [flt_succ a _ (Nt.divs_sorted n), if_pos ((Nt.mem_divs hn).2 h), List.flatMap_append, ← List.append_assoc]
  congr 1
  rw [List.flatMap_cons, List.flatMap_nil, List.append_nil]
  unfold stp
  rw [if_pos ⟨h1, h2⟩]
theorem flt_all {α β : Type} {f : α → List β} {P : α → Bool} : ∀ (l : List α), (∀ x ∈ l, P x = false → f x = []) → (l.filter P).flatMap f = l.flatMap f
  | [], _ => rfl
  | x :: l, h => by
    have ih := flt_all l fun y hy => h y (List.mem_cons_of_mem _ hy)
    cases hp : P x with
    | true => rw [List.filter_cons_of_pos hp, List.flatMap_cons, List.flatMap_cons, ih]
    | false => rw [List.filter_cons_of_neg (by simp [hp]), List.flatMap_cons, h x (by simp) hp, List.nil_append, ih]
theorem acc_end {D : Int} {F : List Int} {sec : Nat → List Tr} {bl : List Tr} {n a : Nat} (h : n ≤ a) : acc D F sec n a ++ bl = cnd D F sec bl n := by
  unfold acc cnd
  congr 2
  refine flt_all _ fun x _ hx => ?_
  simp only [decide_eq_false_iff_not] at hx
  unfold stp
  rw [if_neg (by omega)]
/-- the cost that stands for what was met; -1: nothing yet -/
def lsv (l : List Tr) : Int := if l = [] then -1 else ((pks l).2 : Int)
def bst (l : List Tr) : Tr := (pks l).1
theorem lsv_nil : lsv [] = -1 := rfl
theorem bst_nil : bst [] = ⟨0, 0, []⟩ := rfl
theorem lsv_pos {l : List Tr} (h : l ≠ []) : 0 ≤ lsv l ∧ lsv l = (tcs (bst l) : Int) := by
  unfold lsv bst
  rw [if_neg h]
  rcases pks_mem l with ⟨h1, _⟩ | ⟨_, h2⟩
  · exact absurd h1 h
  · rw [h2]; exact ⟨by omega, rfl⟩
theorem bst_mem {l : List Tr} (h : l ≠ []) : bst l ∈ l := by
  rcases pks_mem l with ⟨h1, _⟩ | ⟨h2, _⟩
  · exact absurd h1 h
  · exact h2
theorem lsv_yes {l : List Tr} {t : Tr} (h : lsv l < 0 ∨ (tcs t : Int) < lsv l) : lsv (l ++ [t]) = (tcs t : Int) ∧ bst (l ++ [t]) = t := by
  have e : pks (l ++ [t]) = (t, tcs t) := by
    rw [pks_snoc]
    unfold pk
    rw [if_pos]
    rcases pks_mem l with ⟨h1, h2⟩ | ⟨h1, h2⟩
    · rw [h2]; exact tcs_lt t
    · have hne : l ≠ [] := fun e => by rw [e] at h1; cases h1
      unfold lsv at h
      rw [if_neg hne] at h
      omega
  unfold lsv bst
  rw [e, if_neg (by simp)]
  exact ⟨rfl, rfl⟩
theorem lsv_no {l : List Tr} {t : Tr} (h1 : ¬ lsv l < 0) (h2 : ¬ (tcs t : Int) < lsv l) : lsv (l ++ [t]) = lsv l ∧ bst (l ++ [t]) = bst l := by
  have hne : l ≠ [] := fun e => by rw [e] at h1; exact h1 (by decide)
  have e : pks (l ++ [t]) = pks l := by
    rw [pks_snoc]
    unfold pk
    rw [if_neg]
    unfold lsv at h2
    rw [if_neg hne] at h2
    omega
  unfold lsv bst
  rw [e, if_neg (by simp), if_neg hne]
  exact ⟨rfl, rfl⟩
theorem lsv_lt (l : List Tr) : -1 ≤ lsv l ∧ lsv l ≤ 4611686018427387905 := by
  by_cases h : l = []
  · rw [h, lsv_nil]; omega
  · rw [(lsv_pos h).2]
    unfold tcs tm
    omega
theorem pk_le : ∀ (l : List Tr) (x : Tr × Nat), (l.foldl pk x).2 ≤ x.2 ∧ ∀ t ∈ l, (l.foldl pk x).2 ≤ tcs t
  | [], x => ⟨Nat.le_refl _, fun t h => by cases h⟩
  | t :: l, x => by
    obtain ⟨h1, h2⟩ := pk_le l (pk x t)
    have h3 : (pk x t).2 ≤ x.2 ∧ (pk x t).2 ≤ tcs t := by
      unfold pk
      split
      · exact ⟨by show tcs t ≤ _; omega, Nat.le_refl _⟩
      · exact ⟨Nat.le_refl _, by omega⟩
    rw [List.foldl_cons]
    refine ⟨Nat.le_trans h1 h3.1, fun u hu => ?_⟩
    rcases List.mem_cons.1 hu with e | e
    · rw [e]; exact Nat.le_trans h1 h3.2
    · exact h2 u e
theorem pks_le {l : List Tr} {t : Tr} (h : t ∈ l) : (pks l).2 ≤ tcs t := (pk_le l _).2 t h
theorem tcs_le (t : Tr) : tcs t ≤ cs t := by unfold tcs tm; omega
/-- no candidate costs less than the cheapest -/
theorem ch_le {D : Int} {F : List Int} {p : Int} {n : Nat} (g : GP D F p) (h : Dm p n) {t : Tr} (ht : t ∈ cnd D F (fun m => [ch D F p m]) (blu p (ch D F p) n) n) : tcs (ch D F p n) ≤ tcs t := by
  rw [ch_eq g.p2 h]
  rcases pks_mem (cnd D F (fun m => [ch D F p m]) (blu p (ch D F p) n) n) with ⟨h1, _⟩ | ⟨_, h2⟩
  · rw [h1] at ht; cases ht
  · rw [← h2]; exact pks_le ht
theorem ch_ln {D : Int} {F : List Int} {p : Int} {n : Nat} (g : GP D F p) (h : Dm p n) : ln (ch D F p n) = n := (ch_gd g _ n h (Nat.le_refl _)).len
theorem ch_small {D : Int} {F : List Int} {p : Int} (g : GP D F p) : ∀ (k n : Nat), n ≤ k → Dm p n → big p n = false → cs (ch D F p n) ≤ 16 * (n * n) := by
  intro k
  induction k with
  | zero => intro n hn hd; have := hd.1; omega
  | succ k ih =>
    intro n hn hd hb
    have hnn : n * n ≤ 16384 * 16384 := Nat.mul_le_mul hd.2.1 hd.2.1
    have key : ∃ t ∈ cnd D F (fun m => [ch D F p m]) (blu p (ch D F p) n) n, cs t ≤ 16 * (n * n) := by
      by_cases hD : (n : Int) ≤ D
      · refine ⟨⟨1, n, []⟩, ?_, ?_⟩
        · unfold cnd lvs
          rw [if_pos hD]
          simp
        · rw [cs_d, Int.toNat_natCast, Nat.mul_assoc]
          omega
      · have := g.p2
        have := g.pD
        have hn2 : 2 ≤ n := by omega
        obtain ⟨q, q1, q2⟩ := least_pr n hn2
        have hqp : (q : Int) ≤ p := by
          refine Classical.byContradiction fun c => ?_
          have := (big_iff (p := p) hd.1).2 ⟨q, q1, q2, by omega⟩
          rw [hb] at this
          cases this
        have hq2 := q1.1
        have hqn : q < n := by omega
        obtain ⟨h1, h2, h3, h4, h5⟩ := quo_dm hd q2 (by omega) hqn
        have hbr : big p (n / q) = false := by
          cases e : big p (n / q) with
          | false => rfl
          | true => rw [big_quo hd.1 q2 e] at hb; cases hb
        have hr := ih (n / q) (by omega) h1 hbr
        have hlr := ch_ln g h1
        obtain ⟨r, hr0⟩ : ∃ r, n / q = r := ⟨_, rfl⟩
        rw [hr0] at h1 h3 h4 h5 hr hlr
        refine ⟨⟨3, 0, [⟨1, q, []⟩, ch D F p r]⟩, ?_, ?_⟩
        · unfold cnd
          refine List.mem_append_left _ (List.mem_append_right _ (List.mem_flatMap.2 ⟨q, (Nt.mem_divs hd.1).2 q2, ?_⟩))
          unfold stp
          rw [if_pos ⟨by omega, hqn⟩]
          refine List.mem_flatMap.2 ⟨⟨1, q, []⟩, ?_, ?_⟩
          · unfold lvs
            rw [if_pos (by omega)]
            simp
          · rw [hr0]; simp
        · have e1 : (ms ⟨1, (q : Int), []⟩).2.1 = q := by
            rw [ms_eq]
            simp [mc]
          have e2 : (ms (ch D F p r)).2.1 = r := by rw [ms_ln _ (by omega), hlr]
          rw [cs_two, e1, e2, cs_d, Int.toNat_natCast]
          have t1 : q * cs (ch D F p r) ≤ 8 * (n * n) := by
            have a1 := Nat.mul_le_mul_left q hr
            have a2 : q * (16 * (r * r)) = 8 * (n * (2 * r)) := by rw [← h4]; simp only [Nat.mul_comm, Nat.mul_left_comm, Nat.mul_assoc]
            have a3 : n * (2 * r) ≤ n * n := Nat.mul_le_mul_left n (by omega)
            omega
          have hq3 : 2 * q ≤ n := by
            have := Nat.mul_le_mul_left q h3
            omega
          have t2 : r * (8 * q * q) ≤ 4 * (n * n) := by
            have a2 : r * (8 * q * q) = 4 * (n * (2 * q)) := by rw [← h4]; simp only [Nat.mul_comm, Nat.mul_left_comm, Nat.mul_assoc]
            have a3 : n * (2 * q) ≤ n * n := Nat.mul_le_mul_left n hq3
            omega
          have t3 : 6 * (q - 1) * (r - 1) ≤ 6 * n := by
            have : (q - 1) * (r - 1) ≤ q * r := Nat.mul_le_mul (by omega) (by omega)
            rw [Nat.mul_assoc]; omega
          have t4 : 2 * n ≤ n * n := Nat.mul_le_mul_right n hn2
          have t5 : (if (⟨1, (q : Int), []⟩ : Tr).k = 2 then 0 else q * r) = n := by rw [if_neg (show ¬ (1 : Int) = 2 by decide)]; exact h4
          rw [t5]
          omega
    obtain ⟨t, t1, t2⟩ := key
    have h1 := ch_le g hd t1
    have h2 := tcs_le t
    have h3 : tcs (ch D F p n) = tm (cs (ch D F p n)) := rfl
    unfold tm at h3
    omega
theorem tcs_prod {x y : Tr} {a b : Nat} (ha : 1 ≤ a) (hb : 1 ≤ b) (hx : ln x = a) (hy : ln y = b) : prc a b (tcs x) (tcs y) (x.k == 2) = tcs ⟨3, 0, [x, y]⟩ := by
  unfold tcs
  rw [prc_tm a b _ _ _ ha hb, cs_two, ms_ln x (by omega), ms_ln y (by omega), hx, hy]
  by_cases h : x.k = 2
  · rw [h]; simp
  · have : (x.k == 2) = false := beq_eq_false_iff_ne.2 h
    rw [this, if_neg h]; simp
theorem tcs_blue {n M : Nat} {t : Tr} (hn : n ≤ 16384) (hM : M ≤ 16384) (h : ln t = M) (h0 : 1 ≤ M) (hs : cs t ≤ 4294967296) : (3 * tcs t + 12 * n) + 10 * M = tcs ⟨4, n, [t]⟩ ∧ tcs t ≤ 4294967296 := by
  unfold tcs
  rw [cs_one, ms_ln t (by omega), h, Int.toNat_natCast]
  unfold tm
  omega
end Pl
end Go.Proofs.YtoaccmblaifnmaaDoor
/-
  The document's sums and products of costs (timbreref14), and timbreref11.Work.
-/
namespace Go.Proofs.YtoaccmblaifnmaaDoor
open Flo Go.RowKit Tr
open Pl (tm)
set_option maxHeartbeats 1000000 in
theorem dsum_c (a b c : Nat) (ha : a ≤ 4611686018427387905) (hb : b ≤ 4611686018427387905) (hc : c = tm (a + b)) (w : World) : Calls Tryd.prog 102 #[.int .i64 (a : Int), .int .i64 (b : Int)] w fun e w' => e = .returned (.int .i64 (c : Int)) ∧ w' = w := by
  obtain ⟨d, hd⟩ : ∃ d : Int, (4611686018427387904 : Int) - (b : Int) = d := ⟨_, rfl⟩
  have w1 : wrap64 d = d := by unfold wrap64; omega
  by_cases h : 4611686018427387904 < a + b
  · have h1 : (a : Int) > d := by omega
    have e : c = 4611686018427387905 := by rw [hc]; unfold tm; omega
    subst e
    clear hc
    clear h ha hb
    go_enter Tryd.func102, Tryd.ntmps102
    go_wp2_with fail
    go_ret
    exact ⟨rfl, rfl⟩
  · have h1 : decide ((a : Int) > d) = false := decide_eq_false (by omega)
    have h2 : ¬ d < (a : Int) := by omega
    have e : c = a + b := by rw [hc]; unfold tm; omega
    have e2 : (a : Int) + (b : Int) = (c : Int) := by rw [e]; omega
    have e3 : wrap64 (c : Int) = (c : Int) := by rw [e]; unfold wrap64; omega
    clear hc e h ha hb
    go_enter Tryd.func102, Tryd.ntmps102
    go_wp2_with fail
    go_ret
    exact ⟨rfl, rfl⟩
set_option maxHeartbeats 1000000 in
theorem dproduct_c (n a c : Nat) (hn : 1 ≤ n) (hn2 : n ≤ 16384) (hc : c = tm (n * a)) (w : World) : Calls Tryd.prog 103 #[.int .i64 (a : Int), .int .i64 (n : Int)] w fun e w' => e = .returned (.int .i64 (c : Int)) ∧ w' = w := by
  obtain ⟨q, hq⟩ : ∃ q : Nat, 4611686018427387904 / n = q := ⟨_, rfl⟩
  have hqi : (4611686018427387904 : Int) / (n : Int) = (q : Int) := by rw [← hq]; rfl
  have hql : q ≤ 4611686018427387904 := by rw [← hq]; exact Nat.div_le_self _ _
  have n0 : (n : Int) > 0 := by omega
  have nz : ((n : Int) == 0) = false := beq_eq_false_iff_ne.2 (by omega)
  have w1 : wrap64 ((4611686018427387904 : Int) / (n : Int)) = (q : Int) := by rw [hqi]; unfold wrap64; omega
  have key : a ≤ q ↔ n * a ≤ 4611686018427387904 := by rw [← hq, Nat.le_div_iff_mul_le (by omega), Nat.mul_comm]
  by_cases h : q < a
  · have h1 : (a : Int) > (q : Int) := by omega
    have e : c = 4611686018427387905 := by
      rw [hc]; unfold tm
      have : ¬ n * a ≤ 4611686018427387904 := fun hh => (by have := key.2 hh; omega)
      omega
    subst e
    clear hc
    clear hq hql key h w1
    go_enter Tryd.func103, Tryd.ntmps103
    go_wp2_with fail
    go_ret
    exact ⟨rfl, rfl⟩
  · have h1 : decide ((a : Int) > (q : Int)) = false := decide_eq_false (by omega)
    have hle := key.1 (by omega)
    have e : c = n * a := by rw [hc]; unfold tm; omega
    have e2 : (a : Int) * (n : Int) = (c : Int) := by rw [castMul, e, Nat.mul_comm]
    have e3 : wrap64 (c : Int) = (c : Int) := by unfold wrap64; omega
    have h2 : ¬ q < a := h
    clear hc e hq hql key hle w1
    go_enter Tryd.func103, Tryd.ntmps103
    go_wp2_with fail
    go_ret
    exact ⟨by rw [e3]; rfl, rfl⟩
set_option maxHeartbeats 2000000 in
set_option maxRecDepth 100000 in
theorem dtimes_c (k : Int) (a b x y : Nat) (ha : 2 ≤ a) (hb : 2 ≤ b) (hab : a * b ≤ 16384) (w : World) :
    Calls Tryd.prog 74 #[.int .i64 k, .int .i64 (x : Int), .int .i64 (a : Int), .int .i64 (y : Int), .int .i64 (b : Int)] w fun e w' => e = .returned (.int .i64 (prc a b x y (k == 2) : Int)) ∧ w' = w := by
  obtain ⟨n, hn⟩ : ∃ n, a * b = n := ⟨_, rfl⟩
  have hn1 : n ≤ 16384 := by rw [← hn]; exact hab
  have ha2 : a ≤ 16384 := by have := Nat.le_mul_of_pos_right a (show 0 < b by omega); omega
  have hb2 : b ≤ 16384 := by have := Nat.le_mul_of_pos_left b (show 0 < a by omega); omega
  obtain ⟨a1, ha1⟩ : ∃ a1 : Nat, (a : Int) - 1 = (a1 : Int) := ⟨a - 1, by omega⟩
  obtain ⟨b1, hb1⟩ : ∃ b1 : Nat, (b : Int) - 1 = (b1 : Int) := ⟨b - 1, by omega⟩
  obtain ⟨a6, ha6⟩ : ∃ a6 : Nat, 6 * (a1 : Int) = (a6 : Int) := ⟨6 * a1, by omega⟩
  have ea6 : a6 = 6 * (a - 1) := by omega
  have eb1 : b1 = b - 1 := by omega
  obtain ⟨tw, htw⟩ : ∃ tw, 6 * (a - 1) * (b - 1) = tw := ⟨_, rfl⟩
  have htl : tw ≤ 98304 := by
    have h1 : (a - 1) * (b - 1) ≤ a * b := Nat.mul_le_mul (by omega) (by omega)
    rw [← htw, Nat.mul_assoc]; omega
  obtain ⟨p1, hp1⟩ : ∃ p1, tm (a * y) = p1 := ⟨_, rfl⟩
  obtain ⟨p2, hp2⟩ : ∃ p2, tm (b * x) = p2 := ⟨_, rfl⟩
  obtain ⟨p3, hp3⟩ : ∃ p3, tm (p1 + p2) = p3 := ⟨_, rfl⟩
  obtain ⟨p4, hp4⟩ : ∃ p4, tm (p3 + tw) = p4 := ⟨_, rfl⟩
  have l1 : p1 ≤ 4611686018427387905 := by rw [← hp1]; exact tm_le _
  have l2 : p2 ≤ 4611686018427387905 := by rw [← hp2]; exact tm_le _
  have l3 : p3 ≤ 4611686018427387905 := by rw [← hp3]; exact tm_le _
  have l4 : p4 ≤ 4611686018427387905 := by rw [← hp4]; exact tm_le _
  have k1 : Hid (∀ w, Calls Tryd.prog 103 #[.int .i64 (y : Int), .int .i64 (a : Int)] w fun e w' => e = .returned (.int .i64 (p1 : Int)) ∧ w' = w) := fun w => dproduct_c a y p1 (by omega) ha2 hp1.symm w
  have k2 : Hid (∀ w, Calls Tryd.prog 103 #[.int .i64 (x : Int), .int .i64 (b : Int)] w fun e w' => e = .returned (.int .i64 (p2 : Int)) ∧ w' = w) := fun w => dproduct_c b x p2 (by omega) hb2 hp2.symm w
  have k3 : Hid (∀ w, Calls Tryd.prog 102 #[.int .i64 (p1 : Int), .int .i64 (p2 : Int)] w fun e w' => e = .returned (.int .i64 (p3 : Int)) ∧ w' = w) := fun w => dsum_c p1 p2 p3 l1 l2 hp3.symm w
  have k4 : Hid (∀ w, Calls Tryd.prog 102 #[.int .i64 (p3 : Int), .int .i64 (tw : Int)] w fun e w' => e = .returned (.int .i64 (p4 : Int)) ∧ w' = w) := fun w => dsum_c p3 tw p4 l3 (by omega) hp4.symm w
  obtain ⟨p5, hp5⟩ : ∃ p5, tm (p4 + n) = p5 := ⟨_, rfl⟩
  have k5 : Hid (∀ w, Calls Tryd.prog 102 #[.int .i64 (p4 : Int), .int .i64 (n : Int)] w fun e w' => e = .returned (.int .i64 (p5 : Int)) ∧ w' = w) := fun w => dsum_c p4 n p5 l4 (by omega) hp5.symm w
  have er : Hid (prc a b x y (k == 2) = if (k == 2) = true then p4 else p5) := by
    show _ = _
    unfold prc
    rw [hp1, hp2, hp3, htw, hp4, hn]
    cases (k == 2)
    · exact hp5
    · show tm (p4 + 0) = p4
      rw [Nat.add_zero, ← hp4, tm_tm]
  rw [er.out]
  have m1 : (a : Int) * (b : Int) = (n : Int) := by rw [castMul, hn]
  have m2 : (a6 : Int) * (b1 : Int) = (tw : Int) := by rw [castMul, ea6, eb1, htw]
  have a6l : a6 ≤ 98304 := by omega
  have wq1 : IntKind.i64.wrap (a1 : Int) = (a1 : Int) := by rw [IntKind.wrap_i64]; omega
  have wq2 : IntKind.i64.wrap (b1 : Int) = (b1 : Int) := by rw [IntKind.wrap_i64]; omega
  have wq3 : IntKind.i64.wrap (a6 : Int) = (a6 : Int) := by rw [IntKind.wrap_i64]; omega
  have wq4 : IntKind.i64.wrap (tw : Int) = (tw : Int) := by rw [IntKind.wrap_i64]; omega
  have wq5 : IntKind.i64.wrap (n : Int) = (n : Int) := by rw [IntKind.wrap_i64]; omega
  clear er hp1 hp2 hp3 hp4 hp5 hn htw hab ea6 eb1 l1 l2 l3 l4
  by_cases hk : k = 2
  · subst hk
    rw [if_pos (show ((2 : Int) == 2) = true from rfl)]
    go_enter Tryd.func74, Tryd.ntmps74
    go_wp2_with fail
    refine (k1.out _).mono ?_
    rintro e w' ⟨rfl, rfl⟩
    go_wp2_with fail
    refine (k2.out _).mono ?_
    rintro e w' ⟨rfl, rfl⟩
    go_wp2_with fail
    refine (k3.out _).mono ?_
    rintro e w' ⟨rfl, rfl⟩
    go_wp2_with fail
    refine (k4.out _).mono ?_
    rintro e w' ⟨rfl, rfl⟩
    go_wp2_with fail
    go_ret
    exact ⟨rfl, rfl⟩
  · have hkb : (k == 2) = false := beq_eq_false_iff_ne.2 hk
    have hkn : (k != 2) = true := by simp [bne, hkb]
    rw [hkb, if_neg (by decide)]
    go_enter Tryd.func74, Tryd.ntmps74
    go_wp2_with fail
    refine (k1.out _).mono ?_
    rintro e w' ⟨rfl, rfl⟩
    go_wp2_with fail
    refine (k2.out _).mono ?_
    rintro e w' ⟨rfl, rfl⟩
    go_wp2_with fail
    refine (k3.out _).mono ?_
    rintro e w' ⟨rfl, rfl⟩
    go_wp2_with fail
    refine (k4.out _).mono ?_
    rintro e w' ⟨rfl, rfl⟩
    go_wp2_with fail
    refine (k5.out _).mono ?_
    rintro e w' ⟨rfl, rfl⟩
    go_wp2_with fail
    go_ret
    exact ⟨rfl, rfl⟩
end Go.Proofs.YtoaccmblaifnmaaDoor
/-
  The document's cost and Cost (timbreref14).
-/
namespace Go.Proofs.YtoaccmblaifnmaaDoor
open Flo Go.RowKit Tr
open Pl (tm)
set_option maxHeartbeats 2000000 in
set_option maxRecDepth 100000 in
theorem dwork_c (n : Nat) (h1 : 2 ≤ n) (h2 : n ≤ 5) (w : World) : Calls Tryd.prog 101 #[.int .i64 (n : Int)] w fun e w' => (∃ x y : Nat, e = .returned (.tuple #[.int .i64 (x : Int), .int .i64 (y : Int)]) ∧ x + y = Pl.wk n ∧ x ≤ 32 ∧ y ≤ 16) ∧ Below w.heap.size w w' := by
  obtain ⟨wa, ewa⟩ : ∃ wa, Hid (w.alloc (.cells #[.int .i64 0, .int .i64 0, .int .i64 4, .int .i64 12, .int .i64 16, .int .i64 32] 3) = wa) := ⟨_, (rfl : _ = _)⟩
  obtain ⟨wb, ewb⟩ : ∃ wb, Hid (wa.alloc (.cells #[.int .i64 0, .int .i64 0, .int .i64 0, .int .i64 4, .int .i64 0, .int .i64 16] 3) = wb) := ⟨_, (rfl : _ = _)⟩
  obtain ⟨g, hg⟩ : ∃ g, Hid (w.heap.size = g) := ⟨_, (rfl : _ = _)⟩
  have sa : wa.heap.size = g + 1 := by rw [← ewa.out, ← hg.out]; simp
  have Ba : Below w.heap.size w wa := by rw [← ewa.out]; exact (Below.refl _ _).alloc (Nat.le_refl _) _
  have Bab : Below wa.heap.size wa wb := by rw [← ewb.out]; exact (Below.refl _ _).alloc (Nat.le_refl _) _
  have BH : Hid (Below w.heap.size w wb) := btr Ba Bab
  have r1 : wa.heap[g]? = some (.cells #[.int .i64 0, .int .i64 0, .int .i64 4, .int .i64 12, .int .i64 16, .int .i64 32] 3 (0, 0)) := by rw [← ewa.out, ← hg.out]; exact heap_alloc_new _ _
  have r1b : wb.heap[g]? = some (.cells #[.int .i64 0, .int .i64 0, .int .i64 4, .int .i64 12, .int .i64 16, .int .i64 32] 3 (0, 0)) := (Bab.block g (blk_lt r1)).trans r1
  have r2b : wb.heap[g + 1]? = some (.cells #[.int .i64 0, .int .i64 0, .int .i64 0, .int .i64 4, .int .i64 0, .int .i64 16] 3 (0, 0)) := by rw [← ewb.out, ← sa]; exact heap_alloc_new _ _
  have hc : n = 2 ∨ n = 3 ∨ n = 4 ∨ n = 5 := by omega
  have q1 : Hid (∀ i, wb.cell? ⟨g, i, none⟩ = #[Value.int .i64 0, .int .i64 0, .int .i64 4, .int .i64 12, .int .i64 16, .int .i64 32][i]?) := Joins.cell_of_block r1b
  have q2 : Hid (∀ i, wb.cell? ⟨g + 1, i, none⟩ = #[Value.int .i64 0, .int .i64 0, .int .i64 0, .int .i64 4, .int .i64 0, .int .i64 16][i]?) := Joins.cell_of_block r2b
  clear Ba Bab r1 r1b r2b sa
  rcases hc with rfl | rfl | rfl | rfl
  · have a1 := q1.out 2
    rw [show ((2 : Nat) : Int) = 2 from rfl]
    have a2 := q2.out 2
    go_enter Tryd.func101, Tryd.ntmps101
    go_upto_region 3 with fail
    rw [ewa.out, ewb.out, hg.out]
    go_wp2_with fail
    go_quiet (fail)
    go_wp2_with fail
    go_ret2
    exact ⟨⟨4, 0, rfl, rfl, by decide, by decide⟩, below_drewN BH.out _⟩
  · have a1 := q1.out 3
    rw [show ((3 : Nat) : Int) = 3 from rfl]
    have a2 := q2.out 3
    go_enter Tryd.func101, Tryd.ntmps101
    go_upto_region 3 with fail
    rw [ewa.out, ewb.out, hg.out]
    go_wp2_with fail
    go_quiet (fail)
    go_wp2_with fail
    go_ret2
    exact ⟨⟨12, 4, rfl, rfl, by decide, by decide⟩, below_drewN BH.out _⟩
  · have a1 := q1.out 4
    rw [show ((4 : Nat) : Int) = 4 from rfl]
    have a2 := q2.out 4
    go_enter Tryd.func101, Tryd.ntmps101
    go_upto_region 3 with fail
    rw [ewa.out, ewb.out, hg.out]
    go_wp2_with fail
    go_quiet (fail)
    go_wp2_with fail
    go_ret2
    exact ⟨⟨16, 0, rfl, rfl, by decide, by decide⟩, below_drewN BH.out _⟩
  · have a1 := q1.out 5
    rw [show ((5 : Nat) : Int) = 5 from rfl]
    have a2 := q2.out 5
    go_enter Tryd.func101, Tryd.ntmps101
    go_upto_region 3 with fail
    rw [ewa.out, ewb.out, hg.out]
    go_wp2_with fail
    go_quiet (fail)
    go_wp2_with fail
    go_ret2
    exact ⟨⟨32, 16, rfl, rfl, by decide, by decide⟩, below_drewN BH.out _⟩
set_option maxHeartbeats 4000000 in
set_option maxRecDepth 100000 in
theorem dcost_c (t : Tr) : ∀ (v : Value) (w : World), Od w t v → 0 < ln t → Calls Tryd.prog 73 #[v] w fun e w' => e = .returned (.tuple #[.int .i64 (Pl.tcs t : Int), .int .i64 (ln t : Int)]) ∧ Below w.heap.size w w' := by
  refine Tr.ind (P := fun t => ∀ (v : Value) (w : World), Od w t v → 0 < ln t → Calls Tryd.prog 73 #[v] w fun e w' => e = .returned (.tuple #[.int .i64 (Pl.tcs t : Int), .int .i64 (ln t : Int)]) ∧ Below w.heap.size w w') (fun k n ks ih0 v w ho hln => ?_) t
  have hll : Hid (ln ⟨k, n, ks⟩ ≤ 16384) := ln_le _
  obtain ⟨ao, cap, rfl, hl0, hk0⟩ := ho.kds
  obtain ⟨L, hL⟩ : ∃ L, Hid (ks.length = L) := ⟨_, (rfl : _ = _)⟩
  have hk : Hid (Kds w ao L ks) := by show Kds _ _ _ _; rw [← hL.out]; exact hk0
  rw [hL.out]
  obtain ⟨wa, ewa⟩ : ∃ wa, Hid (w.alloc (.cells #[.int .i64 k, .int .i64 n, .slice ao L cap] 24) = wa) := ⟨_, (rfl : _ = _)⟩
  have Ba : Below w.heap.size w wa := by rw [← ewa.out]; exact (Below.refl _ _).alloc (Nat.le_refl _) _
  obtain ⟨g, hg⟩ : ∃ g, Hid (w.heap.size = g) := ⟨_, (rfl : _ = _)⟩
  have Xa : Hid (Bo wa g k n (.slice ao L cap)) := by show Bo _ _ _ _ _; rw [← ewa.out, ← hg.out]; exact Bo.new _ _ _ _
  have BaH : Hid (Below w.heap.size w wa) := Ba
  obtain ⟨R, hR⟩ : ∃ R, Hid (ln ⟨k, n, ks⟩ = R) := ⟨_, (rfl : _ = _)⟩
  obtain ⟨Cc, hCc⟩ : ∃ C, Hid (Pl.tcs ⟨k, n, ks⟩ = C) := ⟨_, (rfl : _ = _)⟩
  have hinv := ln_inv hln
  rw [hR.out, hCc.out]
  rw [hR.out] at hinv
  have ih : Hid (∀ t ∈ ks, ∀ (v : Value) (w : World), Od w t v → 0 < ln t → Calls Tryd.prog 73 #[v] w fun e w' => e = .returned (.tuple #[.int .i64 (Pl.tcs t : Int), .int .i64 (ln t : Int)]) ∧ Below w.heap.size w w') := ih0
  clear hk0 hl0 ih0 ho Ba hln
  have x0 := Xa.out.c0
  have x1 := Xa.out.c1
  have x2 := Xa.out.c2
  rcases hinv with ⟨rfl, hn, rfl⟩ | ⟨rfl, hn, rfl⟩ | ⟨rfl, rfl, x, y, rfl, hx2, hy2, hxy⟩ | ⟨rfl, hn, x, rfl, hxl⟩
  · obtain ⟨m, rfl⟩ : ∃ m : Nat, n = (m : Int) := ⟨n.toNat, by omega⟩
    obtain ⟨m8, hm8⟩ : ∃ m8 : Nat, 8 * (m : Int) = (m8 : Int) := ⟨8 * m, by omega⟩
    have eR : R = m := by
      rw [← hR.out, ln_eq]; unfold lnc; rw [if_pos rfl, if_pos ⟨hn.1, hn.2, rfl⟩]; simp
    have eC : (m8 : Int) * (m : Int) = (Cc : Int) := by
      rw [castMul, ← hCc.out]
      unfold Pl.tcs tm
      rw [cs_d, Int.toNat_natCast]
      have e8 : m8 = 8 * m := by omega
      have hb : m8 * m ≤ 512 * 64 := Nat.mul_le_mul (by omega) (by omega)
      rw [← e8]
      omega
    have hC2 : Cc ≤ 100000 := by
      have hb : m8 * m ≤ 512 * 64 := Nat.mul_le_mul (by omega) (by omega)
      rw [castMul] at eC
      omega
    subst eR
    have hm1 : R ≤ 64 := by omega
    have hm2 : m8 ≤ 512 := by omega
    have wq1 : IntKind.i64.wrap (m8 : Int) = (m8 : Int) := by rw [IntKind.wrap_i64]; omega
    have wq2 : IntKind.i64.wrap (Cc : Int) = (Cc : Int) := by rw [IntKind.wrap_i64]; omega
    clear hn hk hL ih hR hCc hll
    go_enter Tryd.func73, Tryd.ntmps73
    go_upto_region 1 with fail
    rw [ewa.out, hg.out]
    go_wp2_with fail
    go_ret2
    exact ⟨rfl, BaH.out⟩
  · obtain ⟨m, rfl⟩ : ∃ m : Nat, n = (m : Int) := ⟨n.toNat, by omega⟩
    have eR : R = m := by
      rw [← hR.out, ln_eq]; unfold lnc; rw [if_neg (by decide), if_pos rfl, if_pos ⟨hn.1, hn.2, rfl⟩]; simp
    have eC : Hid (Cc = Pl.wk m) := by
      show _ = _
      rw [← hCc.out]
      unfold Pl.tcs tm
      rw [cs_f]
      unfold Pl.wk
      repeat' split
      all_goals decide
    subst eR
    have hw := dwork_c R (by omega) (by omega) wa
    have hm1 : R ≤ 5 := by omega
    clear hn hk hL ih hR hCc hll
    go_enter Tryd.func73, Tryd.ntmps73
    go_upto_region 1 with fail
    rw [ewa.out, hg.out]
    go_wp2_with fail
    refine hw.mono ?_
    rintro e w' ⟨⟨a, b, rfl, hab, ha, hb⟩, B⟩
    have hB : Hid (Below w.heap.size w w') := btr BaH.out B
    have e1 : (a : Int) + (b : Int) = (Cc : Int) := by have := eC.out; omega
    clear hw hab B
    go_wp2_with fail
    go_ret2
    exact ⟨rfl, hB.out⟩
  · obtain ⟨A, hA⟩ : ∃ A, Hid (ln x = A) := ⟨_, (rfl : _ = _)⟩
    obtain ⟨B, hB⟩ : ∃ B, Hid (ln y = B) := ⟨_, (rfl : _ = _)⟩
    obtain ⟨cx, hcx⟩ : ∃ c, Hid (Pl.tcs x = c) := ⟨_, (rfl : _ = _)⟩
    obtain ⟨cy, hcy⟩ : ∃ c, Hid (Pl.tcs y = c) := ⟨_, (rfl : _ = _)⟩
    have ihx : Hid (∀ (v : Value) (w : World), Od w x v → Calls Tryd.prog 73 #[v] w fun e w' => e = .returned (.tuple #[.int .i64 (cx : Int), .int .i64 (A : Int)]) ∧ Below w.heap.size w w') := fun v w h => by
      have := ih.out x (by simp) v w h (by omega)
      rw [hA.out, hcx.out] at this; exact this
    have ihy : Hid (∀ (v : Value) (w : World), Od w y v → Calls Tryd.prog 73 #[v] w fun e w' => e = .returned (.tuple #[.int .i64 (cy : Int), .int .i64 (B : Int)]) ∧ Below w.heap.size w w') := fun v w h => by
      have := ih.out y (by simp) v w h (by omega)
      rw [hB.out, hcy.out] at this; exact this
    have hab : A * B ≤ 16384 := by
      have := hll.out
      rw [hR.out, ← hxy, hA.out, hB.out] at this
      exact this
    have eC : Hid (prc A B cx cy (x.k == 2) = Cc) := by
      show _ = _
      rw [← hCc.out, ← hcx.out, ← hcy.out]
      unfold Pl.tcs
      rw [prc_tm A B _ _ _ (by rw [← hA.out]; omega) (by rw [← hB.out]; omega), cs_two, Pl.ms_ln x (by omega), Pl.ms_ln y (by omega), hA.out, hB.out]
      by_cases hxk : x.k = 2
      · rw [if_pos hxk]; simp [hxk]
      · rw [if_neg hxk]; simp [hxk]
    have eR : Hid ((A : Int) * (B : Int) = (R : Int)) := by show _ = _; rw [castMul, ← hxy, hA.out, hB.out]
    have hprH : Hid (∀ w, Calls Tryd.prog 74 #[.int .i64 x.k, .int .i64 (cx : Int), .int .i64 (A : Int), .int .i64 (cy : Int), .int .i64 (B : Int)] w fun e w' => e = .returned (.int .i64 (Cc : Int)) ∧ w' = w) := fun w => by
      have := dtimes_c x.k A B cx cy (by rw [← hA.out]; exact hx2) (by rw [← hB.out]; exact hy2) hab w
      rw [eC.out] at this
      exact this
    obtain rfl : L = 2 := by rw [← hL.out]; rfl
    obtain ⟨b0, off0, s0, x', ex, K0⟩ := hk.out 0 (by decide)
    obtain ⟨b1, off1, s1, y', ey, K1⟩ := hk.out 1 (by decide)
    have e0 := K0.at0
    have e1 := K1.at0
    rw [e0] at e1
    obtain rfl : x = x' := by simpa using ex
    obtain rfl : y = y' := by simpa using ey
    obtain rfl := e0
    obtain ⟨rfl, rfl⟩ : b0 = b1 ∧ off0 = off1 := by simpa using e1
    obtain ⟨a0, l0, p0, rfl⟩ := K0.slc
    obtain ⟨a1, l1, p1, rfl⟩ := K1.slc
    have odx : Hid (Od w x (.agg #[.int .i64 x.k, .int .i64 x.n, .slice a0 l0 p0])) := K0.od
    have ody : Hid (Od w y (.agg #[.int .i64 y.k, .int .i64 y.n, .slice a1 l1 p1])) := K1.od
    have hS : Hid (∀ Z, Below wa.heap.size wa Z → (Z.cell? ⟨g, 2, none⟩ = some (.slice (some ⟨b0, off0, none⟩) 2 cap) ∧ Z.cell? ⟨b0, off0, none⟩ = some (.int .i64 x.k) ∧ Z.cell? ⟨b0, off0 + 1, none⟩ = some (.int .i64 x.n) ∧ Z.cell? ⟨b0, off0 + 2, none⟩ = some (.slice a0 l0 p0) ∧ Z.cell? ⟨b0, off0 + 3, none⟩ = some (.int .i64 y.k) ∧ Z.cell? ⟨b0, off0 + 3 + 1, none⟩ = some (.int .i64 y.n) ∧ Z.cell? ⟨b0, off0 + 3 + 2, none⟩ = some (.slice a1 l1 p1))) := fun Z hZ => by
      have k0 := K0.below (btr BaH.out hZ)
      have k1 := K1.below (btr BaH.out hZ)
      have c0 := k0.c0
      have c1 := k0.c1
      have c2 := k0.c2
      have d0 := k1.c0
      have d1 := k1.c1
      have d2 := k1.c2
      rw [Nat.zero_mul, Nat.add_zero] at c0 c1 c2
      rw [Nat.one_mul] at d0 d1 d2
      exact ⟨(Xa.out.bel hZ).c2, c0, c1, c2, d0, d1, d2⟩
    obtain ⟨xk, hxk⟩ : ∃ xk, Hid (x.k = xk) := ⟨_, (rfl : _ = _)⟩
    obtain ⟨xn, hxn⟩ : ∃ xn, Hid (x.n = xn) := ⟨_, (rfl : _ = _)⟩
    obtain ⟨yk, hyk⟩ : ∃ yk, Hid (y.k = yk) := ⟨_, (rfl : _ = _)⟩
    obtain ⟨yn, hyn⟩ : ∃ yn, Hid (y.n = yn) := ⟨_, (rfl : _ = _)⟩
    rw [hxk.out, hxn.out] at odx hS
    rw [hxk.out] at hprH
    rw [hyk.out, hyn.out] at ody hS
    have hRb : R ≤ 16384 := by have := hll.out; rw [hR.out] at this; exact this
    have wq1 : IntKind.i64.wrap (R : Int) = (R : Int) := by rw [IntKind.wrap_i64]; omega
    clear hk hL ih hR hCc hll hA hB hcx hcy hab eC ex ey e1 K0 K1 hxy hx2 hy2 x2
    obtain ⟨s0, s1, s2, s3, s4, s5, s6⟩ := hS.out wa (Below.refl _ _)
    go_enter Tryd.func73, Tryd.ntmps73
    go_upto_region 1 with fail
    rw [ewa.out, hg.out]
    go_wp2_with fail
    refine (ihx.out _ _ (Od.below BaH.out _ _ odx.out)).mono ?_
    rintro e w1 ⟨rfl, B1⟩
    have hb1 : Hid (Below wa.heap.size wa w1) := B1
    clear B1 s0 s1 s2 s3 s4 s5 s6 x0 x1
    obtain ⟨s0, s1, s2, s3, s4, s5, s6⟩ := hS.out w1 hb1.out
    go_wp2_with fail
    refine (ihy.out _ _ (Od.below (btr BaH.out hb1.out) _ _ ody.out)).mono ?_
    rintro e w2 ⟨rfl, B2⟩
    have hb2 : Hid (Below wa.heap.size wa w2) := btr hb1.out B2
    clear B2 s0 s1 s2 s3 s4 s5 s6
    obtain ⟨s0, s1, s2, s3, s4, s5, s6⟩ := hS.out w2 hb2.out
    go_wp2_with fail
    refine (hprH.out _).mono ?_
    rintro e w3 ⟨rfl, rfl⟩
    have eR1 := eR.out
    go_wp2_with fail
    go_ret2
    exact ⟨rfl, btr BaH.out hb2.out⟩
  · obtain ⟨m, rfl⟩ : ∃ m : Nat, n = (m : Int) := ⟨n.toNat, by omega⟩
    obtain ⟨A, hA⟩ : ∃ A, Hid (ln x = A) := ⟨_, (rfl : _ = _)⟩
    have hA2 : A ≤ 16384 := by rw [← hA.out]; exact ln_le _
    have hA0 : 0 < A := by rw [← hA.out]; omega
    obtain ⟨cx, hcx⟩ : ∃ c, Hid (Pl.tcs x = c) := ⟨_, (rfl : _ = _)⟩
    have ihx : Hid (∀ (v : Value) (w : World), Od w x v → Calls Tryd.prog 73 #[v] w fun e w' => e = .returned (.tuple #[.int .i64 (cx : Int), .int .i64 (A : Int)]) ∧ Below w.heap.size w w') := fun v w h => by
      have := ih.out x (by simp) v w h (by rw [hA.out]; exact hA0)
      rw [hA.out, hcx.out] at this; exact this
    have eR : R = m := by
      rw [← hR.out, ln_eq]; unfold lnc; rw [if_neg (by decide), if_neg (by decide), if_neg (by decide), if_pos rfl, if_pos hn]
      simp only [List.map_cons, List.map_nil]
      unfold Tr.blu
      dsimp only
      rw [if_pos hxl]; simp
    obtain ⟨t3, ht3⟩ : ∃ t3, tm (3 * cx) = t3 := ⟨_, rfl⟩
    obtain ⟨m12, hm12⟩ : ∃ z : Nat, 12 * (R : Int) = (z : Int) := ⟨12 * R, by omega⟩
    obtain ⟨a10, ha10⟩ : ∃ z : Nat, 10 * (A : Int) = (z : Int) := ⟨10 * A, by omega⟩
    obtain ⟨sm, hsm⟩ : ∃ z : Nat, (m12 : Int) + (a10 : Int) = (z : Int) := ⟨m12 + a10, by omega⟩
    have eC : tm (t3 + sm) = Cc := by
      rw [← hCc.out]
      unfold Pl.tcs
      rw [cs_one, Int.toNat_natCast, Pl.ms_ln x (by rw [hA.out]; exact hA0), hA.out, ← ht3, ← hcx.out]
      unfold Pl.tcs
      have e1 : sm = 12 * m + 10 * A := by omega
      rw [e1]
      generalize Pl.cs x = c
      generalize 12 * m + 10 * A = d
      unfold tm
      omega
    subst eR
    have hmb : R ≤ 8192 := by omega
    have k1 : Hid (∀ w, Calls Tryd.prog 103 #[.int .i64 (cx : Int), .int .i64 3] w fun e w' => e = .returned (.int .i64 (t3 : Int)) ∧ w' = w) := fun w => by
      have := dproduct_c 3 cx t3 (by decide) (by decide) ht3.symm w
      rw [show ((3 : Nat) : Int) = 3 from rfl] at this
      exact this
    have k2 : Hid (∀ w, Calls Tryd.prog 102 #[.int .i64 (t3 : Int), .int .i64 (sm : Int)] w fun e w' => e = .returned (.int .i64 (Cc : Int)) ∧ w' = w) := fun w => dsum_c t3 sm Cc (by rw [← ht3]; exact tm_le _) (by omega) eC.symm w
    obtain rfl : L = 1 := by rw [← hL.out]; rfl
    obtain ⟨b0, off0, s0, x', ex, K0⟩ := hk.out 0 (by decide)
    have e0 := K0.at0
    obtain rfl : x = x' := by simpa using ex
    obtain rfl := e0
    obtain ⟨a0, l0, p0, rfl⟩ := K0.slc
    have K0b := K0.below BaH.out
    have odx : Hid (Od wa x (.agg #[.int .i64 x.k, .int .i64 x.n, .slice a0 l0 p0])) := K0b.od
    have c0 := K0b.c0
    have c1 := K0b.c1
    have c2 := K0b.c2
    rw [Nat.zero_mul, Nat.add_zero] at c0 c1 c2
    have hsb : sm ≤ 400000 := by omega
    have hm12b : m12 ≤ 100000 := by omega
    have ha10b : a10 ≤ 200000 := by omega
    have wq1 : IntKind.i64.wrap (m12 : Int) = (m12 : Int) := by rw [IntKind.wrap_i64]; omega
    have wq2 : IntKind.i64.wrap (a10 : Int) = (a10 : Int) := by rw [IntKind.wrap_i64]; omega
    have wq3 : IntKind.i64.wrap (sm : Int) = (sm : Int) := by rw [IntKind.wrap_i64]; omega
    generalize x.k = xk at *
    generalize x.n = xn at *
    clear hk hL ih hR hCc hll hA hcx ex K0 K0b hxl hn ht3 eC hA0
    go_enter Tryd.func73, Tryd.ntmps73
    go_upto_region 1 with fail
    rw [ewa.out, hg.out]
    go_wp2_with fail
    refine (ihx.out _ _ odx.out).mono ?_
    rintro e w1 ⟨rfl, B1⟩
    have Bd : Hid (Below w.heap.size w w1) := btr BaH.out B1
    clear B1 x0 x1 x2 c0 c1 c2 odx ihx BaH Xa
    go_wp2_with fail
    refine (k1.out _).mono ?_
    rintro e w' ⟨rfl, rfl⟩
    go_wp2_with fail
    refine (k2.out _).mono ?_
    rintro e w' ⟨rfl, rfl⟩
    go_wp2_with fail
    go_ret2
    exact ⟨rfl, Bd.out⟩
/-- Cost's number of an error, by the document -/
def coN (t : Tr) : Int := if len t = 0 then 8 else if 4611686018427387904 < Pl.tcs t then 3 else 0
def coW (t : Tr) : Nat := if len t = 0 then 0 else if 4611686018427387904 < Pl.tcs t then 0 else Pl.tcs t
end Go.Proofs.YtoaccmblaifnmaaDoor
