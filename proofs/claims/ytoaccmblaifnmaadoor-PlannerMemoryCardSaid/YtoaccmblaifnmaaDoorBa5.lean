/-
  The document's length, Length, Check.
-/
import Derived.WalkKit
import Ieee.Arith
import Derived.WalkLawsBesides
import Derived.Test.YtoaccmblaifnmaaDoorProg
import Derived.Deep.DeepCutAuto
import Derived.Deep.QuietTactic
import Derived.Laws.Rows
import Derived.Test.YtoaccmblaifnmaaDoorBa4
namespace Go.Proofs.YtoaccmblaifnmaaDoor
open Flo Go.RowKit Tr
theorem tms_ne {ls : List Nat} (h : ls.length ≠ 2) : tms ls = 0 := by
  match ls, h with
  | [], _ => rfl
  | [_], _ => rfl
  | [_, _], h => exact absurd rfl h
  | _ :: _ :: _ :: _, _ => rfl
theorem blu_ne {n : Int} {ls : List Nat} (h : ls.length ≠ 1) : blu n ls = 0 := by
  match ls, h with
  | [], _ => rfl
  | [_], h => exact absurd rfl h
  | _ :: _ :: _, _ => rfl
theorem lnc_le (k n : Int) (ls : List Nat) : lnc k n ls ≤ 16384 := by
  unfold lnc tms blu
  repeat' split
  all_goals first
    | omega
    | (rename_i h; have h1 := h.2.2; exact Nat.le_trans (Nat.mul_le_mul_right _ h1) (Nat.div_mul_le_self _ _))
theorem ln_le (t : Tr) : ln t ≤ 16384 := by obtain ⟨k, n, ks⟩ := t; rw [ln_eq]; exact lnc_le _ _ _
theorem len0 {ks : List Tr} (h : ks.length = 0) : ks = [] := List.length_eq_zero_iff.1 h
theorem len1 {ks : List Tr} (h : ks.length = 1) : ∃ a, ks = [a] := List.length_eq_one_iff.1 h
theorem len2 {ks : List Tr} (h : ks.length = 2) : ∃ a b, ks = [a, b] := by
  match ks, h with
  | [a, b], _ => exact ⟨a, b, rfl⟩
/-- an order's box -/
structure Bx3 (w : World) (g : Nat) (k n : Int) (s : Value) : Prop where
  c0 : w.cell? ⟨g, 0, none⟩ = some (.int .i64 k)
  c1 : w.cell? ⟨g, 1, none⟩ = some (.int .i64 n)
  c2 : w.cell? ⟨g, 2, none⟩ = some s
  lt : g < w.heap.size
theorem Bx3.new (w : World) (k n : Int) (s : Value) (t : TypeId) : Bx3 (w.alloc (.cells #[.int .i64 k, .int .i64 n, s] t)) w.heap.size k n s :=
  ⟨(cell_of_row _ _ _ _ _ _ (heap_alloc_new w _)), (cell_of_row _ _ _ _ _ _ (heap_alloc_new w _)), (cell_of_row _ _ _ _ _ _ (heap_alloc_new w _)), by simp⟩
theorem Bx3.below {w w' : World} {g : Nat} {k n : Int} {s : Value} (h : Bx3 w g k n s) (hb : Below w.heap.size w w') : Bx3 w' g k n s :=
  ⟨(hb.cell (p := ⟨g, 0, none⟩) h.lt).trans h.c0, (hb.cell (p := ⟨g, 1, none⟩) h.lt).trans h.c1, (hb.cell (p := ⟨g, 2, none⟩) h.lt).trans h.c2, Nat.lt_of_lt_of_le h.lt hb.size⟩
set_option maxHeartbeats 2000000 in
theorem rlength_c (t : Tr) : ∀ (v : Value) (w : World), Od w t v → Calls Tryd.prog 108 #[v] w fun e w' => e = .returned (.int .i64 (ln t : Int)) ∧ Below w.heap.size w w' := by
  refine Tr.ind (P := fun t => ∀ (v : Value) (w : World), Od w t v → Calls Tryd.prog 108 #[v] w fun e w' => e = .returned (.int .i64 (ln t : Int)) ∧ Below w.heap.size w w') (fun k n ks ih0 v w ho => ?_) t
  obtain ⟨ao, cap, rfl, hl0, hk0⟩ := ho.kds
  obtain ⟨L, hL⟩ : ∃ L, Hid (ks.length = L) := ⟨_, (rfl : _ = _)⟩
  have hk : Hid (Kds w ao L ks) := by show Kds _ _ _ _; rw [← hL.out]; exact hk0
  have hl : L ≤ 9223372036854775807 := by rw [← hL.out]; exact hl0
  have ih : Hid (∀ t ∈ ks, ∀ (v : Value) (w : World), Od w t v → Calls Tryd.prog 108 #[v] w fun e w' => e = .returned (.int .i64 (ln t : Int)) ∧ Below w.heap.size w w') := ih0
  obtain ⟨R, hR⟩ : ∃ R : Nat, Hid (ln ⟨k, n, ks⟩ = R) := ⟨_, (rfl : _ = _)⟩
  rw [hL.out]
  rw [hR.out]
  have hR2 : Hid (lnc k n (ks.map ln) = R) := by show _ = _; rw [← hR.out, ln_eq]
  clear hk0 hl0 ih0 ho
  obtain ⟨w0, hw0⟩ : ∃ w0, Hid (w.alloc (.cells #[.int .i64 k, .int .i64 n, .slice ao L cap] 24) = w0) := ⟨_, (rfl : _ = _)⟩
  have B0 : Hid (Below w.heap.size w w0) := by show Below _ _ _; rw [← hw0.out]; exact (Below.refl _ _).alloc (Nat.le_refl _) _
  have X0 : Hid (Bx3 w0 w.heap.size k n (.slice ao L cap)) := by show Bx3 _ _ _ _ _; rw [← hw0.out]; exact Bx3.new _ _ _ _ _
  go_enter Tryd.func108, Tryd.ntmps108
  go_upto_region 1 with fail
  rw [hw0.out]
  clear hw0
  obtain ⟨g, hg⟩ : ∃ g, Hid (w.heap.size = g) := ⟨_, (rfl : _ = _)⟩
  rw [hg.out] at X0 ⊢
  have c0 := X0.out.c0
  have c1 := X0.out.c1
  have c2 := X0.out.c2
  by_cases k1 : k = 1
  · have q1 : (k == 1) = true := by rw [k1]; rfl
    have hv : Hid (R = if 1 ≤ n ∧ n ≤ 64 ∧ ks.map ln = [] then n.toNat else 0) := by show _ = _; rw [← hR2.out]; unfold lnc; rw [if_pos k1]
    clear k1
    by_cases h1 : n ≥ 1
    · by_cases h2 : n ≤ 64
      · by_cases h3 : L = 0
        · have q3 : ((L : Int) == 0) = true := by rw [h3]; rfl
          have hv2 : Hid (n = (R : Int)) := by
            show _ = _
            rw [hv.out, if_pos ⟨h1, h2, by rw [len0 (hL.out.trans h3)]; rfl⟩]; omega
          clear h3
          go_wp2_with fail
          go_ret
          exact ⟨by rw [← hv2.out]; rfl, B0.out⟩
        · have q3 : ((L : Int) == 0) = false := beq_eq_false_iff_ne.2 (by omega)
          have hv2 : Hid (0 = R) := by
            show _ = _
            rw [hv.out, if_neg (fun h => h3 (by rw [← hL.out, ← List.length_map (f := ln), h.2.2]; rfl))]
          go_wp2_with fail
          go_ret
          exact ⟨by rw [← hv2.out]; rfl, B0.out⟩
      · have q2 : decide (n ≤ 64) = false := decide_eq_false h2
        have hv2 : Hid (0 = R) := by show _ = _; rw [hv.out, if_neg (fun h => h2 h.2.1)]
        go_wp2_with fail
        go_ret
        exact ⟨by rw [← hv2.out]; rfl, B0.out⟩
    · have q2 : decide (n ≥ 1) = false := decide_eq_false h1
      have hv2 : Hid (0 = R) := by show _ = _; rw [hv.out, if_neg (fun h => h1 h.1)]
      go_wp2_with fail
      go_ret
      exact ⟨by rw [← hv2.out]; rfl, B0.out⟩
  · have m1 := k1
    have r1 : (k == 1) = false := beq_eq_false_iff_ne.2 k1
    clear k1
    by_cases k1 : k = 2
    · have q1 : (k == 2) = true := by rw [k1]; rfl
      have hv : Hid (R = if 2 ≤ n ∧ n ≤ 5 ∧ ks.map ln = [] then n.toNat else 0) := by show _ = _; rw [← hR2.out]; unfold lnc; rw [if_neg m1, if_pos k1]
      clear k1
      by_cases h1 : n ≥ 2
      · by_cases h2 : n ≤ 5
        · by_cases h3 : L = 0
          · have q3 : ((L : Int) == 0) = true := by rw [h3]; rfl
            have hv2 : Hid (n = (R : Int)) := by
              show _ = _
              rw [hv.out, if_pos ⟨h1, h2, by rw [len0 (hL.out.trans h3)]; rfl⟩]; omega
            clear h3
            go_wp2_with fail
            go_ret
            exact ⟨by rw [← hv2.out]; rfl, B0.out⟩
          · have q3 : ((L : Int) == 0) = false := beq_eq_false_iff_ne.2 (by omega)
            have hv2 : Hid (0 = R) := by
              show _ = _
              rw [hv.out, if_neg (fun h => h3 (by rw [← hL.out, ← List.length_map (f := ln), h.2.2]; rfl))]
            go_wp2_with fail
            go_ret
            exact ⟨by rw [← hv2.out]; rfl, B0.out⟩
        · have q2 : decide (n ≤ 5) = false := decide_eq_false h2
          have hv2 : Hid (0 = R) := by show _ = _; rw [hv.out, if_neg (fun h => h2 h.2.1)]
          go_wp2_with fail
          go_ret
          exact ⟨by rw [← hv2.out]; rfl, B0.out⟩
      · have q2 : decide (n ≥ 2) = false := decide_eq_false h1
        have hv2 : Hid (0 = R) := by show _ = _; rw [hv.out, if_neg (fun h => h1 h.1)]
        go_wp2_with fail
        go_ret
        exact ⟨by rw [← hv2.out]; rfl, B0.out⟩
    · have m2 := k1
      have r2 : (k == 2) = false := beq_eq_false_iff_ne.2 k1
      clear k1
      by_cases k1 : k = 3
      · have q1 : (k == 3) = true := by rw [k1]; rfl
        have hv : Hid (R = if n = 0 then tms (ks.map ln) else 0) := by show _ = _; rw [← hR2.out]; unfold lnc; rw [if_neg m1, if_neg m2, if_pos k1]
        clear k1 m1 m2
        by_cases h1 : n = 0
        · have q2 : (n != 0) = false := by rw [h1]; rfl
          by_cases h2 : L = 2
          · have q3 : ((L : Int) != 2) = false := by rw [h2]; rfl
            obtain ⟨x, y, hxy⟩ := len2 (hL.out.trans h2)
            obtain ⟨b0, off0, s0, x', ex, K0⟩ := hk.out 0 (by omega)
            obtain ⟨b1, off1, s1, y', ey, K1⟩ := hk.out 1 (by omega)
            have e0 := K0.at0
            have e1 := K1.at0
            rw [hxy] at ex ey
            obtain rfl : x = x' := by simpa using ex
            obtain rfl : y = y' := by simpa using ey
            obtain rfl := e0
            obtain ⟨rfl, rfl⟩ : b0 = b1 ∧ off0 = off1 := by simpa using e1
            clear e1 ex ey
            obtain ⟨A, hA⟩ : ∃ A, Hid (ln x = A) := ⟨_, (rfl : _ = _)⟩
            obtain ⟨B, hB⟩ : ∃ B, Hid (ln y = B) := ⟨_, (rfl : _ = _)⟩
            have hA2 : A ≤ 16384 := by rw [← hA.out]; exact ln_le _
            have hB2 : B ≤ 16384 := by rw [← hB.out]; exact ln_le _
            have hv2 : Hid (R = if 2 ≤ A ∧ 2 ≤ B ∧ A ≤ 16384 / B then A * B else 0) := by
              show _ = _
              rw [hv.out, if_pos h1, hxy, ← hA.out, ← hB.out]; rfl
            have ihx := ih.out x (by rw [hxy]; simp)
            have ihy := ih.out y (by rw [hxy]; simp)
            rw [hA.out] at ihx
            rw [hB.out] at ihy
            have ihxH : Hid (∀ (v : Value) (w : World), Od w x v → Calls Tryd.prog 108 #[v] w fun e w' => e = .returned (.int .i64 (A : Int)) ∧ Below w.heap.size w w') := ihx
            have ihyH : Hid (∀ (v : Value) (w : World), Od w y v → Calls Tryd.prog 108 #[v] w fun e w' => e = .returned (.int .i64 (B : Int)) ∧ Below w.heap.size w w') := ihy
            have L0 := K0.below B0.out
            have L1H : Hid (Kid w0 (some ⟨b0, off0, none⟩) 1 y b0 off0 s1) := K1.below B0.out
            obtain ⟨a0, l0, p0, rfl⟩ := L0.slc
            have d0 := L0.c0
            have d1 := L0.c1
            have d2 := L0.c2
            rw [Nat.zero_mul, Nat.add_zero] at d0 d1 d2
            have hod : Hid (Od w0 x (.agg #[.int .i64 x.k, .int .i64 x.n, .slice a0 l0 p0])) := L0.od
            generalize x.k = xk at *
            generalize x.n = xn at *
            have hL2 : (1 : Int) < (L : Int) := by omega
            have hL3 : (0 : Int) < (L : Int) := by omega
            have hL4 : 1 < L := by omega
            clear ihx ihy L0 K0 K1 hA hB hxy hv h2 hk ih
            go_wp2_with fail
            refine (ihxH.out _ _ hod.out).mono ?_
            rintro e w1 ⟨rfl, W1⟩
            have B1 : Hid (Below w.heap.size w w1) := btr B0.out W1
            have X1 := X0.out.below W1
            have e2 := X1.c2
            have hX1 : Hid (Bx3 w1 g k n (.slice (some ⟨b0, off0, none⟩) L cap)) := X1
            have L1 := L1H.out.below W1
            obtain ⟨a1, l1, p1, rfl⟩ := L1.slc
            have f0 := L1.c0
            have f1 := L1.c1
            have f2 := L1.c2
            rw [Nat.one_mul] at f0 f1 f2
            have hod1 : Hid (Od w1 y (.agg #[.int .i64 y.k, .int .i64 y.n, .slice a1 l1 p1])) := L1.od
            generalize y.k = yk at *
            generalize y.n = yn at *
            clear X1 L1 L1H W1 hod ihxH d0 d1 d2 c0 c1 c2
            go_wp2_with fail
            refine (ihyH.out _ _ hod1.out).mono ?_
            rintro e w2 ⟨rfl, W2⟩
            have B2 : Hid (Below w.heap.size w w2) := btr B1.out W2
            clear W2 hod1 ihyH f0 f1 f2 e2 hX1
            by_cases hA1 : (A : Int) ≥ 2
            · by_cases hB1 : (B : Int) ≥ 2
              · obtain ⟨Q, hQ, hQ1⟩ : ∃ Q : Nat, Hid (Q = 16384 / B) ∧ (16384 : Int).tdiv (B : Int) = (Q : Int) := ⟨16384 / B, (rfl : _ = _), by rw [Int.tdiv_eq_ediv_of_nonneg (by omega)]; exact (Int.natCast_ediv 16384 B).symm⟩
                have hQ2 : Q ≤ 8192 := by rw [hQ.out]; exact Nat.le_trans (Nat.div_le_div_left (by omega : 2 ≤ B) (by decide)) (by decide)
                have hB3 : ¬ (B : Int) = 0 := by omega
                have hB4 : ((B : Int) == 0) = false := beq_eq_false_iff_ne.2 hB3
                by_cases hAQ : A ≤ Q
                · have hAQ' : (A : Int) ≤ (Q : Int) := by omega
                  obtain ⟨M, hM, hM1⟩ : ∃ M : Nat, Hid (M = A * B) ∧ (A : Int) * (B : Int) = (M : Int) := ⟨A * B, (rfl : _ = _), by rw [Int.natCast_mul]⟩
                  have hM2 : M ≤ 16384 := by rw [hM.out]; exact Nat.le_trans (Nat.mul_le_mul_right _ (by rw [← hQ.out]; exact hAQ)) (Nat.div_mul_le_self _ _)
                  have hv3 : Hid (M = R) := by show _ = _; rw [hv2.out, if_pos ⟨by omega, by omega, by rw [← hQ.out]; exact hAQ⟩]; exact hM.out
                  go_wp2_with fail
                  go_ret
                  exact ⟨by rw [← hv3.out]; rfl, B2.out⟩
                · have hAQ' : decide ((A : Int) ≤ (Q : Int)) = false := decide_eq_false (by omega)
                  have hv3 : Hid (0 = R) := by show _ = _; rw [hv2.out, if_neg (fun h => hAQ (by rw [hQ.out]; exact h.2.2))]
                  go_wp2_with fail
                  go_ret
                  exact ⟨by rw [← hv3.out]; rfl, B2.out⟩
              · have q5 : decide ((B : Int) ≥ 2) = false := decide_eq_false hB1
                have hv3 : Hid (0 = R) := by show _ = _; rw [hv2.out, if_neg (fun h => hB1 (by omega))]
                go_wp2_with fail
                go_ret
                exact ⟨by rw [← hv3.out]; rfl, B2.out⟩
            · have q5 : decide ((A : Int) ≥ 2) = false := decide_eq_false hA1
              have hv3 : Hid (0 = R) := by show _ = _; rw [hv2.out, if_neg (fun h => hA1 (by omega))]
              go_wp2_with fail
              go_ret
              exact ⟨by rw [← hv3.out]; rfl, B2.out⟩
          · have q3 : ((L : Int) != 2) = true := bne_iff_ne.2 (by omega)
            have hv2 : Hid (0 = R) := by
              show _ = _
              rw [hv.out, if_pos h1, tms_ne (by rw [List.length_map, hL.out]; exact h2)]
            clear h1
            go_wp2_with fail
            go_ret
            exact ⟨by rw [← hv2.out]; rfl, B0.out⟩
        · have q2 : (n != 0) = true := bne_iff_ne.2 h1
          have hv2 : Hid (0 = R) := by show _ = _; rw [hv.out, if_neg h1]
          go_wp2_with fail
          go_ret
          exact ⟨by rw [← hv2.out]; rfl, B0.out⟩
      · have m3 := k1
        have r3 : (k == 3) = false := beq_eq_false_iff_ne.2 k1
        clear k1
        by_cases k1 : k = 4
        · have q1 : (k == 4) = true := by rw [k1]; rfl
          have hv : Hid (R = if 2 ≤ n ∧ n ≤ 8192 then blu n (ks.map ln) else 0) := by show _ = _; rw [← hR2.out]; unfold lnc; rw [if_neg m1, if_neg m2, if_neg m3, if_pos k1]
          clear k1 m1 m2 m3
          by_cases h1 : n < 2
          · have hv2 : Hid (0 = R) := by show _ = _; rw [hv.out, if_neg (fun h => by omega)]
            go_wp2_with fail
            go_ret
            exact ⟨by rw [← hv2.out]; rfl, B0.out⟩
          · have p1 : decide (n < 2) = false := decide_eq_false h1
            by_cases h2 : n > 8192
            · have hv2 : Hid (0 = R) := by show _ = _; rw [hv.out, if_neg (fun h => by omega)]
              go_wp2_with fail
              go_ret
              exact ⟨by rw [← hv2.out]; rfl, B0.out⟩
            · have p2 : decide (n > 8192) = false := decide_eq_false h2
              by_cases h3 : L = 1
              · have q3 : ((L : Int) != 1) = false := by rw [h3]; rfl
                obtain ⟨x, hx⟩ := len1 (hL.out.trans h3)
                obtain ⟨b0, off0, s0, x', ex, K0⟩ := hk.out 0 (by omega)
                have e0 := K0.at0
                rw [hx] at ex
                obtain rfl : x = x' := by simpa using ex
                obtain rfl := e0
                clear ex
                obtain ⟨A, hA⟩ : ∃ A, Hid (ln x = A) := ⟨_, (rfl : _ = _)⟩
                have hA2 : A ≤ 16384 := by rw [← hA.out]; exact ln_le _
                have hv2 : Hid (R = if 2 * n - 1 ≤ (A : Int) then n.toNat else 0) := by
                  show _ = _
                  rw [hv.out, if_pos ⟨by omega, by omega⟩, hx, ← hA.out]; rfl
                have ihx := ih.out x (by rw [hx]; simp)
                rw [hA.out] at ihx
                have ihxH : Hid (∀ (v : Value) (w : World), Od w x v → Calls Tryd.prog 108 #[v] w fun e w' => e = .returned (.int .i64 (A : Int)) ∧ Below w.heap.size w w') := ihx
                have L0 := K0.below B0.out
                obtain ⟨a0, l0, p0, rfl⟩ := L0.slc
                have d0 := L0.c0
                have d1 := L0.c1
                have d2 := L0.c2
                rw [Nat.zero_mul, Nat.add_zero] at d0 d1 d2
                have hod : Hid (Od w0 x (.agg #[.int .i64 x.k, .int .i64 x.n, .slice a0 l0 p0])) := L0.od
                generalize x.k = xk at *
                generalize x.n = xn at *
                have hL3 : (0 : Int) < (L : Int) := by omega
                have hL4 : 0 < L := by omega
                clear ihx L0 K0 hA hx hv h3 hk ih
                go_wp2_with fail
                refine (ihxH.out _ _ hod.out).mono ?_
                rintro e w1 ⟨rfl, W1⟩
                have B1 : Hid (Below w.heap.size w w1) := btr B0.out W1
                have X1 := X0.out.below W1
                have e1 := X1.c1
                have wr1 : IntKind.i64.wrap (2 * n) = 2 * n := by rw [IntKind.wrap_i64]; omega
                have wr2 : IntKind.i64.wrap (2 * n - 1) = 2 * n - 1 := by rw [IntKind.wrap_i64]; omega
                clear X1 W1 hod ihxH d0 d1 d2 c0 c1 c2
                by_cases h4 : (A : Int) ≥ 2 * n - 1
                · have hv3 : Hid (n = (R : Int)) := by show _ = _; rw [hv2.out, if_pos (by omega)]; omega
                  go_wp2_with fail
                  go_ret
                  exact ⟨by rw [← hv3.out]; rfl, B1.out⟩
                · have q5 : decide ((A : Int) ≥ 2 * n - 1) = false := decide_eq_false h4
                  have hv3 : Hid (0 = R) := by show _ = _; rw [hv2.out, if_neg (fun h => h4 (by omega))]
                  go_wp2_with fail
                  go_ret
                  exact ⟨by rw [← hv3.out]; rfl, B1.out⟩
              · have q3 : ((L : Int) != 1) = true := bne_iff_ne.2 (by omega)
                have hv2 : Hid (0 = R) := by show _ = _; rw [hv.out, if_pos ⟨by omega, by omega⟩, blu_ne (by rw [List.length_map, hL.out]; exact h3)]
                go_wp2_with fail
                go_ret
                exact ⟨by rw [← hv2.out]; rfl, B0.out⟩
        · have r4 : (k == 4) = false := beq_eq_false_iff_ne.2 k1
          have hv2 : Hid (0 = R) := by show _ = _; rw [← hR2.out]; unfold lnc; rw [if_neg m1, if_neg m2, if_neg m3, if_neg k1]
          clear m1 m2 m3 k1
          go_wp2_with fail
          go_ret
          exact ⟨by rw [← hv2.out]; rfl, B0.out⟩
set_option maxHeartbeats 1000000 in
theorem rLength_c (t : Tr) (v : Value) (w : World) (ho : Od w t v) : Calls Tryd.prog 90 #[v] w fun e w' => e = .returned (.int .i64 (len t : Int)) ∧ Below w.heap.size w w' := by
  obtain ⟨k, n, ks⟩ := t
  obtain ⟨ao, cap, rfl, _, _⟩ := ho.kds
  obtain ⟨t, ht⟩ : ∃ t, Hid (Tr.mk k n ks = t) := ⟨_, (rfl : _ = _)⟩
  obtain ⟨L, hL⟩ : ∃ L, Hid (ks.length = L) := ⟨_, (rfl : _ = _)⟩
  rw [hL.out] at ho ⊢
  rw [ht.out] at ho ⊢
  have hoH : Hid (Od w t (.agg #[.int .i64 k, .int .i64 n, .slice ao L cap])) := ho
  clear ho
  obtain ⟨w0, hw0⟩ : ∃ w0, Hid (w.alloc (.cells #[.int .i64 k, .int .i64 n, .slice ao L cap] 24) = w0) := ⟨_, (rfl : _ = _)⟩
  have B0 : Hid (Below w.heap.size w w0) := by show Below _ _ _; rw [← hw0.out]; exact (Below.refl _ _).alloc (Nat.le_refl _) _
  have X0 : Hid (Bx3 w0 w.heap.size k n (.slice ao L cap)) := by show Bx3 _ _ _ _ _; rw [← hw0.out]; exact Bx3.new _ _ _ _ _
  obtain ⟨g, hg⟩ : ∃ g, Hid (w.heap.size = g) := ⟨_, (rfl : _ = _)⟩
  go_enter Tryd.func90, Tryd.ntmps90
  go_upto_region 1 with fail
  rw [hw0.out]
  rw [hg.out] at X0 ⊢
  clear hw0
  have c0 := X0.out.c0
  have c1 := X0.out.c1
  have c2 := X0.out.c2
  go_wp2_with fail
  refine (rParts_c t _ 4096 w0 (Od.below B0.out _ _ hoH.out) (by decide)).mono ?_
  rintro e w1 ⟨rfl, W1⟩
  have B1 : Hid (Below w.heap.size w w1) := btr B0.out W1
  have X1 : Hid (Bx3 w1 g k n (.slice ao L cap)) := X0.out.below W1
  clear c0 c1 c2 X0 W1
  have c0 := X1.out.c0
  have c1 := X1.out.c1
  have c2 := X1.out.c2
  obtain ⟨P, hP⟩ : ∃ P, Hid (min (pt t) (4096 + 1) = P) := ⟨_, (rfl : _ = _)⟩
  rw [hP.out]
  by_cases hp : P > 4096
  · have hp' : (P : Int) > 4096 := by omega
    have hv : Hid (0 = len t) := by show _ = _; unfold len; rw [if_neg (fun h => by have := hP.out; omega)]
    go_wp2_with fail
    go_ret
    exact ⟨by rw [← hv.out]; rfl, B1.out⟩
  · have hp' : decide ((P : Int) > 4096) = false := decide_eq_false (by omega)
    have hpt : Hid (pt t ≤ 4096) := by have := hP.out; show _ ≤ _; omega
    go_wp2_with fail
    refine (rdeep_c t _ 16 w1 (Od.below B1.out _ _ hoH.out) (by decide)).mono ?_
    rintro e w2 ⟨rfl, W2⟩
    have B2 : Hid (Below w.heap.size w w2) := btr B1.out W2
    have X2 : Hid (Bx3 w2 g k n (.slice ao L cap)) := X1.out.below W2
    clear c0 c1 c2 X1 W2
    have c0 := X2.out.c0
    have c1 := X2.out.c1
    have c2 := X2.out.c2
    by_cases hd : dp t ≤ 16
    · have hd' : decide (dp t ≤ 16) = true := decide_eq_true hd
      have hv : Hid (ln t = len t) := by show _ = _; unfold len; rw [if_pos ⟨hpt.out, hd⟩]
      rw [hd']
      clear hd'
      go_wp2_with fail
      refine (rlength_c t _ w2 (Od.below B2.out _ _ hoH.out)).mono ?_
      rintro e w3 ⟨rfl, W3⟩
      have B3 : Hid (Below w.heap.size w w3) := btr B2.out W3
      go_wp2_with fail
      go_ret
      exact ⟨by rw [← hv.out]; rfl, B3.out⟩
    · have hd' : decide (dp t ≤ 16) = false := decide_eq_false hd
      have hv : Hid (0 = len t) := by show _ = _; unfold len; rw [if_neg (fun h => hd h.2)]
      rw [hd']
      clear hd'
      go_wp2_with fail
      go_ret
      exact ⟨by rw [← hv.out]; rfl, B2.out⟩
/-- the number of Check's error -/
def ckn (t : Tr) : Int := if len t = 0 then 8 else 0
set_option maxHeartbeats 1000000 in
theorem rCheck_c (t : Tr) (v : Value) (w : World) (ho : Od w t v) : Calls Tryd.prog 68 #[v] w fun e w' => e = .returned (.int .i64 (ckn t)) ∧ Below w.heap.size w w' := by
  obtain ⟨k, n, ks⟩ := t
  obtain ⟨ao, cap, rfl, _, _⟩ := ho.kds
  obtain ⟨t, ht⟩ : ∃ t, Hid (Tr.mk k n ks = t) := ⟨_, (rfl : _ = _)⟩
  obtain ⟨L, hL⟩ : ∃ L, Hid (ks.length = L) := ⟨_, (rfl : _ = _)⟩
  rw [hL.out] at ho ⊢
  rw [ht.out] at ho ⊢
  have hoH : Hid (Od w t (.agg #[.int .i64 k, .int .i64 n, .slice ao L cap])) := ho
  clear ho
  have B0 : Hid (Below w.heap.size w (w.alloc (.cells #[.int .i64 k, .int .i64 n, .slice ao L cap] 24))) := (Below.refl _ _).alloc (Nat.le_refl _) _
  go_enter Tryd.func68, Tryd.ntmps68
  go_wp2_with fail
  refine (rLength_c t _ _ (Od.below B0.out _ _ hoH.out)).mono ?_
  rintro e w1 ⟨rfl, W1⟩
  have B1 : Hid (Below w.heap.size w w1) := btr B0.out W1
  clear W1
  obtain ⟨R, hR⟩ : ∃ R, Hid (len t = R) := ⟨_, (rfl : _ = _)⟩
  rw [hR.out]
  by_cases h : R = 0
  · have h' : ((R : Int) == 0) = true := by rw [h]; rfl
    have hv : Hid ((8 : Int) = ckn t) := by show _ = _; unfold ckn; rw [if_pos (hR.out.trans h)]
    clear h
    go_wp2_with fail
    go_ret
    exact ⟨by rw [← hv.out]; rfl, B1.out⟩
  · have h' : ((R : Int) == 0) = false := beq_eq_false_iff_ne.2 (by omega)
    have hv : Hid ((0 : Int) = ckn t) := by show _ = _; unfold ckn; rw [if_neg (by rw [hR.out]; exact h)]
    go_wp2_with fail
    go_ret
    exact ⟨by rw [← hv.out]; rfl, B1.out⟩
end Go.Proofs.YtoaccmblaifnmaaDoor
