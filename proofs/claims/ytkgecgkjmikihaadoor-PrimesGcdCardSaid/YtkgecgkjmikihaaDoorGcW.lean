/-
  The walk of the statement PrimesGcd, out of the contracts of package primes.
-/
import Derived.Test.YtkgecgkjmikihaaDoorLy5
namespace Go.Proofs.YtkgecgkjmikihaaDoor
open Flo Go.RowKit

theorem gcI_comm (a b : Int) : gcI b a = gcI a b := by unfold gcI; rw [Nat.gcd_comm]
theorem gcI_neg (a b : Int) : gcI (-a) b = gcI a b := by unfold gcI; rw [Int.natAbs_neg]
theorem natAbs_tmod (a b : Int) : (Int.tmod a b).natAbs = a.natAbs % b.natAbs := Int.natAbs_tmod a b
theorem gcI_mod (a b : Int) : gcI b (Int.tmod a b) = gcI a b := by
  unfold gcI; rw [natAbs_tmod, Nat.gcd_comm b.natAbs, ← Nat.gcd_rec, Nat.gcd_comm]
theorem abs_le {a : Int} (h : inI a) : a.natAbs ≤ 9223372036854775808 := by have := h.lo; have := h.hi; omega
theorem gcd_le (a b : Int) (ha : inI a) (hb : inI b) : Nat.gcd a.natAbs b.natAbs ≤ 9223372036854775808 := by
  by_cases h : a.natAbs = 0
  · rw [h, Nat.gcd_zero_left]; exact abs_le hb
  · exact Nat.le_trans (Nat.gcd_le_left _ (by omega)) (abs_le ha)
/-- the three shapes of the answer -/
theorem gcI_cases {a b : Int} (ha : inI a) (hb : inI b) :
    (a = 0 ∧ b = 0) ∨ ((a = -9223372036854775808 ∨ a = 0) ∧ (b = -9223372036854775808 ∨ b = 0) ∧ gcI a b = -9223372036854775808) ∨
    ∃ G : Nat, 0 < G ∧ G < 9223372036854775808 ∧ gcI a b = (G : Int) ∧ Int.tmod a G = 0 ∧ Int.tmod b G = 0 ∧ ∀ d : Int, Int.tmod a d = 0 → Int.tmod b d = 0 → Int.tmod (G : Int) d = 0 := by
  have hle := gcd_le a b ha hb
  have key : ∀ x : Int, Nat.gcd a.natAbs b.natAbs ∣ x.natAbs → Int.tmod x (Nat.gcd a.natAbs b.natAbs : Nat) = 0 := by
    intro x hx
    have : (Int.tmod x (Nat.gcd a.natAbs b.natAbs : Nat)).natAbs = 0 := by
      rw [natAbs_tmod, Int.natAbs_natCast]; exact Nat.mod_eq_zero_of_dvd hx
    omega
  by_cases h0 : Nat.gcd a.natAbs b.natAbs = 0
  · left
    rw [Nat.gcd_eq_zero_iff] at h0
    omega
  · by_cases h1 : Nat.gcd a.natAbs b.natAbs = 9223372036854775808
    · right; left
      have d1 : Nat.gcd a.natAbs b.natAbs ∣ a.natAbs := Nat.gcd_dvd_left _ _
      have d2 : Nat.gcd a.natAbs b.natAbs ∣ b.natAbs := Nat.gcd_dvd_right _ _
      rw [h1] at d1 d2
      have big : ∀ x : Int, inI x → 9223372036854775808 ∣ x.natAbs → x = -9223372036854775808 ∨ x = 0 := by
        intro x hx hd
        by_cases hz : x.natAbs = 0
        · right; omega
        · have := Nat.le_of_dvd (by omega) hd
          have := hx.lo; have := hx.hi; left; omega
      refine ⟨big a ha d1, big b hb d2, ?_⟩
      unfold gcI; rw [h1]; unfold wrap64; omega
    · right; right
      refine ⟨Nat.gcd a.natAbs b.natAbs, by omega, by omega, ?_, key a (Nat.gcd_dvd_left _ _), key b (Nat.gcd_dvd_right _ _), ?_⟩
      · unfold gcI wrap64; omega
      · intro d h2 h3
        have e1 : a.natAbs % d.natAbs = 0 := by rw [← natAbs_tmod, h2]; rfl
        have e2 : b.natAbs % d.natAbs = 0 := by rw [← natAbs_tmod, h3]; rfl
        have e3 : (Int.tmod (Nat.gcd a.natAbs b.natAbs : Nat) d).natAbs = 0 := by
          rw [natAbs_tmod, Int.natAbs_natCast]
          exact Nat.mod_eq_zero_of_dvd (Nat.dvd_gcd (Nat.dvd_of_mod_eq_zero e1) (Nat.dvd_of_mod_eq_zero e2))
        omega
theorem tmod_in {a b : Int} (ha : inI a) : inI (Int.tmod a b) := by
  have h1 := natAbs_tmod a b
  have h2 : a.natAbs % b.natAbs ≤ a.natAbs := Nat.mod_le _ _
  have h4 := ha.lo
  have h5 := ha.hi
  by_cases h : 0 ≤ a
  · have h3 := Int.tmod_nonneg b h
    exact ⟨by omega, by omega⟩
  · have h3 := Int.tmod_nonneg b (show 0 ≤ -a by omega)
    rw [Int.neg_tmod] at h3
    exact ⟨by omega, by omega⟩
set_option maxHeartbeats 8000000 in
theorem gcd_n (H : P5) (a b d : Int) (G : Nat) (w : World) (ha : inI a) (hb : inI b) (G0 : 0 < G) (G1 : G < 9223372036854775808) (hg : gcI a b = (G : Int)) (hga : Int.tmod a G = 0) (hgb : Int.tmod b G = 0) (hd9 : ∀ d : Int, Int.tmod a d = 0 → Int.tmod b d = 0 → Int.tmod (G : Int) d = 0) :
    Calls Tryd.prog 7 #[.int .i64 a, .int .i64 b, .int .i64 d] w fun e w' => e = .returned (.bool true) ∧ Below w.heap.size w w' := by
  have hi : Hid P5 := H
  have f1 : Hid (gcI b a = (G : Int)) := (gcI_comm a b).trans hg
  have f2 : Hid (gcI b (Int.tmod a b) = (G : Int)) := (gcI_mod a b).trans hg
  have f3 : Hid (gcI (-a) b = (G : Int)) := (gcI_neg a b).trans hg
  have f0 : Hid (gcI a b = (G : Int)) := hg
  have ht : Hid (inI (Int.tmod a b)) := tmod_in ha
  have haH : Hid (inI a) := ha
  have hbH : Hid (inI b) := hb
  clear H hg ha hb
  have g1 : ((G : Int) == 0) = false := beq_eq_false_iff_ne.2 (by omega)
  have g2 : ((G : Int) == -9223372036854775808) = false := beq_eq_false_iff_ne.2 (by omega)
  have g3 : decide ((G : Int) < 0) = false := decide_eq_false (by omega)
  have r1 : (Int.tmod a (G : Int) == 0) = true := beq_iff_eq.2 hga
  have r2 : (Int.tmod b (G : Int) == 0) = true := beq_iff_eq.2 hgb
  have r3 : (Int.tmod a (G : Int) != 0) = false := by simp [bne, r1]
  have r4 : (Int.tmod b (G : Int) != 0) = false := by simp [bne, r2]
  have hdd : Hid (∀ d : Int, Int.tmod a d = 0 → Int.tmod b d = 0 → Int.tmod (G : Int) d = 0) := hd9
  clear hga hgb hd9
  by_cases hb0 : b = 0
  · have c1 : (b == 0) = true := beq_iff_eq.2 hb0
    have c2 : (b != 0) = false := by simp [bne, c1]
    by_cases hm : a = -9223372036854775808
    · exfalso
      have := f0.out
      rw [hb0, hm] at this
      unfold gcI at this
      rw [show Nat.gcd (-9223372036854775808 : Int).natAbs (0 : Int).natAbs = 9223372036854775808 by decide] at this
      unfold wrap64 at this
      omega
    · have c3 : (a == -9223372036854775808) = false := beq_eq_false_iff_ne.2 hm
      have c4 : (a != -9223372036854775808) = true := by simp [bne, c3]
      have hn : Hid (inI (-a)) := ⟨by have := haH.out.hi; omega, by have := haH.out.lo; omega⟩
      have ewn : Hid (wrap64 (-a) = -a) := (by have := haH.out.hi; have := haH.out.lo; unfold wrap64; omega : wrap64 (-a) = -a)
      clear hb0
      go_enter Tryd.func7, Tryd.ntmps7
      go_wp2_with (go_at_call 9; refine (fixed_c hi.out _).mono ?_; rintro e w1 ⟨rfl, b1⟩)
      refine (hi.out.gcd _ _ _ haH.out hbH.out).mono ?_
      rintro e w2 ⟨rfl, b2⟩
      rw [f0.out]
      have B2 : Hid (Below w.heap.size w w2) := b1.trans (b2.mono b1.size)
      clear b1 b2
      go_wp2_with fail
      refine (hi.out.gcd _ _ _ hbH.out haH.out).mono ?_
      rintro e w3 ⟨rfl, b3⟩
      rw [f1.out]
      have B3 : Hid (Below w.heap.size w w3) := B2.out.trans (b3.mono B2.out.size)
      clear b3 B2
      go_wp2_with fail
      rw [ewn.out]
      refine (hi.out.gcd _ _ _ hn.out hbH.out).mono ?_
      rintro e w5 ⟨rfl, b5⟩
      rw [f3.out]
      have B5 : Hid (Below w.heap.size w w5) := B3.out.trans (b5.mono B3.out.size)
      clear b5 B3
      have HB := B5
      go_upto_region 10 with fail
      by_cases d0 : d = 0
      · have q1 : (d == 0) = true := beq_iff_eq.2 d0
        clear d0
        go_wp2
        go_ret
        exact ⟨rfl, HB.out⟩
      · have q1 : (d == 0) = false := beq_eq_false_iff_ne.2 d0
        by_cases d1 : d = -1
        · have q2 : (d == -1) = true := beq_iff_eq.2 d1
          clear d1
          go_wp2
          go_ret
          exact ⟨rfl, HB.out⟩
        · have q2 : (d == -1) = false := beq_eq_false_iff_ne.2 d1
          by_cases d2 : Int.tmod a d = 0
          · have q3 : (Int.tmod a d == 0) = true := beq_iff_eq.2 d2
            by_cases d3 : Int.tmod b d = 0
            · have q4 : (Int.tmod b d == 0) = true := beq_iff_eq.2 d3
              have q5 : Hid (((G : Int) % d == 0) = true) := (by rw [← Int.tmod_eq_emod_of_nonneg (by omega)]; exact beq_iff_eq.2 (hdd.out d d2 d3) : ((G : Int) % d == 0) = true)
              have q6 : (Int.tmod a d != 0) = false := by simp [bne, q3]
              have q7 : (Int.tmod b d != 0) = false := by simp [bne, q4]
              clear d2 d3
              go_wp2
              go_ret
              exact ⟨ret_bool q5.out, HB.out⟩
            · have q4 : (Int.tmod b d == 0) = false := beq_eq_false_iff_ne.2 d3
              have q6 : (Int.tmod a d != 0) = false := by simp [bne, q3]
              have q7 : (Int.tmod b d != 0) = true := by simp [bne, q4]
              clear d2 d3
              go_wp2
              go_ret
              exact ⟨rfl, HB.out⟩
          · have q3 : (Int.tmod a d == 0) = false := beq_eq_false_iff_ne.2 d2
            have q6 : (Int.tmod a d != 0) = true := by simp [bne, q3]
            clear d2
            go_wp2
            go_ret
            exact ⟨rfl, HB.out⟩
  · have c1 : (b == 0) = false := beq_eq_false_iff_ne.2 hb0
    have c2 : (b != 0) = true := by simp [bne, c1]
    by_cases hm : a = -9223372036854775808
    · have c3 : (a == -9223372036854775808) = true := beq_iff_eq.2 hm
      have c4 : (a != -9223372036854775808) = false := by simp [bne, c3]
      clear hm
      go_enter Tryd.func7, Tryd.ntmps7
      go_wp2_with (go_at_call 9; refine (fixed_c hi.out _).mono ?_; rintro e w1 ⟨rfl, b1⟩)
      refine (hi.out.gcd _ _ _ haH.out hbH.out).mono ?_
      rintro e w2 ⟨rfl, b2⟩
      rw [f0.out]
      have B2 : Hid (Below w.heap.size w w2) := b1.trans (b2.mono b1.size)
      clear b1 b2
      go_wp2_with fail
      refine (hi.out.gcd _ _ _ hbH.out haH.out).mono ?_
      rintro e w3 ⟨rfl, b3⟩
      rw [f1.out]
      have B3 : Hid (Below w.heap.size w w3) := B2.out.trans (b3.mono B2.out.size)
      clear b3 B2
      go_wp2_with fail
      refine (hi.out.gcd _ _ _ hbH.out ht.out).mono ?_
      rintro e w4 ⟨rfl, b4⟩
      rw [f2.out]
      have B4 : Hid (Below w.heap.size w w4) := B3.out.trans (b4.mono B3.out.size)
      clear b4 B3
      have HB := B4
      go_upto_region 10 with fail
      by_cases d0 : d = 0
      · have q1 : (d == 0) = true := beq_iff_eq.2 d0
        clear d0
        go_wp2
        go_ret
        exact ⟨rfl, HB.out⟩
      · have q1 : (d == 0) = false := beq_eq_false_iff_ne.2 d0
        by_cases d1 : d = -1
        · have q2 : (d == -1) = true := beq_iff_eq.2 d1
          clear d1
          go_wp2
          go_ret
          exact ⟨rfl, HB.out⟩
        · have q2 : (d == -1) = false := beq_eq_false_iff_ne.2 d1
          by_cases d2 : Int.tmod a d = 0
          · have q3 : (Int.tmod a d == 0) = true := beq_iff_eq.2 d2
            by_cases d3 : Int.tmod b d = 0
            · have q4 : (Int.tmod b d == 0) = true := beq_iff_eq.2 d3
              have q5 : Hid (((G : Int) % d == 0) = true) := (by rw [← Int.tmod_eq_emod_of_nonneg (by omega)]; exact beq_iff_eq.2 (hdd.out d d2 d3) : ((G : Int) % d == 0) = true)
              have q6 : (Int.tmod a d != 0) = false := by simp [bne, q3]
              have q7 : (Int.tmod b d != 0) = false := by simp [bne, q4]
              clear d2 d3
              go_wp2
              go_ret
              exact ⟨ret_bool q5.out, HB.out⟩
            · have q4 : (Int.tmod b d == 0) = false := beq_eq_false_iff_ne.2 d3
              have q6 : (Int.tmod a d != 0) = false := by simp [bne, q3]
              have q7 : (Int.tmod b d != 0) = true := by simp [bne, q4]
              clear d2 d3
              go_wp2
              go_ret
              exact ⟨rfl, HB.out⟩
          · have q3 : (Int.tmod a d == 0) = false := beq_eq_false_iff_ne.2 d2
            have q6 : (Int.tmod a d != 0) = true := by simp [bne, q3]
            clear d2
            go_wp2
            go_ret
            exact ⟨rfl, HB.out⟩
    · have c3 : (a == -9223372036854775808) = false := beq_eq_false_iff_ne.2 hm
      have c4 : (a != -9223372036854775808) = true := by simp [bne, c3]
      have hn : Hid (inI (-a)) := ⟨by have := haH.out.hi; omega, by have := haH.out.lo; omega⟩
      have ewn : Hid (wrap64 (-a) = -a) := (by have := haH.out.hi; have := haH.out.lo; unfold wrap64; omega : wrap64 (-a) = -a)
      go_enter Tryd.func7, Tryd.ntmps7
      go_wp2_with (go_at_call 9; refine (fixed_c hi.out _).mono ?_; rintro e w1 ⟨rfl, b1⟩)
      refine (hi.out.gcd _ _ _ haH.out hbH.out).mono ?_
      rintro e w2 ⟨rfl, b2⟩
      rw [f0.out]
      have B2 : Hid (Below w.heap.size w w2) := b1.trans (b2.mono b1.size)
      clear b1 b2
      go_wp2_with fail
      refine (hi.out.gcd _ _ _ hbH.out haH.out).mono ?_
      rintro e w3 ⟨rfl, b3⟩
      rw [f1.out]
      have B3 : Hid (Below w.heap.size w w3) := B2.out.trans (b3.mono B2.out.size)
      clear b3 B2
      go_wp2_with fail
      refine (hi.out.gcd _ _ _ hbH.out ht.out).mono ?_
      rintro e w4 ⟨rfl, b4⟩
      rw [f2.out]
      have B4 : Hid (Below w.heap.size w w4) := B3.out.trans (b4.mono B3.out.size)
      clear b4 B3
      go_wp2_with fail
      rw [ewn.out]
      refine (hi.out.gcd _ _ _ hn.out hbH.out).mono ?_
      rintro e w5 ⟨rfl, b5⟩
      rw [f3.out]
      have B5 : Hid (Below w.heap.size w w5) := B4.out.trans (b5.mono B4.out.size)
      clear b5 B4
      have HB := B5
      go_upto_region 10 with fail
      by_cases d0 : d = 0
      · have q1 : (d == 0) = true := beq_iff_eq.2 d0
        clear d0
        go_wp2
        go_ret
        exact ⟨rfl, HB.out⟩
      · have q1 : (d == 0) = false := beq_eq_false_iff_ne.2 d0
        by_cases d1 : d = -1
        · have q2 : (d == -1) = true := beq_iff_eq.2 d1
          clear d1
          go_wp2
          go_ret
          exact ⟨rfl, HB.out⟩
        · have q2 : (d == -1) = false := beq_eq_false_iff_ne.2 d1
          by_cases d2 : Int.tmod a d = 0
          · have q3 : (Int.tmod a d == 0) = true := beq_iff_eq.2 d2
            by_cases d3 : Int.tmod b d = 0
            · have q4 : (Int.tmod b d == 0) = true := beq_iff_eq.2 d3
              have q5 : Hid (((G : Int) % d == 0) = true) := (by rw [← Int.tmod_eq_emod_of_nonneg (by omega)]; exact beq_iff_eq.2 (hdd.out d d2 d3) : ((G : Int) % d == 0) = true)
              have q6 : (Int.tmod a d != 0) = false := by simp [bne, q3]
              have q7 : (Int.tmod b d != 0) = false := by simp [bne, q4]
              clear d2 d3
              go_wp2
              go_ret
              exact ⟨ret_bool q5.out, HB.out⟩
            · have q4 : (Int.tmod b d == 0) = false := beq_eq_false_iff_ne.2 d3
              have q6 : (Int.tmod a d != 0) = false := by simp [bne, q3]
              have q7 : (Int.tmod b d != 0) = true := by simp [bne, q4]
              clear d2 d3
              go_wp2
              go_ret
              exact ⟨rfl, HB.out⟩
          · have q3 : (Int.tmod a d == 0) = false := beq_eq_false_iff_ne.2 d2
            have q6 : (Int.tmod a d != 0) = true := by simp [bne, q3]
            clear d2
            go_wp2
            go_ret
            exact ⟨rfl, HB.out⟩
set_option maxHeartbeats 2000000 in
theorem gcd_00 (H : P5) (a b d g : Int) (w : World) (ha : inI a) (hb : inI b) (hA : Hid (a = 0)) (hB : Hid (b = 0)) (hg : Hid (gcI a b = g)) (hz : Hid (g = 0)) :
    Calls Tryd.prog 7 #[.int .i64 a, .int .i64 b, .int .i64 d] w fun e w' => e = .returned (.bool true) ∧ Below w.heap.size w w' := by
  have hi : Hid P5 := H
  have f0 : Hid (gcI a b = g) := hg
  have f1 : Hid (gcI b a = g) := (gcI_comm a b).trans hg.out
  have f2 : Hid (gcI b (Int.tmod a b) = g) := (gcI_mod a b).trans hg.out
  have f3 : Hid (gcI (-a) b = g) := (gcI_neg a b).trans hg.out
  have ht : Hid (inI (Int.tmod a b)) := tmod_in ha
  have haH : Hid (inI a) := ha
  have hbH : Hid (inI b) := hb
  clear H ha hb hg
  have a0 : (a == 0) = true := by rw [hA.out]; rfl
  have am : (a == -9223372036854775808) = false := by rw [hA.out]; rfl
  have b0 : (b == 0) = true := by rw [hB.out]; rfl
  have bm : (b == -9223372036854775808) = false := by rw [hB.out]; rfl
  have g0 : (g == 0) = true := by rw [hz.out]; rfl
  have gm : (g == -9223372036854775808) = false := by rw [hz.out]; rfl
  have an : (a != -9223372036854775808) = true := by simp [bne, am]
  have bn : (b != 0) = false := by simp [bne, b0]
  have gn : (g != 0) = false := by simp [bne, g0]
  have hn : Hid (inI (-a)) := ⟨by rw [hA.out]; decide, by rw [hA.out]; decide⟩
  have ewn : Hid (wrap64 (-a) = -a) := (by rw [hA.out]; unfold wrap64; omega : wrap64 (-a) = -a)
  go_enter Tryd.func7, Tryd.ntmps7
  go_wp2_with (go_at_call 9; refine (fixed_c hi.out _).mono ?_; rintro e w1 ⟨rfl, b1⟩)
  refine (hi.out.gcd _ _ _ haH.out hbH.out).mono ?_
  rintro e w2 ⟨rfl, b2⟩
  rw [f0.out]
  have B2 : Hid (Below w.heap.size w w2) := b1.trans (b2.mono b1.size)
  clear b1 b2
  go_wp2_with fail
  refine (hi.out.gcd _ _ _ hbH.out haH.out).mono ?_
  rintro e w3 ⟨rfl, b3⟩
  rw [f1.out]
  have B3 : Hid (Below w.heap.size w w3) := B2.out.trans (b3.mono B2.out.size)
  clear b3 B2
  go_wp2_with fail
  rw [ewn.out]
  refine (hi.out.gcd _ _ _ hn.out hbH.out).mono ?_
  rintro e w5 ⟨rfl, b5⟩
  rw [f3.out]
  have B5 : Hid (Below w.heap.size w w5) := B3.out.trans (b5.mono B3.out.size)
  clear b5 B3
  go_wp2
  go_ret
  exact ⟨rfl, B5.out⟩
set_option maxHeartbeats 2000000 in
theorem gcd_mm (H : P5) (a b d g : Int) (w : World) (ha : inI a) (hb : inI b) (hA : Hid (a = -9223372036854775808)) (hB : Hid (b = -9223372036854775808)) (hg : Hid (gcI a b = g)) (hz : Hid (g = -9223372036854775808)) :
    Calls Tryd.prog 7 #[.int .i64 a, .int .i64 b, .int .i64 d] w fun e w' => e = .returned (.bool true) ∧ Below w.heap.size w w' := by
  have hi : Hid P5 := H
  have f0 : Hid (gcI a b = g) := hg
  have f1 : Hid (gcI b a = g) := (gcI_comm a b).trans hg.out
  have f2 : Hid (gcI b (Int.tmod a b) = g) := (gcI_mod a b).trans hg.out
  have f3 : Hid (gcI (-a) b = g) := (gcI_neg a b).trans hg.out
  have ht : Hid (inI (Int.tmod a b)) := tmod_in ha
  have haH : Hid (inI a) := ha
  have hbH : Hid (inI b) := hb
  clear H ha hb hg
  have a0 : (a == 0) = false := by rw [hA.out]; rfl
  have am : (a == -9223372036854775808) = true := by rw [hA.out]; rfl
  have b0 : (b == 0) = false := by rw [hB.out]; rfl
  have bm : (b == -9223372036854775808) = true := by rw [hB.out]; rfl
  have g0 : (g == 0) = false := by rw [hz.out]; rfl
  have gm : (g == -9223372036854775808) = true := by rw [hz.out]; rfl
  have an : (a != -9223372036854775808) = false := by simp [bne, am]
  have bn : (b != 0) = true := by simp [bne, b0]
  have gn : (g != 0) = true := by simp [bne, g0]
  have hbne : ¬ b = 0 := by rw [hB.out]; decide
  go_enter Tryd.func7, Tryd.ntmps7
  go_wp2_with (go_at_call 9; refine (fixed_c hi.out _).mono ?_; rintro e w1 ⟨rfl, b1⟩)
  refine (hi.out.gcd _ _ _ haH.out hbH.out).mono ?_
  rintro e w2 ⟨rfl, b2⟩
  rw [f0.out]
  have B2 : Hid (Below w.heap.size w w2) := b1.trans (b2.mono b1.size)
  clear b1 b2
  go_wp2_with fail
  refine (hi.out.gcd _ _ _ hbH.out haH.out).mono ?_
  rintro e w3 ⟨rfl, b3⟩
  rw [f1.out]
  have B3 : Hid (Below w.heap.size w w3) := B2.out.trans (b3.mono B2.out.size)
  clear b3 B2
  go_wp2_with fail
  refine (hi.out.gcd _ _ _ hbH.out ht.out).mono ?_
  rintro e w4 ⟨rfl, b4⟩
  rw [f2.out]
  have B4 : Hid (Below w.heap.size w w4) := B3.out.trans (b4.mono B3.out.size)
  clear b4 B3
  go_wp2
  go_ret
  exact ⟨rfl, B4.out⟩
set_option maxHeartbeats 2000000 in
theorem gcd_m0 (H : P5) (a b d g : Int) (w : World) (ha : inI a) (hb : inI b) (hA : Hid (a = -9223372036854775808)) (hB : Hid (b = 0)) (hg : Hid (gcI a b = g)) (hz : Hid (g = -9223372036854775808)) :
    Calls Tryd.prog 7 #[.int .i64 a, .int .i64 b, .int .i64 d] w fun e w' => e = .returned (.bool true) ∧ Below w.heap.size w w' := by
  have hi : Hid P5 := H
  have f0 : Hid (gcI a b = g) := hg
  have f1 : Hid (gcI b a = g) := (gcI_comm a b).trans hg.out
  have f2 : Hid (gcI b (Int.tmod a b) = g) := (gcI_mod a b).trans hg.out
  have f3 : Hid (gcI (-a) b = g) := (gcI_neg a b).trans hg.out
  have ht : Hid (inI (Int.tmod a b)) := tmod_in ha
  have haH : Hid (inI a) := ha
  have hbH : Hid (inI b) := hb
  clear H ha hb hg
  have a0 : (a == 0) = false := by rw [hA.out]; rfl
  have am : (a == -9223372036854775808) = true := by rw [hA.out]; rfl
  have b0 : (b == 0) = true := by rw [hB.out]; rfl
  have bm : (b == -9223372036854775808) = false := by rw [hB.out]; rfl
  have g0 : (g == 0) = false := by rw [hz.out]; rfl
  have gm : (g == -9223372036854775808) = true := by rw [hz.out]; rfl
  have an : (a != -9223372036854775808) = false := by simp [bne, am]
  have bn : (b != 0) = false := by simp [bne, b0]
  have gn : (g != 0) = true := by simp [bne, g0]
  go_enter Tryd.func7, Tryd.ntmps7
  go_wp2_with (go_at_call 9; refine (fixed_c hi.out _).mono ?_; rintro e w1 ⟨rfl, b1⟩)
  refine (hi.out.gcd _ _ _ haH.out hbH.out).mono ?_
  rintro e w2 ⟨rfl, b2⟩
  rw [f0.out]
  have B2 : Hid (Below w.heap.size w w2) := b1.trans (b2.mono b1.size)
  clear b1 b2
  go_wp2_with fail
  refine (hi.out.gcd _ _ _ hbH.out haH.out).mono ?_
  rintro e w3 ⟨rfl, b3⟩
  rw [f1.out]
  have B3 : Hid (Below w.heap.size w w3) := B2.out.trans (b3.mono B2.out.size)
  clear b3 B2
  go_wp2
  go_ret
  exact ⟨rfl, B3.out⟩
set_option maxHeartbeats 2000000 in
theorem gcd_0m (H : P5) (a b d g : Int) (w : World) (ha : inI a) (hb : inI b) (hA : Hid (a = 0)) (hB : Hid (b = -9223372036854775808)) (hg : Hid (gcI a b = g)) (hz : Hid (g = -9223372036854775808)) :
    Calls Tryd.prog 7 #[.int .i64 a, .int .i64 b, .int .i64 d] w fun e w' => e = .returned (.bool true) ∧ Below w.heap.size w w' := by
  have hi : Hid P5 := H
  have f0 : Hid (gcI a b = g) := hg
  have f1 : Hid (gcI b a = g) := (gcI_comm a b).trans hg.out
  have f2 : Hid (gcI b (Int.tmod a b) = g) := (gcI_mod a b).trans hg.out
  have f3 : Hid (gcI (-a) b = g) := (gcI_neg a b).trans hg.out
  have ht : Hid (inI (Int.tmod a b)) := tmod_in ha
  have haH : Hid (inI a) := ha
  have hbH : Hid (inI b) := hb
  clear H ha hb hg
  have a0 : (a == 0) = true := by rw [hA.out]; rfl
  have am : (a == -9223372036854775808) = false := by rw [hA.out]; rfl
  have b0 : (b == 0) = false := by rw [hB.out]; rfl
  have bm : (b == -9223372036854775808) = true := by rw [hB.out]; rfl
  have g0 : (g == 0) = false := by rw [hz.out]; rfl
  have gm : (g == -9223372036854775808) = true := by rw [hz.out]; rfl
  have an : (a != -9223372036854775808) = true := by simp [bne, am]
  have bn : (b != 0) = true := by simp [bne, b0]
  have gn : (g != 0) = true := by simp [bne, g0]
  have hbne : ¬ b = 0 := by rw [hB.out]; decide
  have hn : Hid (inI (-a)) := ⟨by rw [hA.out]; decide, by rw [hA.out]; decide⟩
  have ewn : Hid (wrap64 (-a) = -a) := (by rw [hA.out]; unfold wrap64; omega : wrap64 (-a) = -a)
  go_enter Tryd.func7, Tryd.ntmps7
  go_wp2_with (go_at_call 9; refine (fixed_c hi.out _).mono ?_; rintro e w1 ⟨rfl, b1⟩)
  refine (hi.out.gcd _ _ _ haH.out hbH.out).mono ?_
  rintro e w2 ⟨rfl, b2⟩
  rw [f0.out]
  have B2 : Hid (Below w.heap.size w w2) := b1.trans (b2.mono b1.size)
  clear b1 b2
  go_wp2_with fail
  refine (hi.out.gcd _ _ _ hbH.out haH.out).mono ?_
  rintro e w3 ⟨rfl, b3⟩
  rw [f1.out]
  have B3 : Hid (Below w.heap.size w w3) := B2.out.trans (b3.mono B2.out.size)
  clear b3 B2
  go_wp2_with fail
  refine (hi.out.gcd _ _ _ hbH.out ht.out).mono ?_
  rintro e w4 ⟨rfl, b4⟩
  rw [f2.out]
  have B4 : Hid (Below w.heap.size w w4) := B3.out.trans (b4.mono B3.out.size)
  clear b4 B3
  go_wp2_with fail
  rw [ewn.out]
  refine (hi.out.gcd _ _ _ hn.out hbH.out).mono ?_
  rintro e w5 ⟨rfl, b5⟩
  rw [f3.out]
  have B5 : Hid (Below w.heap.size w w5) := B4.out.trans (b5.mono B4.out.size)
  clear b5 B4
  go_wp2
  go_ret
  exact ⟨rfl, B5.out⟩
/-- the law at all arguments -/
theorem gcd_w (H : P5) (a b d : Int) (w : World) (ha : inI a) (hb : inI b) :
    Calls Tryd.prog 7 #[.int .i64 a, .int .i64 b, .int .i64 d] w fun e w' => e = .returned (.bool true) ∧ Below w.heap.size w w' := by
  have z : gcI 0 0 = 0 := by unfold gcI; rw [show Nat.gcd (0 : Int).natAbs (0 : Int).natAbs = 0 by decide]; unfold wrap64; omega
  rcases gcI_cases ha hb with ⟨rfl, rfl⟩ | ⟨h1, h2, h3⟩ | ⟨G, g0, g1, g2, g3, g4, g5⟩
  · exact gcd_00 H 0 0 d 0 w ha hb rfl rfl z rfl
  · rcases h1 with h1 | h1 <;> rcases h2 with h2 | h2
    · exact gcd_mm H a b d _ w ha hb h1 h2 h3 rfl
    · exact gcd_m0 H a b d _ w ha hb h1 h2 h3 rfl
    · exact gcd_0m H a b d _ w ha hb h1 h2 h3 rfl
    · exfalso
      subst h1 h2
      rw [z] at h3
      omega
  · exact gcd_n H a b d G w ha hb g0 g1 g2 g3 g4 g5
end Go.Proofs.YtkgecgkjmikihaaDoor
