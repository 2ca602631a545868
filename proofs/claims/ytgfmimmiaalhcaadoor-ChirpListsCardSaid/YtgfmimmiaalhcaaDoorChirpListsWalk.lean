/-
  The walk of ChirpLists.
-/
import Derived.Test.YtgfmimmiaalhcaaDoorCk1
import Derived.Test.YtgfmimmiaalhcaaDoorLaid
import Derived.Test.YtgfmimmiaalhcaaDoorRows
namespace Go.Proofs.YtgfmimmiaalhcaaDoor
open Flo Go.RowKit
theorem Rw.grown {w w' : World} {g n : Nat} {us : List (Nat × Nat)} {row : Option Nat} (h : Rw w g n us) (hg : w.grownBy w' row) (hne : some g ≠ row) : Rw w' g n us := ⟨h.own.kept hg (.inr hne), h.len⟩
theorem Rw.drewN {w : World} {g n : Nat} {us : List (Nat × Nat)} (h : Rw w g n us) (k : Nat) : Rw (w.drewN k) g n us := h.keep (below_drewN (Below.refl _ _) k)
set_option maxHeartbeats 1000000 in
theorem may_c (n m : Int) (w : World) : Calls Tryd.prog 21 #[.int .i64 n, .int .i64 m] w fun e w' => e = .returned (.bool (may n m)) ∧ w' = w := by
  by_cases h1 : 1 ≤ n
  · by_cases h2 : m ≤ 16384
    · by_cases h3 : n ≤ 16384
      · by_cases h4 : m ≥ 2 * n - 1
        · have hv : Hid (true = may n m) := ((decide_eq_true ⟨h1, h2, h3, h4⟩ : may n m = true).symm : true = may n m)
          go_enter Tryd.func21, Tryd.ntmps21
          go_wp2
          go_ret
          exact ⟨ret_bool hv.out, rfl⟩
        · have hv : Hid (false = may n m) := ((decide_eq_false (fun h => h4 h.2.2.2) : may n m = false).symm : false = may n m)
          have h4' : decide (m ≥ 2 * n - 1) = false := decide_eq_false h4
          go_enter Tryd.func21, Tryd.ntmps21
          go_wp2
          go_ret
          exact ⟨ret_bool hv.out, rfl⟩
      · have hv : Hid (false = may n m) := ((decide_eq_false (fun h => h3 h.2.2.1) : may n m = false).symm : false = may n m)
        have h3' : decide (n ≤ 16384) = false := decide_eq_false h3
        go_enter Tryd.func21, Tryd.ntmps21
        go_wp2
        go_ret
        exact ⟨ret_bool hv.out, rfl⟩
    · have hv : Hid (false = may n m) := ((decide_eq_false (fun h => h2 h.2.1) : may n m = false).symm : false = may n m)
      have h2' : decide (m ≤ 16384) = false := decide_eq_false h2
      go_enter Tryd.func21, Tryd.ntmps21
      go_wp2
      go_ret
      exact ⟨ret_bool hv.out, rfl⟩
  · have hv : Hid (false = may n m) := ((decide_eq_false (fun h => h1 h.1) : may n m = false).symm : false = may n m)
    have h1' : decide (n ≥ 1) = false := decide_eq_false h1
    go_enter Tryd.func21, Tryd.ntmps21
    go_wp2
    go_ret
    exact ⟨ret_bool hv.out, rfl⟩
set_option maxRecDepth 100000 in
set_option maxHeartbeats 4000000 in
theorem lists_a (n m : Int) (w : World) (al : List Addr) (he : Errs w al) (hn : n < 1) :
    Calls Tryd.prog 4 #[.int .i64 n, .int .i64 m] w fun e w' => e = .returned (.bool true) ∧ Below w.heap.size w w' := by
  have h0 : Hid (Errs w al) := he
  have hnH : Hid (inn n = false) := decide_eq_false (fun h => by omega)
  have hmH : Hid (may n m = false) := decide_eq_false (fun h => by omega)
  have hmayH : Hid (∀ W, Calls Tryd.prog 21 #[.int .i64 n, .int .i64 m] W fun e w' => e = .returned (.bool false) ∧ w' = W) := fun W => by rw [← hmH.out]; exact may_c n m W
  clear he
  go_enter Tryd.func4, Tryd.ntmps4
  go_wp2_with fail
  refine (lives13_c _).mono ?_
  rintro e w1 ⟨rfl, B1⟩
  have h1 : Hid (Errs w1 al) := h0.out.below B1
  have A1 : Hid (Below w.heap.size w w1) := B1
  clear B1 h0
  go_wp2_with fail
  refine (chListNo_c n w1 al h1.out hnH.out).mono ?_
  rintro e w2 ⟨rfl, B2⟩
  have h2 : Hid (Errs w2 al) := h1.out.below B2
  have A2 : Hid (Below w.heap.size w w2) := below_tr A1.out B2
  clear B2 h1 A1
  go_wp2_with fail
  refine (numE_c (Er.mk al 6 (by decide)) _ h2.out).mono ?_
  rintro e w3 ⟨rfl, B3⟩
  have h3 : Hid (Errs w3 al) := h2.out.below B3
  have A3 : Hid (Below w.heap.size w w3) := below_tr A2.out B3
  clear B3 h2 A2
  go_wp2_with fail
  refine (otherNo_c n m w3 al h3.out hmH.out).mono ?_
  rintro e w4 ⟨rfl, B4⟩
  have h4 : Hid (Errs w4 al) := h3.out.below B4
  have A4 : Hid (Below w.heap.size w w4) := below_tr A3.out B4
  clear B4 h3 A3
  go_wp2_with fail
  refine (otherNo_c n m w4 al h4.out hmH.out).mono ?_
  rintro e w5 ⟨rfl, B5⟩
  have h5 : Hid (Errs w5 al) := h4.out.below B5
  have A5 : Hid (Below w.heap.size w w5) := below_tr A4.out B5
  clear B5 h4 A4
  go_wp2_with fail
  refine (hmayH.out w5).mono ?_
  rintro e w6 ⟨rfl, rfl⟩
  go_wp2_with fail
  refine (numE_c (Er.mk al 6 (by decide)) _ h5.out).mono ?_
  rintro e w7 ⟨rfl, B7⟩
  have h7 : Hid (Errs w7 al) := h5.out.below B7
  have A7 : Hid (Below w.heap.size w w7) := below_tr A5.out B7
  clear B7 h5 A5
  go_wp2_with fail
  refine (numE_c (Er.mk al 6 (by decide)) _ h7.out).mono ?_
  rintro e w8 ⟨rfl, B8⟩
  have A8 : Hid (Below w.heap.size w w8) := below_tr A7.out B8
  clear B8 h7 A7
  go_wp2_with fail
  go_ret
  exact ⟨rfl, A8.out⟩
set_option maxRecDepth 100000 in
set_option maxHeartbeats 4000000 in
theorem lists_b (n m : Int) (w : World) (al : List Addr) (he : Errs w al) (hn : 16384 < n) :
    Calls Tryd.prog 4 #[.int .i64 n, .int .i64 m] w fun e w' => e = .returned (.bool true) ∧ Below w.heap.size w w' := by
  have h0 : Hid (Errs w al) := he
  have hnH : Hid (inn n = false) := decide_eq_false (fun h => by omega)
  have hmH : Hid (may n m = false) := decide_eq_false (fun h => by omega)
  have hmayH : Hid (∀ W, Calls Tryd.prog 21 #[.int .i64 n, .int .i64 m] W fun e w' => e = .returned (.bool false) ∧ w' = W) := fun W => by rw [← hmH.out]; exact may_c n m W
  have hn1 : decide (n < 1) = false := decide_eq_false (by omega)
  have hn2 : n > 16384 := hn
  clear he
  go_enter Tryd.func4, Tryd.ntmps4
  go_wp2_with fail
  refine (lives13_c _).mono ?_
  rintro e w1 ⟨rfl, B1⟩
  have h1 : Hid (Errs w1 al) := h0.out.below B1
  have A1 : Hid (Below w.heap.size w w1) := B1
  clear B1 h0
  go_wp2_with fail
  refine (chListNo_c n w1 al h1.out hnH.out).mono ?_
  rintro e w2 ⟨rfl, B2⟩
  have h2 : Hid (Errs w2 al) := h1.out.below B2
  have A2 : Hid (Below w.heap.size w w2) := below_tr A1.out B2
  clear B2 h1 A1
  go_wp2_with fail
  refine (numE_c (Er.mk al 6 (by decide)) _ h2.out).mono ?_
  rintro e w3 ⟨rfl, B3⟩
  have h3 : Hid (Errs w3 al) := h2.out.below B3
  have A3 : Hid (Below w.heap.size w w3) := below_tr A2.out B3
  clear B3 h2 A2
  go_wp2_with fail
  refine (otherNo_c n m w3 al h3.out hmH.out).mono ?_
  rintro e w4 ⟨rfl, B4⟩
  have h4 : Hid (Errs w4 al) := h3.out.below B4
  have A4 : Hid (Below w.heap.size w w4) := below_tr A3.out B4
  clear B4 h3 A3
  go_wp2_with fail
  refine (otherNo_c n m w4 al h4.out hmH.out).mono ?_
  rintro e w5 ⟨rfl, B5⟩
  have h5 : Hid (Errs w5 al) := h4.out.below B5
  have A5 : Hid (Below w.heap.size w w5) := below_tr A4.out B5
  clear B5 h4 A4
  go_wp2_with fail
  refine (hmayH.out w5).mono ?_
  rintro e w6 ⟨rfl, rfl⟩
  go_wp2_with fail
  refine (numE_c (Er.mk al 6 (by decide)) _ h5.out).mono ?_
  rintro e w7 ⟨rfl, B7⟩
  have h7 : Hid (Errs w7 al) := h5.out.below B7
  have A7 : Hid (Below w.heap.size w w7) := below_tr A5.out B7
  clear B7 h5 A5
  go_wp2_with fail
  refine (numE_c (Er.mk al 6 (by decide)) _ h7.out).mono ?_
  rintro e w8 ⟨rfl, B8⟩
  have A8 : Hid (Below w.heap.size w w8) := below_tr A7.out B8
  clear B8 h7 A7
  go_wp2_with fail
  go_ret
  exact ⟨rfl, A8.out⟩
set_option maxRecDepth 100000 in
set_option maxHeartbeats 4000000 in
theorem lists_c (k : Nat) (m : Int) (w : World) (al : List Addr) (he : Errs w al) (hk0 : 0 < k) (hk : k ≤ 16384) (hm : may (k : Int) m = false) :
    Calls Tryd.prog 4 #[.int .i64 (k : Int), .int .i64 m] w fun e w' => e = .returned (.bool true) ∧ Below w.heap.size w w' := by
  have h0 : Hid (Errs w al) := he
  have hmH : Hid (may (k : Int) m = false) := hm
  have hmayH : Hid (∀ W, Calls Tryd.prog 21 #[.int .i64 (k : Int), .int .i64 m] W fun e w' => e = .returned (.bool false) ∧ w' = W) := fun W => by rw [← hmH.out]; exact may_c (k : Int) m W
  have hn1 : decide ((k : Int) < 1) = false := decide_eq_false (by omega)
  have hn2 : decide ((k : Int) > 16384) = false := decide_eq_false (by omega)
  clear he hm
  go_enter Tryd.func4, Tryd.ntmps4
  go_wp2_with fail
  refine (lives13_c _).mono ?_
  rintro e w1 ⟨rfl, B1⟩
  have h1 : Hid (Errs w1 al) := h0.out.below B1
  have A1 : Hid (Below w.heap.size w w1) := B1
  clear B1 h0
  go_wp2_with fail
  refine (chListOk_c k (2 * k) w1 hk0 hk (rfl : 2 * k = 2 * k)).mono ?_
  rintro e w2 ⟨g2, us2, rfl, hg2, R2, B2⟩
  have hR2 : Hid (Row w2 g2 g2 k (fun i : Nat => chp (2 * k) (i : Int)) k us2) := R2
  have h2 : Hid (Errs w2 al) := h1.out.below B2
  have A2 : Hid (Below w.heap.size w w2) := below_tr A1.out B2
  clear B2 h1 A1 hg2 R2
  go_wp2_with fail
  refine (r13List_c k (2 * k) w2 hk0 hk (rfl : 2 * k = 2 * k)).mono ?_
  rintro e w2b ⟨v2, vs2, rfl, G2, B2b⟩
  have hG2 : Hid (Gro w2b w2.heap.size k v2 (fun i : Nat => chp (2 * k) (i : Int)) vs2) := G2
  have hR2b : Hid (Row w2b g2 g2 k (fun i : Nat => chp (2 * k) (i : Int)) k us2) := hR2.out.keep B2b
  have h2b : Hid (Errs w2b al) := h2.out.below B2b
  have A2b : Hid (Below w.heap.size w w2b) := below_tr A2.out B2b
  clear G2 B2b h2 A2 hR2
  go_wp2_with fail
  refine (sameList13_c _ v2 us2 vs2 w2b hR2b.out.rd hG2.out.rd hR2b.out.lim hG2.out.lim ⟨hR2b.out.len.trans hG2.out.len.symm, fun i hi => (hR2b.out.up i (by rw [← hR2b.out.len]; exact hi)).trans (hG2.out.up i (by rw [← hR2b.out.len]; exact hi)).symm⟩ (by rw [hR2b.out.len]; omega)).mono ?_
  rintro e w2c ⟨rfl, d, rfl⟩
  have h3 : Hid (Errs (w2b.drewN d) al) := h2b.out.below (below_drewN (Below.refl _ _) d)
  have A3 : Hid (Below w.heap.size w (w2b.drewN d)) := below_drewN A2b.out d
  clear h2b A2b hG2 hR2b
  generalize w2b.drewN d = w3 at *
  go_wp2_with fail
  refine (otherNo_c (k : Int) m w3 al h3.out hmH.out).mono ?_
  rintro e w4 ⟨rfl, B4⟩
  have h4 : Hid (Errs w4 al) := h3.out.below B4
  have A4 : Hid (Below w.heap.size w w4) := below_tr A3.out B4
  clear B4 h3 A3
  go_wp2_with fail
  refine (otherNo_c (k : Int) m w4 al h4.out hmH.out).mono ?_
  rintro e w5 ⟨rfl, B5⟩
  have h5 : Hid (Errs w5 al) := h4.out.below B5
  have A5 : Hid (Below w.heap.size w w5) := below_tr A4.out B5
  clear B5 h4 A4
  go_wp2_with fail
  refine (hmayH.out w5).mono ?_
  rintro e w6 ⟨rfl, rfl⟩
  go_wp2_with fail
  refine (numE_c (Er.mk al 6 (by decide)) _ h5.out).mono ?_
  rintro e w7 ⟨rfl, B7⟩
  have h7 : Hid (Errs w7 al) := h5.out.below B7
  have A7 : Hid (Below w.heap.size w w7) := below_tr A5.out B7
  clear B7 h5 A5
  go_wp2_with fail
  refine (numE_c (Er.mk al 6 (by decide)) _ h7.out).mono ?_
  rintro e w8 ⟨rfl, B8⟩
  have A8 : Hid (Below w.heap.size w w8) := below_tr A7.out B8
  clear B8 h7 A7
  go_wp2_with fail
  go_ret
  exact ⟨rfl, A8.out⟩
set_option maxRecDepth 100000 in
set_option maxHeartbeats 4000000 in
theorem lists_d (k t : Nat) (w : World) (al : List Addr) (he : Errs w al) (hk0 : 0 < k) (hk : k ≤ 16384) (ht : t ≤ 16384) (hkt : 2 * k - 1 ≤ t) :
    Calls Tryd.prog 4 #[.int .i64 (k : Int), .int .i64 (t : Int)] w fun e w' => e = .returned (.bool true) ∧ Below w.heap.size w w' := by
  have h0 : Hid (Errs w al) := he
  have hktH : Hid (2 * k - 1 ≤ t) := hkt
  have hmH : Hid (may (k : Int) (t : Int) = true) := decide_eq_true (by omega)
  have hmayH : Hid (∀ W, Calls Tryd.prog 21 #[.int .i64 (k : Int), .int .i64 (t : Int)] W fun e w' => e = .returned (.bool true) ∧ w' = W) := fun W => by rw [← hmH.out]; exact may_c (k : Int) (t : Int) W
  have hn1 : decide ((k : Int) < 1) = false := decide_eq_false (by omega)
  have hn2 : decide ((k : Int) > 16384) = false := decide_eq_false (by omega)
  have ht0 : 0 < t := by omega
  obtain ⟨O, hO⟩ : ∃ O, Hid (oul (2 * k) t k = O) := ⟨_, (rfl : _ = _)⟩
  have hOl : Hid (Lim O) := by show Lim O; rw [← hO.out]; exact oul_lim (by omega) (by omega) t k
  have hp : Hid (∀ W, Calls Tryd.prog 20 #[.int .i64 (k : Int), .int .i64 (t : Int)] W fun e w' => ∃ g, e = .returned (.tuple #[.slice (some ⟨g, 0, none⟩) t t, .nilIface]) ∧ W.heap.size ≤ g ∧ Rw w' g t O ∧ Below W.heap.size W w') := fun W => by rw [← hO.out]; exact otherOk_c k t (2 * k) W hk0 hk ht hktH.out (rfl : 2 * k = 2 * k)
  have hr : Hid (∀ W, Calls Tryd.prog 22 #[.int .i64 (k : Int), .int .i64 (t : Int)] W fun e w' => ∃ g, e = .returned (.slice (some ⟨g, 0, none⟩) t t) ∧ W.heap.size ≤ g ∧ Rw w' g t O ∧ Below W.heap.size W w') := fun W => by rw [← hO.out]; exact r13Other_c k t (2 * k) W hk0 hk ht hktH.out (rfl : 2 * k = 2 * k)
  obtain ⟨i0, hi, hz0, hz1, hz2⟩ := info_cx
  clear he hkt
  go_enter Tryd.func4, Tryd.ntmps4
  go_wp2_with fail
  refine (lives13_c _).mono ?_
  rintro e w1 ⟨rfl, B1⟩
  have h1 : Hid (Errs w1 al) := h0.out.below B1
  have A1 : Hid (Below w.heap.size w w1) := B1
  clear B1 h0
  go_wp2_with fail
  refine (chListOk_c k (2 * k) w1 hk0 hk (rfl : 2 * k = 2 * k)).mono ?_
  rintro e w2 ⟨g2, us2, rfl, hg2, R2, B2⟩
  have hR2 : Hid (Row w2 g2 g2 k (fun i : Nat => chp (2 * k) (i : Int)) k us2) := R2
  have h2 : Hid (Errs w2 al) := h1.out.below B2
  have A2 : Hid (Below w.heap.size w w2) := below_tr A1.out B2
  clear B2 h1 A1 hg2 R2
  go_wp2_with fail
  refine (r13List_c k (2 * k) w2 hk0 hk (rfl : 2 * k = 2 * k)).mono ?_
  rintro e w2b ⟨v2, vs2, rfl, G2, B2b⟩
  have hG2 : Hid (Gro w2b w2.heap.size k v2 (fun i : Nat => chp (2 * k) (i : Int)) vs2) := G2
  have hR2b : Hid (Row w2b g2 g2 k (fun i : Nat => chp (2 * k) (i : Int)) k us2) := hR2.out.keep B2b
  have h2b : Hid (Errs w2b al) := h2.out.below B2b
  have A2b : Hid (Below w.heap.size w w2b) := below_tr A2.out B2b
  clear G2 B2b h2 A2 hR2
  go_wp2_with fail
  refine (sameList13_c _ v2 us2 vs2 w2b hR2b.out.rd hG2.out.rd hR2b.out.lim hG2.out.lim ⟨hR2b.out.len.trans hG2.out.len.symm, fun i hi => (hR2b.out.up i (by rw [← hR2b.out.len]; exact hi)).trans (hG2.out.up i (by rw [← hR2b.out.len]; exact hi)).symm⟩ (by rw [hR2b.out.len]; omega)).mono ?_
  rintro e w2c ⟨rfl, d, rfl⟩
  have h3 : Hid (Errs (w2b.drewN d) al) := h2b.out.below (below_drewN (Below.refl _ _) d)
  have A3 : Hid (Below w.heap.size w (w2b.drewN d)) := below_drewN A2b.out d
  clear h2b A2b hG2 hR2b
  generalize w2b.drewN d = w3 at *
  go_wp2_with fail
  refine (hp.out w3).mono ?_
  rintro e w4 ⟨G1, rfl, hg1, R1, B4⟩
  have A4 : Hid (Below w.heap.size w w4) := below_tr A3.out B4
  have O1 : Hid (Rw w4 G1 t O) := R1
  have S1 : Hid (w.heap.size ≤ G1) := Nat.le_trans A3.out.size hg1
  clear B4 A3 R1 hg1 h3
  go_wp2_with fail
  refine (hp.out w4).mono ?_
  rintro e w5 ⟨G2, rfl, hg2, R2, B5⟩
  have A5 : Hid (Below w.heap.size w w5) := below_tr A4.out B5
  have N12 : Hid (G1 ≠ G2) := by have := O1.out.lt; show G1 ≠ G2; omega
  have O1 : Hid (Rw w5 G1 t O) := O1.out.keep B5
  have O2 : Hid (Rw w5 G2 t O) := R2
  clear B5 A4 R2 hg2
  go_wp2_with fail
  refine (hmayH.out w5).mono ?_
  rintro e w6 ⟨rfl, rfl⟩
  go_wp2_with fail
  refine (hr.out w6).mono ?_
  rintro e w7 ⟨G3, rfl, hg3, R3, B7⟩
  have A7 : Hid (Below w.heap.size w w7) := below_tr A5.out B7
  have N13 : Hid (G1 ≠ G3) := by have := O1.out.lt; show G1 ≠ G3; omega
  have O1 : Hid (Rw w7 G1 t O) := O1.out.keep B7
  have O2 : Hid (Rw w7 G2 t O) := O2.out.keep B7
  have O3 : Hid (Rw w7 G3 t O) := R3
  clear B7 A5 R3 hg3
  go_wp2_with fail
  refine (sameList13_c _ _ O O w7 O1.out.rd O3.out.rd hOl.out hOl.out (Lks.refl _) (by rw [O1.out.len]; omega)).mono ?_
  rintro e w8 ⟨rfl, d8, rfl⟩
  have A8 : Hid (Below w.heap.size w (w7.drewN d8)) := below_drewN A7.out d8
  have P1 : Hid (∃ us, us.length = t ∧ (w7.drewN d8).ownsRow w.heap.size 23 1 (.slice (some ⟨G1, 0, none⟩) t t) t (cz us)) := ⟨O, O1.out.len, own_base (O1.out.drewN d8).own S1.out⟩
  have P2 : Hid (Rw (w7.drewN d8) G2 t O) := O2.out.drewN d8
  have P3 : Hid (Rw (w7.drewN d8) G3 t O) := O3.out.drewN d8
  clear O1 O2 O3 A7
  generalize w7.drewN d8 = w8 at *
  go_wp2_with fail
  go_loopw [12, 90] (fun _ si wx => ∃ i : Nat, i ≤ t ∧ si = .int .i64 (i : Int) ∧ Hid (∃ us, us.length = t ∧ wx.ownsRow w.heap.size 23 1 (.slice (some ⟨G1, 0, none⟩) t t) t (cz us)) ∧ Hid (Rw wx G2 t O) ∧ Hid (Rw wx G3 t O) ∧ Hid (Below w.heap.size w wx)) (fun _ si _ => t - (intOf si).toNat)
  case atStart => exact ⟨0, Nat.zero_le _, rfl, P1, P2, P3, A8⟩
  case round =>
    clear P1 P2 P3 A8
    obtain ⟨i, hit, rfl, hP1, hP2, hP3, hB⟩ := hrel
    by_cases hlt : i < t
    · have hlt' : (i : Int) < (t : Int) := by omega
      obtain ⟨us, hul, oD⟩ := hP1.out
      have c1 := oD.cellAt i (by omega)
      rw [cz_get us i (by rw [hul]; exact hlt)] at c1
      have cA : wr.cell? ⟨G1, i, none⟩ = some (.complex .f64 (us.getD i (0, 0)).1 (us.getD i (0, 0)).2) := by simpa using c1
      have f2 := oD.frozenAt i
      have hst := oD.stored i (.complex .f64 4621256167635550208 0)
      rw [cz_set us i (4621256167635550208, 0)] at hst
      have s1 : Hid (∃ us, us.length = t ∧ (wr.setCell ⟨G1, i, none⟩ (.complex .f64 4621256167635550208 0)).ownsRow w.heap.size 23 1 (.slice (some ⟨G1, 0, none⟩) t t) t (cz us)) := ⟨_, by rw [List.length_set]; exact hul, hst.1⟩
      have s2 : Hid (Rw (wr.setCell ⟨G1, i, none⟩ (.complex .f64 4621256167635550208 0)) G2 t O) := hP2.out.grown hst.2 (fun e => N12.out (Option.some.inj e).symm)
      have s3 : Hid (Rw (wr.setCell ⟨G1, i, none⟩ (.complex .f64 4621256167635550208 0)) G3 t O) := hP3.out.grown hst.2 (fun e => N13.out (Option.some.inj e).symm)
      have s4 : Hid (Below w.heap.size w (wr.setCell ⟨G1, i, none⟩ (.complex .f64 4621256167635550208 0))) := hB.out.grown hst.2 hB.out.size (fun k hk => by cases hk; exact (oD.lt G1 rfl).1)
      have hsc := store_cx
      clear hst oD c1 hul
      generalize (us.getD i (0, 0)).1 = px at *
      generalize (us.getD i (0, 0)).2 = py at *
      go_wp2_with fail
      go_roundw
      case rel => exact ⟨i + 1, by omega, by go_num, s1, s2, s3, s4⟩
      case measure => simp [intOf]; omega
    · have hlt' : decide ((i : Int) < (t : Int)) = false := decide_eq_false (by omega)
      have ei : i = t := by omega
      subst ei
      obtain ⟨us, hul, hO2⟩ := hP1.out
      have hsz := hB.out.size
      go_wp2_with (at_builtin; refine wpList_append_own _ rfl _ _ 38 rfl w.heap.size 23 i0 (.complex .f64 0 0) 1 16 Tryd.underlying38 hi hz0 hz1 hz2 rfl (by decide) _ _ _ rfl (hO2.alloc _) ⟨wr.heap.size, 0, none⟩ 1 1 [.complex .f64 4621819117588971520 0] rfl rfl (cell_one_new10 _ _ _) (by simp [Value.oneCell']) (by unfold maxLen; omega) (by omega) (by simp; omega) ?_)
      intro v' w9 hown' hgrow _
      have hgrow0 : (wr.alloc (.cells #[.complex .f64 4621819117588971520 0] 23)).grownBy w9 (some G1) := hgrow
      have A9 : Hid (Below w.heap.size w w9) := (hB.out.alloc hsz _).grown hgrow0 (by simp; omega) (fun k' hk' => by cases hk'; exact (hO2.lt G1 rfl).1)
      have b9 : Below wr.heap.size wr (wr.alloc (.cells #[.complex .f64 4621819117588971520 0] 23)) := (Below.refl _ _).alloc (Nat.le_refl _) _
      have s2 : Hid (Rw w9 G2 i O) := (hP2.out.keep b9).grown hgrow0 (fun e => N12.out (Option.some.inj e).symm)
      have s3 : Hid (Rw w9 G3 i O) := (hP3.out.keep b9).grown hgrow0 (fun e => N13.out (Option.some.inj e).symm)
      obtain ⟨F, C, rfl, hF⟩ : ∃ F C, v' = .slice (some ⟨F, 0, none⟩) (i + 1) C ∧ w9.cell? ⟨F, i, none⟩ = some (.complex .f64 4621819117588971520 0) := by
        rcases hown'.2 with ⟨_, h⟩ | ⟨g, c, _, h, hg, _⟩
        · exact absurd h (by omega)
        · refine ⟨g, c, h, ?_⟩
          rw [h] at hown'
          have := hown'.cellAt i (by omega)
          rw [this]
          have hl : (cz us).length = i := by rw [cz_len, hul]
          rw [List.getElem?_append_right (by omega), hl]
          simp
      have o8 : FloatKind.f64.format.order 4621819117588971520 4621819117588971520 = some .eq := by decide +kernel
      have o0 : FloatKind.f64.format.order 0 0 = some .eq := by decide +kernel
      have hFH : Hid (w9.cell? ⟨F, i, none⟩ = some (.complex .f64 4621819117588971520 0)) := hF
      obtain ⟨i1, hi1⟩ : ∃ i1, i + 1 = i1 := ⟨_, rfl⟩
      have hi1H : Hid (i + 1 = i1) := hi1
      rw [hi1]
      clear hown' hgrow hgrow0 hO2 hsz hB hP1 hP2 hP3 b9 hF hi1 hul
      go_wp2_with fail
      refine (sameList13_c _ _ O O w9 s2.out.rd s3.out.rd hOl.out hOl.out (Lks.refl _) (by rw [s2.out.len]; omega)).mono ?_
      rintro e wa ⟨rfl, da, rfl⟩
      have cF : (w9.drewN da).cell? ⟨F, i, none⟩ = some (.complex .f64 4621819117588971520 0) := hFH.out
      have e1 : (i1 : Int) - 1 = (i : Int) := by have := hi1H.out; omega
      have e2 : (i : Int) < (i1 : Int) := by have := hi1H.out; omega
      have e3 : i < i1 := by have := hi1H.out; omega
      have AA : Hid (Below w.heap.size w (w9.drewN da)) := below_drewN A9.out da
      go_wp2_with fail
      go_ret
      exact ⟨rfl, AA.out⟩
end Go.Proofs.YtgfmimmiaalhcaaDoor
namespace Go.Proofs.YtgfmimmiaalhcaaDoor.chirpLists
open Go.RowKit
theorem walk (x0 x1 : Int) (w : World) (_l0 : -9223372036854775808 ≤ x0) (_u0 : x0 ≤ 9223372036854775807) (_l1 : -9223372036854775808 ≤ x1) (_u1 : x1 ≤ 9223372036854775807) (hL : laidMetH Tryd.prog Rows.chirpListsRow.laid w) :
    Calls Tryd.prog 4 #[.int .i64 x0, .int .i64 x1] w fun e w' => e = .returned (.bool true) ∧ Below w.heap.size w w' := by
  obtain ⟨al, he⟩ := errs_of (W := w) hL
  by_cases h1 : x0 < 1
  · exact lists_a x0 x1 w al he h1
  · by_cases h2 : 16384 < x0
    · exact lists_b x0 x1 w al he h2
    · obtain ⟨k, rfl⟩ := Int.eq_ofNat_of_zero_le (show 0 ≤ x0 by omega)
      cases hm : may (k : Int) x1
      · exact lists_c k x1 w al he (by omega) (by omega) hm
      · obtain ⟨m1, m2, m3, m4⟩ := of_decide_eq_true hm
        obtain ⟨t, rfl⟩ := Int.eq_ofNat_of_zero_le (show 0 ≤ x1 by omega)
        exact lists_d k t w al he (by omega) (by omega) (by omega) (by omega)
end Go.Proofs.YtgfmimmiaalhcaaDoor.chirpLists
