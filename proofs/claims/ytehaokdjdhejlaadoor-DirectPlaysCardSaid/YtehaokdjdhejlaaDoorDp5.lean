/-
  Contracts of package direct: inside; At, where nothing is refused.
-/
import Derived.Test.YtehaokdjdhejlaaDoorDp1
namespace Go.Proofs.YtehaokdjdhejlaaDoor
open Flo Go.RowKit

/-- are n places from p on, j apart, among L -/
def ins (L : Nat) (p j : Int) (n : Nat) : Bool := decide (0 ≤ p ∧ p < L ∧ 1 ≤ j ∧ (n : Int) - 1 ≤ ((L : Int) - 1 - p).tdiv j)
theorem tdiv_bounds {a b : Int} (h : 0 ≤ a) (hb : 1 ≤ b) : 0 ≤ a.tdiv b ∧ a.tdiv b ≤ a := by
  rw [Int.tdiv_eq_ediv_of_nonneg h]
  exact ⟨Int.ediv_nonneg h (by omega), Int.ediv_le_self b h⟩
set_option maxHeartbeats 1000000 in
theorem inside_c (L n : Nat) (p j : Int) (w : World) (hL : L ≤ 140737488355328) (hn : 0 < n) (hn2 : n ≤ 1024) :
    Calls Tryd.prog 41 #[.int .i64 (L : Int), .int .i64 p, .int .i64 j, .int .i64 (n : Int)] w fun e w' => e = .returned (.bool (ins L p j n)) ∧ w = w' := by
  by_cases h1 : 0 ≤ p
  · by_cases h2 : p < L
    · by_cases h3 : 1 ≤ j
      · have hd := tdiv_bounds (a := (L : Int) - 1 - p) (b := j) (by omega) h3
        have hj0 : ¬ j = 0 := by omega
        by_cases h4 : (n : Int) - 1 ≤ ((L : Int) - 1 - p).tdiv j
        · have hv : Hid (ins L p j n = true) := (decide_eq_true ⟨h1, h2, h3, h4⟩ : ins L p j n = true)
          rw [hv.out]
          obtain ⟨q, hq⟩ : ∃ q, ((L : Int) - 1 - p).tdiv j = q := ⟨_, rfl⟩
          rw [hq] at hd h4
          go_enter Tryd.func41, Tryd.ntmps41
          go_wp2
          go_ret
          exact ⟨rfl, rfl⟩
        · have hv : Hid (ins L p j n = false) := (decide_eq_false (fun h => h4 h.2.2.2) : ins L p j n = false)
          rw [hv.out]
          obtain ⟨q, hq⟩ : ∃ q, ((L : Int) - 1 - p).tdiv j = q := ⟨_, rfl⟩
          rw [hq] at hd h4
          have h4' : decide ((n : Int) - 1 ≤ q) = false := decide_eq_false h4
          go_enter Tryd.func41, Tryd.ntmps41
          go_wp2
          go_ret
          exact ⟨rfl, rfl⟩
      · have hv : Hid (ins L p j n = false) := (decide_eq_false (fun h => h3 h.2.2.1) : ins L p j n = false)
        rw [hv.out]
        have h3' : decide (j ≥ 1) = false := decide_eq_false h3
        go_enter Tryd.func41, Tryd.ntmps41
        go_wp2
        go_ret
        exact ⟨rfl, rfl⟩
    · have hv : Hid (ins L p j n = false) := (decide_eq_false (fun h => h2 h.2.1) : ins L p j n = false)
      rw [hv.out]
      have h2' : decide (p < (L : Int)) = false := decide_eq_false h2
      go_enter Tryd.func41, Tryd.ntmps41
      go_wp2
      go_ret
      exact ⟨rfl, rfl⟩
  · have hv : Hid (ins L p j n = false) := (decide_eq_false (fun h => h1 h.1) : ins L p j n = false)
    rw [hv.out]
    have h1' : decide (p ≥ 0) = false := decide_eq_false h1
    go_enter Tryd.func41, Tryd.ntmps41
    go_wp2
    go_ret
    exact ⟨rfl, rfl⟩
theorem ins_t {L : Nat} {p j : Int} {n : Nat} (h : ins L p j n = true) (hn : 0 < n) : 0 ≤ p ∧ p < L ∧ 1 ≤ j ∧ p.toNat + (n - 1) * j.toNat < L := by
  obtain ⟨h1, h2, h3, h4⟩ := of_decide_eq_true h
  refine ⟨h1, h2, h3, ?_⟩
  rw [Int.tdiv_eq_ediv_of_nonneg (by omega)] at h4
  have h5 : ((n : Int) - 1) * j ≤ (L : Int) - 1 - p := (Int.le_ediv_iff_mul_le (by omega)).1 h4
  have h6 : (((n - 1) * j.toNat : Nat) : Int) = ((n : Int) - 1) * j := by
    rw [Int.natCast_mul, Int.toNat_of_nonneg (by omega), Int.natCast_sub hn]; rfl
  omega
theorem tmod_mdi {n : Nat} (h : 0 < n) (k : Int) : k.tmod n = if k.tmod n < 0 then (Rp.md n k : Int) - n else Rp.md n k := by
  have e := Rp.md_eq h k
  have l := Rp.md_lt h k
  have e2 := Int.tmod_eq_emod (a := k) (b := n)
  rw [Int.natAbs_natCast, ← e] at e2
  by_cases c : 0 ≤ k ∨ (n : Int) ∣ k
  · rw [if_pos c] at e2
    rw [if_neg (by omega)]; omega
  · rw [if_neg c] at e2
    rw [if_pos (by omega)]; omega
/-- what is alike comes back, beside nil -/
def RZt (w : World) (z : Nat × Nat) (er : Value) (e : Ending) (w' : World) : Prop :=
  ∃ x y, e = .returned (.tuple #[.complex .f64 x y, er]) ∧ Below w.heap.size w w' ∧ x < 18446744073709551616 ∧ y < 18446744073709551616 ∧ Lk (x, y) z
set_option maxHeartbeats 1000000 in
theorem atOk_c (v : Value) (zs : List (Nat × Nat)) (p j k : Int) (n : Nat) (w : World) (hx : RdC w v zs) (hl : Lim zs) (hlen : zs.length ≤ 140737488355328) (hi : ins zs.length p j n = true) (hn : 0 < n) (hn2 : n ≤ 1024) :
    Calls Tryd.prog 21 #[v, .int .i64 p, .int .i64 j, .int .i64 (n : Int), .int .i64 k] w (RZt w (dsm n (Rp.md n k) fun i => zs.getD (p.toNat + i * j.toNat) (0, 0)) .nilIface) := by
  obtain ⟨L, hL⟩ : ∃ L, Hid (zs.length = L) := ⟨_, (rfl : _ = _)⟩
  have hlenL : L ≤ 140737488355328 := by rw [← hL.out]; exact hlen
  obtain ⟨ao, cap, rfl⟩ := hx.slice hL.out
  rw [hL.out] at hi
  have hI := inside_c L n p j
  rw [hi] at hI
  obtain ⟨p0, p1, j1, hlast⟩ := ins_t hi hn
  obtain ⟨P, rfl⟩ : ∃ P : Nat, p = (P : Int) := ⟨p.toNat, by omega⟩
  obtain ⟨J, rfl⟩ : ∃ J : Nat, j = (J : Int) := ⟨j.toNat, by omega⟩
  rw [Int.toNat_natCast, Int.toNat_natCast] at *
  have hX : Hid (RdC w (.slice ao L cap) zs) := hx
  have hlH : Hid (Lim zs) := hl
  have hlastH : Hid (P + (n - 1) * J < zs.length) := by show _ < _; rw [hL.out]; exact hlast
  have hlenH : Hid (zs.length ≤ 140737488355328) := hlen
  have hmd : Hid (Rp.md n k < n) := Rp.md_lt hn k
  have hS : Hid (∀ W G, Below w.heap.size w W → Tab W G n → Calls Tryd.prog 42 #[.slice ao L cap, .int .i64 (P : Int), .int .i64 (J : Int), .int .i64 (Rp.md n k : Int), .slice (some ⟨G, 0, none⟩) n n] W (RZ W (dsm n (Rp.md n k) fun i => zs.getD (P + i * J) (0, 0)))) := fun W G hb hT => sum_c _ zs P J n _ G n W (hX.out.below hb) hl hlastH.out hn hmd.out (by omega) hlen hT
  have hme : Hid (k.tmod n = if k.tmod n < 0 then (Rp.md n k : Int) - n else Rp.md n k) := tmod_mdi hn k
  have hb1 : Hid (-(n : Int) < k.tmod n ∧ k.tmod n < n) := ⟨Int.lt_tmod_of_pos k (by omega), Int.tmod_lt_of_pos k (by omega)⟩
  clear hi hlast hx hl hlen
  generalize (dsm n (Rp.md n k) fun i => zs.getD (P + i * J) (0, 0)) = Z at *
  generalize Rp.md n k = m at *
  obtain ⟨r, hr⟩ : ∃ r, k.tmod n = r := ⟨_, rfl⟩
  rw [hr] at hme hb1
  by_cases hneg : r < 0
  · have em : r + (n : Int) = (m : Int) := by have := hme.out; rw [if_pos hneg] at this; omega
    go_enter Tryd.func21, Tryd.ntmps21
    go_wp2_with fail
    refine (tableOk_c n w hn hn2).mono ?_
    rintro e w1 ⟨G, rfl, hG, T, B⟩
    have hT : Hid (Tab w1 G n) := T
    have hB : Hid (Below w.heap.size w w1) := B
    clear T B
    go_wp2_with fail
    refine (hI w1 hlenL hn hn2).mono ?_
    rintro e w2 ⟨rfl, rfl⟩
    go_wp2_with fail
    refine (hS.out w1 G hB.out hT.out).mono ?_
    rintro e w3 ⟨x, y, d, rfl, rfl, lx, ly, lk⟩
    have hlk : Hid (Lk (x, y) Z) := lk
    have hBd : Hid (Below w.heap.size w (w1.drewN d)) := below_drewN hB.out d
    clear lk
    go_wp2_with fail
    go_ret2
    exact ⟨x, y, rfl, hBd.out, lx, ly, hlk.out⟩
  · have em : r = (m : Int) := by have := hme.out; rw [if_neg hneg] at this; exact this
    rw [em] at hr hneg hb1
    have hneg' : decide ((m : Int) < 0) = false := decide_eq_false hneg
    clear em
    go_enter Tryd.func21, Tryd.ntmps21
    go_wp2_with fail
    refine (tableOk_c n w hn hn2).mono ?_
    rintro e w1 ⟨G, rfl, hG, T, B⟩
    have hT : Hid (Tab w1 G n) := T
    have hB : Hid (Below w.heap.size w w1) := B
    clear T B
    go_wp2_with fail
    refine (hI w1 hlenL hn hn2).mono ?_
    rintro e w2 ⟨rfl, rfl⟩
    go_wp2_with fail
    refine (hS.out w1 G hB.out hT.out).mono ?_
    rintro e w3 ⟨x, y, d, rfl, rfl, lx, ly, lk⟩
    have hlk : Hid (Lk (x, y) Z) := lk
    have hBd : Hid (Below w.heap.size w (w1.drewN d)) := below_drewN hB.out d
    clear lk
    go_wp2_with fail
    go_ret2
    exact ⟨x, y, rfl, hBd.out, lx, ly, hlk.out⟩
end Go.Proofs.YtehaokdjdhejlaaDoor
