/-
  What a decimal is read as: the size, or that it is too great. Plain.
-/
import Derived.Test.YtmfnjmgdindlaaaDoorQf
import Derived.KernelRfl
import Derived.Test.YtmfnjmgdindlaaaDoorQg
import Derived.Test.YtmfnjmgdindlaaaDoorQh
import Derived.Test.YtmfnjmgdindlaaaDoorQc
namespace Go.Proofs.YtmfnjmgdindlaaaDoor.Rd
/-- the size of the infinity -/
def inf : Nat := 9218868437227405312
theorem c1 : 2 ^ 1 * U ≤ 10 ^ 324 := by
  rw [← U_add]
  exact Nat.le_of_ble_eq_true (by kernel_rfl)
theorem c2 : 10 ^ 324 ≤ 2 ^ 1077 := Nat.le_of_ble_eq_true (by kernel_rfl)
theorem c3 : 10 ^ 309 ≤ 2 ^ 1027 := Nat.le_of_ble_eq_true (by kernel_rfl)
theorem c4 : 2 ^ 1024 ≤ 10 ^ 309 := Nat.le_of_ble_eq_true (by kernel_rfl)
theorem M_zero : M 0 = 1 := by unfold M V; simp
theorem pw (a b x : Nat) (h : a + b = x + 1074) : 2 ^ a * 2 ^ b = 2 ^ x * U := by rw [← Nat.pow_add, h, U_add]
theorem V_inf (x : Nat) (hx : x = 1024) : V inf = 2 ^ x * U := by
  have h := V_of 2046 (2 ^ 52) (by decide) (.inr (Nat.le_refl _))
  have e : 2046 * 2 ^ 52 + 2 ^ 52 = inf := by decide
  rw [e] at h
  exact h.trans (pw 52 2046 x (by omega))
theorem c4' (x y : Nat) (hx : x = 1024) (hy : y = 309) : 2 ^ x ≤ 10 ^ y := by subst hx; subst hy; exact c4
/-- the number is at the border to the infinity, or beyond -/
def Big (n d : Nat) : Prop := M (inf - 1) * d ≤ n * (2 * U)
theorem near_big {n d t : Nat} (h : Near n d t) (ht : inf ≤ t) : Big n d := by
  unfold Big
  have h0 : t ≠ 0 := by unfold inf at ht; omega
  have h1 : M (inf - 1) ≤ M (t - 1) := M_mono (by omega)
  have h2 := Nat.mul_le_mul_right d h1
  rcases h.1 with h3 | h3 | h3
  · exact absurd h3 h0
  · omega
  · omega
theorem near_small {n d t : Nat} (h : Near n d t) (ht : t < inf) (hd : 0 < d) : ¬ Big n d := by
  unfold Big
  intro hb
  have h1 : M t ≤ M (inf - 1) := M_mono (by omega)
  have h2 := Nat.mul_le_mul_right d h1
  rcases h.2 with h3 | ⟨h3, h4⟩
  · omega
  · have h5 : M (inf - 1) ≤ M t := Nat.le_of_mul_le_mul_right (show M (inf - 1) * d ≤ M t * d by omega) hd
    have h6 : t = inf - 1 := by
      rcases Nat.lt_or_ge t (inf - 1) with h7 | h7
      · have := M_smono h7; omega
      · omega
    rw [h6] at h4
    revert h4; decide
/-- numerator and denominator of D x 10^p -/
def num (D : Nat) (p : Int) : Nat := D * 10 ^ p.toNat
def den (p : Int) : Nat := 10 ^ (-p).toNat
theorem den_pos (p : Int) : 0 < den p := Nat.pow_pos (by decide)
/-- D x 10^p is read as s; where s isn't below the infinity it is too great -/
def Sp (D : Nat) (p : Int) (s : Nat) : Prop :=
  (D = 0 ∧ s = 0) ∨ (0 < D ∧ ((s < inf ∧ Near (num D p) (den p) s) ∨ (inf ≤ s ∧ Big (num D p) (den p))))
theorem big_mono {n d n' d' : Nat} (h : Big n d) (hd : 0 < d) (hle : n * d' ≤ n' * d) : Big n' d' := by
  unfold Big at *
  have h1 := Nat.mul_le_mul_right d' h
  have h2 := Nat.mul_le_mul_right (2 * U) hle
  apply Nat.le_of_mul_le_mul_right _ hd
  have e1 : n * (2 * U) * d' = n * d' * (2 * U) := ac3 _ _ _
  have e2 : n' * (2 * U) * d = n' * d * (2 * U) := ac3 _ _ _
  have e3 : M (inf - 1) * d' * d = M (inf - 1) * d * d' := ac3 _ _ _
  omega
theorem Sp.mono {D D' s s' : Nat} {p p' : Int} (h : Sp D p s) (h' : Sp D' p' s') (hle : num D p * den p' ≤ num D' p' * den p) (hs : s' < inf) : s < inf ∧ s ≤ s' := by
  rcases h with ⟨_, rfl⟩ | ⟨h0, h⟩
  · exact ⟨by decide, Nat.zero_le _⟩
  · have hn : 0 < num D p := Nat.mul_pos h0 (Nat.pow_pos (by decide))
    have hp : 0 < num D p * den p' := Nat.mul_pos hn (den_pos p')
    have hD' : 0 < D' := by
      apply Nat.pos_of_ne_zero
      intro e
      rw [e] at hle
      have : num 0 p' = 0 := Nat.zero_mul _
      rw [this, Nat.zero_mul] at hle
      omega
    rcases h' with ⟨e, _⟩ | ⟨_, h'⟩
    · omega
    · rcases h' with ⟨_, h'⟩ | ⟨e, _⟩
      · rcases h with ⟨h1, h2⟩ | ⟨h1, h2⟩
        · exact ⟨h1, h2.mono h' (den_pos p) (den_pos p') hle⟩
        · exact absurd (big_mono h2 (den_pos p) hle) (near_small h' hs (den_pos p'))
      · omega
theorem Sp.uniq {D s s' : Nat} {p : Int} (h : Sp D p s) (h' : Sp D p s') : (s < inf ∧ s = s') ∨ (inf ≤ s ∧ inf ≤ s') := by
  by_cases h1 : s' < inf
  · obtain ⟨h2, h3⟩ := h.mono h' (Nat.le_refl _) h1
    obtain ⟨_, h4⟩ := h'.mono h (Nat.le_refl _) h2
    exact .inl ⟨h2, by omega⟩
  · by_cases h2 : s < inf
    · obtain ⟨h3, _⟩ := h'.mono h (Nat.le_refl _) h2
      exact absurd h3 h1
    · exact .inr ⟨by omega, by omega⟩
theorem sp_zero (p : Int) : Sp 0 p 0 := .inl ⟨rfl, rfl⟩
theorem sp_near {D s : Nat} {p : Int} (h0 : 0 < D) (h : Near (num D p) (den p) s) : Sp D p s := by
  right
  refine ⟨h0, ?_⟩
  by_cases hs : s < inf
  · exact .inl ⟨hs, h⟩
  · exact .inr ⟨by omega, near_big h (by omega)⟩
theorem sp_tiny {D L : Nat} {p : Int} (h0 : 0 < D) (h : D < 10 ^ L) (hp : (L : Int) + p ≤ -324) : Sp D p 0 := by
  refine sp_near h0 ⟨.inl rfl, .inl ?_⟩
  rw [M_zero, Nat.one_mul]
  unfold num den
  rw [show p.toNat = 0 by omega, Nat.pow_zero, Nat.mul_one]
  obtain ⟨r, hr⟩ : ∃ r, (-p).toNat = L + 324 + r := ⟨(-p).toNat - (L + 324), by omega⟩
  rw [hr, Nat.pow_add, Nat.pow_add]
  have h1 := c1
  rw [Nat.pow_one] at h1
  have hp0 : 0 < 10 ^ r := Nat.pow_pos (by decide)
  calc D * (2 * U) < 10 ^ L * (2 * U) := Nat.mul_lt_mul_of_pos_right h (by have := U_pos; omega)
    _ ≤ 10 ^ L * 10 ^ 324 := Nat.mul_le_mul_left _ h1
    _ ≤ 10 ^ L * 10 ^ 324 * 10 ^ r := Nat.le_mul_of_pos_right _ hp0
theorem val_ge {D L c : Nat} {p : Int} (h : 10 ^ L ≤ D) (hp : (c : Int) ≤ (L : Int) + p) : den p * 10 ^ c ≤ num D p := by
  unfold num den
  rw [← Nat.pow_add]
  refine Nat.le_trans ?_ (Nat.mul_le_mul_right _ h)
  rw [← Nat.pow_add]
  exact Nat.pow_le_pow_right (by decide) (by omega)
theorem val_lt {D L c : Nat} {p : Int} (h : D < 10 ^ L) (hp : (L : Int) + p ≤ (c : Int)) : num D p ≤ den p * 10 ^ c := by
  unfold num den
  rw [← Nat.pow_add]
  refine Nat.le_trans (Nat.mul_le_mul_right _ (Nat.le_of_lt h)) ?_
  rw [← Nat.pow_add]
  exact Nat.pow_le_pow_right (by decide) (by omega)
theorem val_ge' {D L c : Nat} {p : Int} (h : 10 ^ L ≤ D) (hp : -(c : Int) ≤ (L : Int) + p) : den p ≤ num D p * 10 ^ c := by
  unfold num den
  refine Nat.le_trans ?_ (Nat.mul_le_mul_right _ (Nat.mul_le_mul_right _ h))
  rw [← Nat.pow_add, ← Nat.pow_add]
  exact Nat.pow_le_pow_right (by decide) (by omega)
theorem sp_big {D L s : Nat} {p : Int} (h : 10 ^ L ≤ D) (hp : 309 ≤ (L : Int) + p) (hs : inf ≤ s) : Sp D p s := by
  have h0 : 0 < D := Nat.lt_of_lt_of_le (Nat.pow_pos (by decide)) h
  refine .inr ⟨h0, .inr ⟨hs, ?_⟩⟩
  obtain ⟨y, hy⟩ : ∃ y, y = 309 := ⟨_, rfl⟩
  have h1 := val_ge (c := y) (p := p) h (by omega)
  unfold Big
  obtain ⟨x, hx⟩ : ∃ x, x = 1024 := ⟨_, rfl⟩
  have h2 : M (inf - 1) ≤ 2 * (2 ^ x * U) := by
    unfold M
    rw [show inf - 1 + 1 = inf by decide, V_inf x hx]
    have := V_mono (show inf - 1 ≤ inf by omega)
    rw [V_inf x hx] at this
    omega
  have h3 : 2 ^ x * U ≤ 10 ^ y * U := Nat.mul_le_mul_right _ (c4' x y hx hy)
  have h4 : M (inf - 1) ≤ 10 ^ y * (2 * U) := by
    have e : 10 ^ y * (2 * U) = 2 * (10 ^ y * U) := by generalize 10 ^ y = t; generalize U = u; ac_rfl
    rw [e]
    generalize 10 ^ y * U = x at h3 ⊢
    generalize 2 ^ x * U = y at h2 h3
    omega
  refine Nat.le_trans (Nat.mul_le_mul_right (den p) h4) ?_
  have e2 : 10 ^ y * (2 * U) * den p = den p * 10 ^ y * (2 * U) := by generalize 10 ^ y = t; generalize U = u; ac_rfl
  rw [e2]
  exact Nat.mul_le_mul_right _ h1
end Go.Proofs.YtmfnjmgdindlaaaDoor.Rd
/-
  A decimal's size.
-/
namespace Go.Proofs.YtmfnjmgdindlaaaDoor
open Flo Go.RowKit
theorem bitLen_mono {d n k : Nat} (h : d ≤ n * 2 ^ k) : bitLen d ≤ bitLen n + k := by
  by_cases h0 : n = 0
  · subst h0
    rw [Nat.zero_mul] at h
    rw [Nat.le_zero.1 h]; simp [bitLen]
  · apply bitLen_lt
    have h1 := bitLen_hi n
    rw [Nat.pow_add]
    exact Nat.lt_of_le_of_lt h (Nat.mul_lt_mul_of_pos_right h1 (Nat.pow_pos (by decide)))
set_option maxRecDepth 100000 in
set_option maxHeartbeats 400000 in
theorem size_e (mi : Bool) (s : ByteArray) (p : Int) (w : World) (hs : s.size ≤ 1000) (hp1 : -20000 ≤ p) (hp2 : p ≤ 20000) (h0 : s.toList.isEmpty = true) :
    Calls Tryd.prog 20 #[.agg #[.bool mi, .string s, .int .i64 p]] w fun e w' => e = .returned (.int .u64 0) ∧ Below w.heap.size w w' := by
  go_enter Tryd.func20, Tryd.ntmps20
  go_wp2
  go_ret
  exact ⟨rfl, (Below.refl _ _).alloc (Nat.le_refl _) _⟩
set_option maxRecDepth 100000 in
set_option maxHeartbeats 400000 in
theorem size_0 (mi : Bool) (s : ByteArray) (p : Int) (w : World) (hs : s.size ≤ 1000) (hp1 : -20000 ≤ p) (hp2 : p ≤ 20000) (h0 : s.toList.isEmpty = false) (h : (s.size : Int) + p ≤ -324) :
    Calls Tryd.prog 20 #[.agg #[.bool mi, .string s, .int .i64 p]] w fun e w' => e = .returned (.int .u64 0) ∧ Below w.heap.size w w' := by
  go_enter Tryd.func20, Tryd.ntmps20
  go_wp2
  go_ret
  exact ⟨rfl, (Below.refl _ _).alloc (Nat.le_refl _) _⟩
set_option maxRecDepth 100000 in
set_option maxHeartbeats 400000 in
theorem size_1 (mi : Bool) (s : ByteArray) (p : Int) (w : World) (hs : s.size ≤ 1000) (hp1 : -20000 ≤ p) (hp2 : p ≤ 20000) (h0 : s.toList.isEmpty = false) (h : 309 < (s.size : Int) + p) (h' : ¬ ((s.size : Int) + p ≤ -324)) :
    Calls Tryd.prog 20 #[.agg #[.bool mi, .string s, .int .i64 p]] w fun e w' => e = .returned (.int .u64 9218868437227405312) ∧ Below w.heap.size w w' := by
  go_enter Tryd.func20, Tryd.ntmps20
  go_wp2
  go_ret
  exact ⟨rfl, (Below.refl _ _).alloc (Nat.le_refl _) _⟩
/-- a decimal's places, its numbers -/
structure Dec (s : ByteArray) (p : Int) : Prop where
  dig : ∀ b ∈ s.data.toList, Dg.isD b = true
  lead : 10 ^ (s.size - 1) ≤ Dg.dv s.data.toList
  lo : -324 < (s.size : Int) + p
  hi : (s.size : Int) + p ≤ 309
theorem Dec.lt {s : ByteArray} {p : Int} (h : Dec s p) : Dg.dv s.data.toList < 10 ^ s.size := Dg.dv_lt _ h.dig
theorem Dec.bit1 {s : ByteArray} {p : Int} (h : Dec s p) (hs : 0 < s.size) : bitLen (Rd.den p) ≤ bitLen (Rd.num (Dg.dv s.data.toList) p) + 1082 := by
  obtain ⟨x, hx⟩ : ∃ x, x = 324 := ⟨_, rfl⟩
  have h1 := Rd.val_ge' (c := x) (p := p) h.lead (by have := h.lo; omega)
  have h2 : bitLen (Rd.den p) ≤ bitLen (Rd.num (Dg.dv s.data.toList) p) + 1077 := by
    apply bitLen_mono
    refine Nat.le_trans h1 (Nat.mul_le_mul_left _ ?_)
    rw [hx]; exact Rd.c2
  omega
theorem Dec.bit2 {s : ByteArray} {p : Int} (h : Dec s p) : bitLen (Rd.num (Dg.dv s.data.toList) p) ≤ bitLen (Rd.den p) + 1255 := by
  obtain ⟨x, hx⟩ : ∃ x, x = 309 := ⟨_, rfl⟩
  have h1 := Rd.val_lt (c := x) (p := p) h.lt (by have := h.hi; omega)
  have h2 : bitLen (Rd.num (Dg.dv s.data.toList) p) ≤ bitLen (Rd.den p) + 1027 := by
    apply bitLen_mono
    refine Nat.le_trans h1 (Nat.mul_le_mul_left _ ?_)
    rw [hx]; exact Rd.c3
  omega
theorem Dec.pos {s : ByteArray} {p : Int} (h : Dec s p) : 0 < Dg.dv s.data.toList := Nat.lt_of_lt_of_le (Nat.pow_pos (by decide)) h.lead
set_option maxRecDepth 100000 in
set_option maxHeartbeats 400000 in
theorem size_p (mi : Bool) (s : ByteArray) (p : Nat) (w : World) (hs : s.size ≤ 1000) (hs0 : Hid (0 < s.size)) (hp2 : p ≤ 20000) (h0 : s.toList.isEmpty = false) (hD : Hid (Dec s (p : Int))) :
    Calls Tryd.prog 20 #[.agg #[.bool mi, .string s, .int .i64 (p : Int)]] w fun e w' => ∃ r : Nat, e = .returned (.int .u64 (r : Int)) ∧ Rd.Sp (Dg.dv s.data.toList) (p : Int) r ∧ Below w.heap.size w w' := by
  have h1 := hD.out.lo
  have h2 := hD.out.hi
  have h1' : ¬ ((s.size : Int) + (p : Int) ≤ -324) := by omega
  have h2' : ¬ (309 < (s.size : Int) + (p : Int)) := by omega
  have hpl : Hid (p ≤ 2000) := (by omega : p ≤ 2000)

  have hnn : Hid (Wd.nw W64 (Dg.dv s.data.toList * 10 ^ p) ≤ 2000) := by
    refine pow10_nw (k := s.size + p) (K := 2000) ?_ (by omega)
    rw [Nat.pow_add]
    exact Nat.mul_lt_mul_of_lt_of_le hD.out.lt (Nat.pow_le_pow_right (by decide) (by omega)) (Nat.pow_pos (by decide))
  have hdd : Hid (Wd.nw W64 (1 * 10 ^ 0) ≤ 2000) := by
    refine pow10_nw (k := p + 1) (K := 2000) ?_ (by have := hpl.out; omega)
    rw [Nat.one_mul]
    exact Nat.pow_lt_pow_right (by decide) (by omega)
  have hnum : Hid (Rd.num (Dg.dv s.data.toList) (p : Int) = Dg.dv s.data.toList * 10 ^ p) := by show _ = _; unfold Rd.num; congr 2 <;> omega
  have hden : Hid (Rd.den (p : Int) = 1 * 10 ^ 0) := by show _ = _; unfold Rd.den; rw [Nat.one_mul]; congr 1; omega
  clear h1 h2
  go_enter Tryd.func20, Tryd.ntmps20
  go_wp2_with fail
  generalize hw0 : w.alloc (.cells #[.bool mi, .string s, .int .i64 (p : Int)] 42) = w0
  have hc2 : Hid (w0.cell? ⟨w.heap.size, 2, none⟩ = some (.int .i64 (p : Int))) := by show _ = _; rw [← hw0]; simp
  have hsz0 : Hid (w.heap.size + 1 = w0.heap.size) := by show _ = _; rw [← hw0]; simp
  have hbl0 : Hid (Below w.heap.size w w0) := by rw [← hw0]; exact (Below.refl _ _).alloc (Nat.le_refl _) _
  clear hw0
  refine (naturalOfDigits_c s w0 hs hD.out.dig).mono ?_
  rintro e w1 ⟨u1, rfl, hu1, hb1⟩
  go_wp2_with fail
  refine (naturalOf_c 1 w1 (by decide)).mono ?_
  rintro e w2 ⟨d2, rfl, hd2, hb2⟩
  have hu2 : Hid (Nl w2 w0.heap.size u1 (Dg.dv s.data.toList)) := Row.under hu1 hb2
  have hdH : Hid (Nl w2 w1.heap.size d2 1) := hd2
  have hap : Hid (Apt u1 d2) := apt_of (fun b h => (Row.lt hu1 b h).2) (fun b h => (Row.lt hd2 b h).1)
  have hbw2 : Hid (Below w0.heap.size w0 w2) := hb1.trans (hb2.mono hb1.size)
  have hs1 : Hid (w1.heap.size ≤ w2.heap.size) := hb2.size
  have hs0w : Hid (w0.heap.size ≤ w1.heap.size) := hb1.size
  have hcp : w2.cell? ⟨w.heap.size, 2, none⟩ = some (.int .i64 (p : Int)) := (hbw2.out.cell (p := ⟨w.heap.size, 2, none⟩) (by have := hsz0.out; show w.heap.size < _; omega)).trans hc2.out
  clear hu1 hd2 hb1 hb2 hc2
  go_wp2_with fail
  refine (timesTens_c w0.heap.size (Dg.dv s.data.toList) p u1 w2 (Nat.le_trans hs0w.out hs1.out) hu2.out (by omega) (Nat.le_trans hnn.out (by decide))).mono ?_
  rintro e w3 ⟨u3, rfl, hu3, hb3, hi3⟩
  have hd3 : Hid (Nl w3 w1.heap.size d2 (1 * 10 ^ 0)) := Row.other hdH.out hi3 hap.out.symm
  have hu3H : Hid (Nl w3 w0.heap.size u3 (Dg.dv s.data.toList * 10 ^ p)) := hu3
  have hbw3 : Hid (Below w0.heap.size w0 w3) := hbw2.out.trans hb3
  clear hu3 hb3 hi3 hu2 hdH hap hbw2 hcp
  go_wp2_with fail
  refine (nearestSize_c w0.heap.size w1.heap.size (Dg.dv s.data.toList * 10 ^ p) (1 * 10 ^ 0) u3 d2 w3 hu3H.out hd3.out (Nat.mul_pos hD.out.pos (Nat.pow_pos (by decide))) (Nat.mul_pos (by decide) (Nat.pow_pos (by decide))) hnn.out hdd.out (by rw [← hnum.out, ← hden.out]; exact hD.out.bit1 hs0.out) (by rw [← hnum.out, ← hden.out]; exact hD.out.bit2)).mono ?_
  rintro e w4 ⟨r, rfl, hr, hb4⟩
  have hNr : Hid (Rd.Sp (Dg.dv s.data.toList) (p : Int) r) := Rd.sp_near hD.out.pos (by rw [hnum.out, hden.out]; exact hr)
  have hb : Hid (Below w.heap.size w w4) := hbl0.out.trans ((hbw3.out.trans (hb4.mono hbw3.out.size)).mono (by have := hsz0.out; omega))
  clear hr hb4
  go_wp2
  go_ret
  exact ⟨_, rfl, hNr.out, hb.out⟩
set_option maxRecDepth 100000 in
set_option maxHeartbeats 400000 in
theorem size_m (mi : Bool) (s : ByteArray) (p : Nat) (w : World) (hs : s.size ≤ 1000) (hs0 : Hid (0 < s.size)) (hp2 : p ≤ 20000) (hp0 : 0 < p) (h0 : s.toList.isEmpty = false) (hD : Hid (Dec s (-(p : Int)))) :
    Calls Tryd.prog 20 #[.agg #[.bool mi, .string s, .int .i64 (-(p : Int))]] w fun e w' => ∃ r : Nat, e = .returned (.int .u64 (r : Int)) ∧ Rd.Sp (Dg.dv s.data.toList) (-(p : Int)) r ∧ Below w.heap.size w w' := by
  have h1 := hD.out.lo
  have h2 := hD.out.hi
  have h1' : ¬ ((s.size : Int) + (-(p : Int)) ≤ -324) := by omega
  have h2' : ¬ (309 < (s.size : Int) + (-(p : Int))) := by omega
  have hpl : Hid (p ≤ 2000) := (by omega : p ≤ 2000)
  have hng : ¬ (0 ≤ -(p : Int)) := by omega
  have hnn : Hid (Wd.nw W64 (Dg.dv s.data.toList * 10 ^ 0) ≤ 2000) := by
    refine pow10_nw (k := s.size + p) (K := 2000) ?_ (by omega)
    rw [Nat.pow_add]
    exact Nat.mul_lt_mul_of_lt_of_le hD.out.lt (Nat.pow_le_pow_right (by decide) (by omega)) (Nat.pow_pos (by decide))
  have hdd : Hid (Wd.nw W64 (1 * 10 ^ p) ≤ 2000) := by
    refine pow10_nw (k := p + 1) (K := 2000) ?_ (by have := hpl.out; omega)
    rw [Nat.one_mul]
    exact Nat.pow_lt_pow_right (by decide) (by omega)
  have hnum : Hid (Rd.num (Dg.dv s.data.toList) (-(p : Int)) = Dg.dv s.data.toList * 10 ^ 0) := by show _ = _; unfold Rd.num; congr 2 <;> omega
  have hden : Hid (Rd.den (-(p : Int)) = 1 * 10 ^ p) := by show _ = _; unfold Rd.den; rw [Nat.one_mul]; congr 1; omega
  clear h1 h2
  go_enter Tryd.func20, Tryd.ntmps20
  go_wp2_with fail
  generalize hw0 : w.alloc (.cells #[.bool mi, .string s, .int .i64 (-(p : Int))] 42) = w0
  have hc2 : Hid (w0.cell? ⟨w.heap.size, 2, none⟩ = some (.int .i64 (-(p : Int)))) := by show _ = _; rw [← hw0]; simp
  have hsz0 : Hid (w.heap.size + 1 = w0.heap.size) := by show _ = _; rw [← hw0]; simp
  have hbl0 : Hid (Below w.heap.size w w0) := by rw [← hw0]; exact (Below.refl _ _).alloc (Nat.le_refl _) _
  clear hw0
  refine (naturalOfDigits_c s w0 hs hD.out.dig).mono ?_
  rintro e w1 ⟨u1, rfl, hu1, hb1⟩
  go_wp2_with fail
  refine (naturalOf_c 1 w1 (by decide)).mono ?_
  rintro e w2 ⟨d2, rfl, hd2, hb2⟩
  have hu2 : Hid (Nl w2 w0.heap.size u1 (Dg.dv s.data.toList)) := Row.under hu1 hb2
  have hdH : Hid (Nl w2 w1.heap.size d2 1) := hd2
  have hap : Hid (Apt u1 d2) := apt_of (fun b h => (Row.lt hu1 b h).2) (fun b h => (Row.lt hd2 b h).1)
  have hbw2 : Hid (Below w0.heap.size w0 w2) := hb1.trans (hb2.mono hb1.size)
  have hs1 : Hid (w1.heap.size ≤ w2.heap.size) := hb2.size
  have hs0w : Hid (w0.heap.size ≤ w1.heap.size) := hb1.size
  have hcp : w2.cell? ⟨w.heap.size, 2, none⟩ = some (.int .i64 (-(p : Int))) := (hbw2.out.cell (p := ⟨w.heap.size, 2, none⟩) (by have := hsz0.out; show w.heap.size < _; omega)).trans hc2.out
  clear hu1 hd2 hb1 hb2 hc2
  go_wp2_with fail
  refine (timesTens_c w1.heap.size 1 p d2 w2 hs1.out hdH.out (by omega) (Nat.le_trans hdd.out (by decide))).mono ?_
  rintro e w3 ⟨d3, rfl, hd3, hb3, hi3⟩
  have hu3 : Hid (Nl w3 w0.heap.size u1 (Dg.dv s.data.toList * 10 ^ 0)) := by rw [Nat.pow_zero, Nat.mul_one]; exact Row.other hu2.out hi3 hap.out
  have hd3H : Hid (Nl w3 w1.heap.size d3 (1 * 10 ^ p)) := hd3
  have hbw3 : Hid (Below w0.heap.size w0 w3) := hbw2.out.trans (hb3.mono hs0w.out)
  clear hd3 hb3 hi3 hu2 hdH hap hbw2 hcp
  go_wp2_with fail
  refine (nearestSize_c w0.heap.size w1.heap.size (Dg.dv s.data.toList * 10 ^ 0) (1 * 10 ^ p) u1 d3 w3 hu3.out hd3H.out (Nat.mul_pos hD.out.pos (Nat.pow_pos (by decide))) (Nat.mul_pos (by decide) (Nat.pow_pos (by decide))) hnn.out hdd.out (by rw [← hnum.out, ← hden.out]; exact hD.out.bit1 hs0.out) (by rw [← hnum.out, ← hden.out]; exact hD.out.bit2)).mono ?_
  rintro e w4 ⟨r, rfl, hr, hb4⟩
  have hNr : Hid (Rd.Sp (Dg.dv s.data.toList) (-(p : Int)) r) := Rd.sp_near hD.out.pos (by rw [hnum.out, hden.out]; exact hr)
  have hb : Hid (Below w.heap.size w w4) := hbl0.out.trans ((hbw3.out.trans (hb4.mono hbw3.out.size)).mono (by have := hsz0.out; omega))
  clear hr hb4
  go_wp2
  go_ret
  exact ⟨_, rfl, hNr.out, hb.out⟩
theorem size_c (mi : Bool) (s : ByteArray) (p : Int) (w : World) (hs : s.size ≤ 1000) (hp1 : -20000 ≤ p) (hp2 : p ≤ 20000) (hd : ∀ b ∈ s.data.toList, Dg.isD b = true) (hl : s.size = 0 ∨ 10 ^ (s.size - 1) ≤ Dg.dv s.data.toList) :
    Calls Tryd.prog 20 #[.agg #[.bool mi, .string s, .int .i64 p]] w fun e w' => ∃ r : Nat, e = .returned (.int .u64 (r : Int)) ∧ Rd.Sp (Dg.dv s.data.toList) p r ∧ Below w.heap.size w w' := by
  have hsl : s.data.toList.length = s.size := rfl
  by_cases h0 : s.size = 0
  · have e0 : s.data.toList = [] := List.eq_nil_of_length_eq_zero (by omega)
    have hE : s.toList.isEmpty = true := by rw [ByteArray.toList_eq, e0]; rfl
    refine (size_e mi s p w hs hp1 hp2 hE).mono ?_
    rintro e w' ⟨rfl, hb⟩
    exact ⟨0, rfl, by rw [e0]; exact Rd.sp_zero p, hb⟩
  · have hE : s.toList.isEmpty = false := by
      rw [ByteArray.toList_eq]
      cases hh : s.data.toList with
      | nil => rw [hh] at hsl; simp at hsl; omega
      | cons a l => rfl
    have hl' : 10 ^ (s.size - 1) ≤ Dg.dv s.data.toList := by
      rcases hl with h | h
      · omega
      · exact h
    have hpos : 0 < Dg.dv s.data.toList := Nat.lt_of_lt_of_le (Nat.pow_pos (by decide)) hl'
    have hlt : Dg.dv s.data.toList < 10 ^ s.size := Dg.dv_lt _ hd
    by_cases h1 : (s.size : Int) + p ≤ -324
    · refine (size_0 mi s p w hs hp1 hp2 hE h1).mono ?_
      rintro e w' ⟨rfl, hb⟩
      exact ⟨0, rfl, Rd.sp_tiny hpos hlt h1, hb⟩
    · by_cases h2 : 309 < (s.size : Int) + p
      · refine (size_1 mi s p w hs hp1 hp2 hE h2 h1).mono ?_
        rintro e w' ⟨rfl, hb⟩
        exact ⟨Rd.inf, rfl, Rd.sp_big hl' (by omega) (Nat.le_refl _), hb⟩
      · have hD : Dec s p := ⟨hd, hl', by omega, by omega⟩
        by_cases h3 : 0 ≤ p
        · obtain ⟨q, rfl⟩ := Int.eq_ofNat_of_zero_le h3
          exact size_p mi s q w hs (by show 0 < s.size; omega) (by omega) hE hD
        · obtain ⟨q, hq⟩ := Int.eq_ofNat_of_zero_le (show 0 ≤ -p by omega)
          have : p = -(q : Int) := by omega
          subst this
          exact size_m mi s q w hs (by show 0 < s.size; omega) (by omega) (by omega) hE hD
end Go.Proofs.YtmfnjmgdindlaaaDoor
/-
  ParsePlain.
-/
namespace Go.Proofs.YtmfnjmgdindlaaaDoor
open Flo Go.RowKit
theorem fra_ok {l : List UInt8} : (∀ b ∈ (fra l).1, Dg.isD b = true) ∧ (fra l).1.length ≤ l.length ∧ (fra l).2.1.length ≤ l.length := by
  have hc := cut1_len 46 l
  have hr := Dg.rl_le (cut1 46 l).1
  unfold fra
  split
  · refine ⟨Dg.rl_all _, by simp; omega, by simp; omega⟩
  · exact ⟨by simp, by simp, Nat.le_refl _⟩
theorem xpo_ok {l : List UInt8} : -9999 ≤ (xpo l).1 ∧ (xpo l).1 ≤ 9999 := by
  unfold xpo
  split
  · exact cx_le _
  · exact ⟨by show (-9999 : Int) ≤ 0; omega, by show (0 : Int) ≤ 9999; omega⟩
theorem prs_ok {l : List UInt8} {mi : Bool} {ds : List UInt8} {p : Int} (h : prs l = some (mi, ds, p)) : (∀ b ∈ ds, Dg.isD b = true) ∧ ds.length ≤ 800 ∧ -20000 ≤ p ∧ p ≤ 20000 := by
  unfold prs at h
  by_cases h1 : 400 < l.length
  · rw [if_pos h1] at h; cases h
  · rw [if_neg h1] at h
    simp only at h
    split at h
    · cases h
    · split at h
      · cases h
      · split at h
        · cases h
        · split at h
          · cases h
          · have hc := cut1_len 45 l
            have hr := Dg.rl_le (cut1 45 l).1
            have hf := fra_ok (l := (cut1 45 l).1.drop (Dg.rl (cut1 45 l).1))
            have hx := xpo_ok (l := (fra ((cut1 45 l).1.drop (Dg.rl (cut1 45 l).1))).2.1)
            simp only [Option.some.injEq, Prod.mk.injEq] at h
            obtain ⟨rfl, rfl, rfl⟩ := h
            have h2 := hf.2.1
            rw [List.length_drop] at h2
            refine ⟨?_, ?_, by omega, by omega⟩
            · intro b hb
              rcases List.mem_append.1 hb with h3 | h3
              · exact Dg.rl_all _ b h3
              · exact hf.1 b h3
            · rw [List.length_append, List.length_take]; omega
/-- the sign's bit -/
def sg (m : Bool) : Nat := if m then 9223372036854775808 else 0
def tup (b : Nat) (e : Value) : Value := .tuple #[.float .f64 b, e]
/-- what ParsePlain answers -/
def PP (l : List UInt8) (et er v : Value) : Prop :=
  (l = [110, 97, 110] ∧ v = tup 9221120237041090560 .nilIface) ∨ (l = [105, 110, 102] ∧ v = tup 9218868437227405312 .nilIface) ∨ (l = [45, 105, 110, 102] ∧ v = tup 18442240474082181120 .nilIface) ∨
  ((l ≠ [110, 97, 110] ∧ l ≠ [105, 110, 102] ∧ l ≠ [45, 105, 110, 102]) ∧
    ((prs l = none ∧ v = tup 0 et) ∨
     ∃ mi ds p r, prs l = some (mi, ds, p) ∧ Rd.Sp (Dg.dv ds) p r ∧ ((Rd.inf ≤ r ∧ v = tup 0 er) ∨ (r < Rd.inf ∧ v = tup (r + sg mi) .nilIface))))
set_option maxRecDepth 100000 in
set_option maxHeartbeats 400000 in
theorem pp_nan (w : World) (et er : Value) :
    Calls Tryd.prog 9 #[.string (B [110, 97, 110])] w fun e w' => ∃ v, e = .returned v ∧ PP [110, 97, 110] et er v ∧ Below w.heap.size w w' := by
  have hB : (B [110, 97, 110]).toList = [110, 97, 110] := B_toList _
  go_enter Tryd.func9, Tryd.ntmps9
  go_wp2_with (go_at_call 18; refine (of_c _ _).mono ?_; rintro e w' ⟨rfl, rfl⟩)
  go_ret2
  exact ⟨_, rfl, .inl ⟨rfl, rfl⟩, Below.refl _ _⟩
set_option maxRecDepth 100000 in
set_option maxHeartbeats 400000 in
theorem pp_inf (w : World) (et er : Value) :
    Calls Tryd.prog 9 #[.string (B [105, 110, 102])] w fun e w' => ∃ v, e = .returned v ∧ PP [105, 110, 102] et er v ∧ Below w.heap.size w w' := by
  have hB : (B [105, 110, 102]).toList = [105, 110, 102] := B_toList _
  go_enter Tryd.func9, Tryd.ntmps9
  go_wp2_with (go_at_call 18; refine (of_c _ _).mono ?_; rintro e w' ⟨rfl, rfl⟩)
  go_ret2
  exact ⟨_, rfl, .inr (.inl ⟨rfl, rfl⟩), Below.refl _ _⟩
set_option maxRecDepth 100000 in
set_option maxHeartbeats 400000 in
theorem pp_minf (w : World) (et er : Value) :
    Calls Tryd.prog 9 #[.string (B [45, 105, 110, 102])] w fun e w' => ∃ v, e = .returned v ∧ PP [45, 105, 110, 102] et er v ∧ Below w.heap.size w w' := by
  have hB : (B [45, 105, 110, 102]).toList = [45, 105, 110, 102] := B_toList _
  go_enter Tryd.func9, Tryd.ntmps9
  go_wp2_with (go_at_call 18; refine (of_c _ _).mono ?_; rintro e w' ⟨rfl, rfl⟩)
  go_ret2
  exact ⟨_, rfl, .inr (.inr (.inl ⟨rfl, rfl⟩)), Below.refl _ _⟩
set_option maxRecDepth 100000 in
set_option maxHeartbeats 400000 in
theorem pp_none (l : List UInt8) (w : World) (et : Value) (h1 : (l == [110, 97, 110]) = false) (h2 : (l == [105, 110, 102]) = false) (h3 : (l == [45, 105, 110, 102]) = false)
    (ht : w.cell? ⟨0, 0, none⟩ = some et) (hg : 0 < w.heap.size) (hp : Hid (prs l = none)) :
    Calls Tryd.prog 9 #[.string (B l)] w fun e w' => e = .returned (tup 0 et) ∧ Below w.heap.size w w' := by
  have hB : (B l).toList = l := B_toList _
  go_enter Tryd.func9, Tryd.ntmps9
  go_wp2_with fail
  refine (decimalOf_c l w).mono ?_
  rintro e w1 ⟨rfl, hb1⟩
  rw [hp.out]
  have hd : dres none = .tuple #[.agg #[.bool false, .string ⟨#[]⟩, .int .i64 0], .bool false] := rfl
  rw [hd]
  have ht1 : w1.cell? ⟨0, 0, none⟩ = some et := (hb1.cell (p := ⟨0, 0, none⟩) hg).trans ht
  have hbH : Hid (Below w.heap.size w w1) := hb1
  clear hd hb1 ht
  go_wp2
  generalize hW : w1.alloc (.cells #[.bool false, .string ⟨#[]⟩, .int .i64 0] 42) = W
  have htW : W.cell? ⟨0, 0, none⟩ = some et := by rw [← hW]; exact (((Below.refl w1.heap.size w1).alloc (Nat.le_refl _) _).cell (p := ⟨0, 0, none⟩) (Nat.lt_of_lt_of_le hg hbH.out.size)).trans ht1
  have hbW : Hid (Below w.heap.size w W) := by rw [← hW]; exact hbH.out.alloc hbH.out.size _
  clear hW ht1
  go_quiet (fail)
  go_wp2
  go_ret2
  exact ⟨rfl, below_drewN hbW.out _⟩
set_option maxRecDepth 100000 in
set_option maxHeartbeats 400000 in
theorem pp_some (l : List UInt8) (w : World) (er : Value) (h1 : (l == [110, 97, 110]) = false) (h2 : (l == [105, 110, 102]) = false) (h3 : (l == [45, 105, 110, 102]) = false)
    (ht : w.cell? ⟨1, 0, none⟩ = some er) (hg : 1 < w.heap.size) (mi : Bool) (ds : List UInt8) (p : Int) (hp : Hid (prs l = some (mi, ds, p))) :
    Calls Tryd.prog 9 #[.string (B l)] w fun e w' => ∃ v, e = .returned v ∧ (∃ r, Rd.Sp (Dg.dv ds) p r ∧ ((Rd.inf ≤ r ∧ v = tup 0 er) ∨ (r < Rd.inf ∧ v = tup (r + sg mi) .nilIface))) ∧ Below w.heap.size w w' := by
  have hB : (B l).toList = l := B_toList _
  obtain ⟨o1, o2, o3, o4⟩ := prs_ok hp.out
  go_enter Tryd.func9, Tryd.ntmps9
  go_wp2_with fail
  refine (decimalOf_c l w).mono ?_
  rintro e w1 ⟨rfl, hb1⟩
  rw [hp.out]
  have hd : dres (some (mi, ds, p)) = .tuple #[.agg #[.bool mi, .string (B (Dg.tz ds)), .int .i64 p], .bool true] := rfl
  rw [hd]
  have ht1 : Hid (∀ w2, Below w1.heap.size w1 w2 → w2.cell? ⟨1, 0, none⟩ = some er) := fun w2 hb2 => ((hb2.cell (p := ⟨1, 0, none⟩) (Nat.lt_of_lt_of_le hg hb1.size)).trans (hb1.cell (p := ⟨1, 0, none⟩) hg)).trans ht
  have hbH : Hid (Below w.heap.size w w1) := hb1
  clear hd hb1 ht
  go_wp2_with fail
  generalize hW : w1.alloc (.cells #[.bool mi, .string (B (Dg.tz ds)), .int .i64 p] 42) = W
  have hbW : Hid (Below w1.heap.size w1 W) := by rw [← hW]; exact (Below.refl _ _).alloc (Nat.le_refl _) _
  have hc0 : Hid (W.cell? ⟨w1.heap.size, 0, none⟩ = some (.bool mi)) := by show _ = _; rw [← hW]; simp
  have hWs : Hid (w1.heap.size + 1 = W.heap.size) := by show _ = _; rw [← hW]; simp
  clear hW
  refine (size_c mi (B (Dg.tz ds)) p W (by rw [B_size]; exact Nat.le_trans (Dg.tz_len ds) (by omega)) o3 o4 (by rw [B_data]; exact fun b hb => o1 b (Dg.tz_mem hb)) (by
    rw [B_size, B_data, Dg.tz_dv]
    by_cases h : Dg.tz ds = []
    · left; rw [h]; rfl
    · right; exact Dg.tz_ge ds o1 h)).mono ?_
  rintro e w2 ⟨r, rfl, hr, hb2⟩
  have hrH : Hid (Rd.Sp (Dg.dv ds) p r) := by rw [B_data, Dg.tz_dv] at hr; exact hr
  have hb12 : Hid (Below w1.heap.size w1 w2) := hbW.out.trans (hb2.mono hbW.out.size)
  have hbw : Hid (Below w.heap.size w w2) := hbH.out.trans (hb12.out.mono hbH.out.size)
  have ht2 := ht1.out w2 hb12.out
  have hc2 : w2.cell? ⟨w1.heap.size, 0, none⟩ = some (.bool mi) := (hb2.cell (p := ⟨w1.heap.size, 0, none⟩) (by have := hWs.out; show w1.heap.size < _; omega)).trans hc0.out
  clear hr hb2 hb12 ht1 hc0 hWs hbW hbH o1 o2 o3 o4
  by_cases hi : 9218868437227405312 ≤ r
  · have hi' : (9218868437227405312 : Int) ≤ (r : Int) := by omega
    have hiH : Hid (Rd.inf ≤ r) := hi
    clear hi
    go_wp2
    go_quiet (fail)
    go_wp2
    go_ret2
    exact ⟨_, rfl, ⟨r, hrH.out, .inl ⟨hiH.out, rfl⟩⟩, below_drewN hbw.out _⟩
  · have hi' : decide ((9218868437227405312 : Int) ≤ (r : Int)) = false := decide_eq_false (by omega)
    have hiH : Hid (r < Rd.inf) := Nat.lt_of_not_le hi
    have hrl : Hid (r < 9218868437227405312) := Nat.lt_of_not_le hi
    clear hi
    cases mi with
    | false =>
      go_wp2_with (go_at_call 18; refine (of_c _ _).mono ?_; rintro e w' ⟨rfl, rfl⟩)
      go_ret2
      exact ⟨_, rfl, ⟨r, hrH.out, .inr ⟨hiH.out, rfl⟩⟩, hbw.out⟩
    | true =>
      have hor : bits .or .u64 (r : Int) 9223372036854775808 = ((r + sg true : Nat) : Int) := by
        have hrl' := hrl.out
        show _ = ((r + 9223372036854775808 : Nat) : Int)
        rw [show (9223372036854775808 : Int) = ((9223372036854775808 : Nat) : Int) from rfl, bits_or_u64_nat _ _ (by omega) (by omega)]
        congr 1
        have := Nat.two_pow_add_eq_or_of_lt (i := 63) (b := r) (by omega) 1
        rw [Nat.mul_one] at this
        rw [Nat.or_comm, show (9223372036854775808 : Nat) = 2 ^ 63 from rfl, ← this, Nat.add_comm]
      go_wp2_with (go_at_call 18; refine (of_c _ _).mono ?_; rintro e w' ⟨rfl, rfl⟩)
      go_ret2
      exact ⟨_, rfl, ⟨r, hrH.out, .inr ⟨hiH.out, rfl⟩⟩, hbw.out⟩
theorem parsePlain_c (l : List UInt8) (w : World) (et er : Value) (ht : w.cell? ⟨0, 0, none⟩ = some et) (hr : w.cell? ⟨1, 0, none⟩ = some er) :
    Calls Tryd.prog 9 #[.string (B l)] w fun e w' => ∃ v, e = .returned v ∧ PP l et er v ∧ Below w.heap.size w w' := by
  have g1 : 0 < w.heap.size := World.block_lt_of_cell? w _ ht
  have g2 : 1 < w.heap.size := World.block_lt_of_cell? w _ hr
  by_cases h1 : l = [110, 97, 110]
  · subst h1; exact pp_nan w et er
  · by_cases h2 : l = [105, 110, 102]
    · subst h2; exact pp_inf w et er
    · by_cases h3 : l = [45, 105, 110, 102]
      · subst h3; exact pp_minf w et er
      · have e1 : (l == [110, 97, 110]) = false := beq_eq_false_iff_ne.2 h1
        have e2 : (l == [105, 110, 102]) = false := beq_eq_false_iff_ne.2 h2
        have e3 : (l == [45, 105, 110, 102]) = false := beq_eq_false_iff_ne.2 h3
        cases hp : prs l with
        | none =>
          refine (pp_none l w et e1 e2 e3 ht g1 hp).mono ?_
          rintro e w' ⟨rfl, hb⟩
          exact ⟨_, rfl, .inr (.inr (.inr ⟨⟨h1, h2, h3⟩, .inl ⟨hp, rfl⟩⟩)), hb⟩
        | some y =>
          obtain ⟨mi, ds, p⟩ := y
          refine (pp_some l w er e1 e2 e3 hr g2 mi ds p hp).mono ?_
          rintro e w' ⟨v, rfl, ⟨r, q1, q2⟩, hb⟩
          exact ⟨v, rfl, .inr (.inr (.inr ⟨⟨h1, h2, h3⟩, .inr ⟨mi, ds, p, r, hp, q1, q2⟩⟩)), hb⟩
end Go.Proofs.YtmfnjmgdindlaaaDoor
