/-
  A decimal's size.
-/
import Derived.Test.YtmdnmhbfdceliaaGreatDoorQj
import Derived.Test.YtmdnmhbfdceliaaGreatDoorQh
namespace Go.Proofs.YtmdnmhbfdceliaaGreatDoor
open Flo Go.RowKit
theorem bitLen_mono {d n k : Nat} (h : d ≤ n * 2 ^ k) : bitLen d ≤ bitLen n + k := by
  by_cases h0 : n = 0
  · subst h0
    rw [Nat.zero_mul] at h
    rw [Nat.le_zero.1 h]; simp [bitLen]
  · apply bitLen_lt
    have h1 := bitLen_hi n
    rw [Nat.pow_add]
    exact Nat.lt_of_le_of_lt h (Nat.mul_lt_mul_of_pos_right h1 (Nat.pow_pos (by decide)))
set_option maxRecDepth 100000 in
set_option maxHeartbeats 400000 in
theorem size_e (mi : Bool) (s : ByteArray) (p : Int) (w : World) (hs : s.size ≤ 1000) (hp1 : -20000 ≤ p) (hp2 : p ≤ 20000) (h0 : s.toList.isEmpty = true) :
    Calls Tryz.prog 19 #[.agg #[.bool mi, .string s, .int .i64 p]] w fun e w' => e = .returned (.int .u64 0) ∧ Below w.heap.size w w' := by
  go_enter Tryz.func19, Tryz.ntmps19
  go_wp2
  go_ret
  exact ⟨rfl, (Below.refl _ _).alloc (Nat.le_refl _) _⟩
set_option maxRecDepth 100000 in
set_option maxHeartbeats 400000 in
theorem size_0 (mi : Bool) (s : ByteArray) (p : Int) (w : World) (hs : s.size ≤ 1000) (hp1 : -20000 ≤ p) (hp2 : p ≤ 20000) (h0 : s.toList.isEmpty = false) (h : (s.size : Int) + p ≤ -324) :
    Calls Tryz.prog 19 #[.agg #[.bool mi, .string s, .int .i64 p]] w fun e w' => e = .returned (.int .u64 0) ∧ Below w.heap.size w w' := by
  go_enter Tryz.func19, Tryz.ntmps19
  go_wp2
  go_ret
  exact ⟨rfl, (Below.refl _ _).alloc (Nat.le_refl _) _⟩
set_option maxRecDepth 100000 in
set_option maxHeartbeats 400000 in
theorem size_1 (mi : Bool) (s : ByteArray) (p : Int) (w : World) (hs : s.size ≤ 1000) (hp1 : -20000 ≤ p) (hp2 : p ≤ 20000) (h0 : s.toList.isEmpty = false) (h : 309 < (s.size : Int) + p) (h' : ¬ ((s.size : Int) + p ≤ -324)) :
    Calls Tryz.prog 19 #[.agg #[.bool mi, .string s, .int .i64 p]] w fun e w' => e = .returned (.int .u64 9218868437227405312) ∧ Below w.heap.size w w' := by
  go_enter Tryz.func19, Tryz.ntmps19
  go_wp2
  go_ret
  exact ⟨rfl, (Below.refl _ _).alloc (Nat.le_refl _) _⟩
/-- a decimal's places, its numbers -/
structure Dec (s : ByteArray) (p : Int) : Prop where
  dig : ∀ b ∈ s.data.toList, Dg.isD b = true
  lead : 10 ^ (s.size - 1) ≤ Dg.dv s.data.toList
  lo : -324 < (s.size : Int) + p
  hi : (s.size : Int) + p ≤ 309
theorem Dec.lt {s : ByteArray} {p : Int} (h : Dec s p) : Dg.dv s.data.toList < 10 ^ s.size := Dg.dv_lt _ h.dig
theorem Dec.bit1 {s : ByteArray} {p : Int} (h : Dec s p) (hs : 0 < s.size) : bitLen (Rd.den p) ≤ bitLen (Rd.num (Dg.dv s.data.toList) p) + 1082 := by
  obtain ⟨x, hx⟩ : ∃ x, x = 324 := ⟨_, rfl⟩
  have h1 := Rd.val_ge' (c := x) (p := p) h.lead (by have := h.lo; omega)
  have h2 : bitLen (Rd.den p) ≤ bitLen (Rd.num (Dg.dv s.data.toList) p) + 1077 := by
    apply bitLen_mono
    refine Nat.le_trans h1 (Nat.mul_le_mul_left _ ?_)
    rw [hx]; exact Rd.c2
  omega
theorem Dec.bit2 {s : ByteArray} {p : Int} (h : Dec s p) : bitLen (Rd.num (Dg.dv s.data.toList) p) ≤ bitLen (Rd.den p) + 1255 := by
  obtain ⟨x, hx⟩ : ∃ x, x = 309 := ⟨_, rfl⟩
  have h1 := Rd.val_lt (c := x) (p := p) h.lt (by have := h.hi; omega)
  have h2 : bitLen (Rd.num (Dg.dv s.data.toList) p) ≤ bitLen (Rd.den p) + 1027 := by
    apply bitLen_mono
    refine Nat.le_trans h1 (Nat.mul_le_mul_left _ ?_)
    rw [hx]; exact Rd.c3
  omega
theorem Dec.pos {s : ByteArray} {p : Int} (h : Dec s p) : 0 < Dg.dv s.data.toList := Nat.lt_of_lt_of_le (Nat.pow_pos (by decide)) h.lead
set_option maxRecDepth 100000 in
set_option maxHeartbeats 400000 in
theorem size_p (mi : Bool) (s : ByteArray) (p : Nat) (w : World) (hs : s.size ≤ 1000) (hs0 : Hid (0 < s.size)) (hp2 : p ≤ 20000) (h0 : s.toList.isEmpty = false) (hD : Hid (Dec s (p : Int))) :
    Calls Tryz.prog 19 #[.agg #[.bool mi, .string s, .int .i64 (p : Int)]] w fun e w' => ∃ r : Nat, e = .returned (.int .u64 (r : Int)) ∧ Rd.Sp (Dg.dv s.data.toList) (p : Int) r ∧ Below w.heap.size w w' := by
  have h1 := hD.out.lo
  have h2 := hD.out.hi
  have h1' : ¬ ((s.size : Int) + (p : Int) ≤ -324) := by omega
  have h2' : ¬ (309 < (s.size : Int) + (p : Int)) := by omega
  have hpl : Hid (p ≤ 2000) := (by omega : p ≤ 2000)

  have hnn : Hid (Wd.nw W64 (Dg.dv s.data.toList * 10 ^ p) ≤ 2000) := by
    refine pow10_nw (k := s.size + p) (K := 2000) ?_ (by omega)
    rw [Nat.pow_add]
    exact Nat.mul_lt_mul_of_lt_of_le hD.out.lt (Nat.pow_le_pow_right (by decide) (by omega)) (Nat.pow_pos (by decide))
  have hdd : Hid (Wd.nw W64 (1 * 10 ^ 0) ≤ 2000) := by
    refine pow10_nw (k := p + 1) (K := 2000) ?_ (by have := hpl.out; omega)
    rw [Nat.one_mul]
    exact Nat.pow_lt_pow_right (by decide) (by omega)
  have hnum : Hid (Rd.num (Dg.dv s.data.toList) (p : Int) = Dg.dv s.data.toList * 10 ^ p) := by show _ = _; unfold Rd.num; congr 2 <;> omega
  have hden : Hid (Rd.den (p : Int) = 1 * 10 ^ 0) := by show _ = _; unfold Rd.den; rw [Nat.one_mul]; congr 1; omega
  clear h1 h2
  go_enter Tryz.func19, Tryz.ntmps19
  go_wp2_with fail
  generalize hw0 : w.alloc (.cells #[.bool mi, .string s, .int .i64 (p : Int)] 40) = w0
  have hc2 : Hid (w0.cell? ⟨w.heap.size, 2, none⟩ = some (.int .i64 (p : Int))) := by show _ = _; rw [← hw0]; simp
  have hsz0 : Hid (w.heap.size + 1 = w0.heap.size) := by show _ = _; rw [← hw0]; simp
  have hbl0 : Hid (Below w.heap.size w w0) := by rw [← hw0]; exact (Below.refl _ _).alloc (Nat.le_refl _) _
  clear hw0
  refine (naturalOfDigits_c s w0 hs hD.out.dig).mono ?_
  rintro e w1 ⟨u1, rfl, hu1, hb1⟩
  go_wp2_with fail
  refine (naturalOf_c 1 w1 (by decide)).mono ?_
  rintro e w2 ⟨d2, rfl, hd2, hb2⟩
  have hu2 : Hid (Nl w2 w0.heap.size u1 (Dg.dv s.data.toList)) := Row.under hu1 hb2
  have hdH : Hid (Nl w2 w1.heap.size d2 1) := hd2
  have hap : Hid (Apt u1 d2) := apt_of (fun b h => (Row.lt hu1 b h).2) (fun b h => (Row.lt hd2 b h).1)
  have hbw2 : Hid (Below w0.heap.size w0 w2) := hb1.trans (hb2.mono hb1.size)
  have hs1 : Hid (w1.heap.size ≤ w2.heap.size) := hb2.size
  have hs0w : Hid (w0.heap.size ≤ w1.heap.size) := hb1.size
  have hcp : w2.cell? ⟨w.heap.size, 2, none⟩ = some (.int .i64 (p : Int)) := (hbw2.out.cell (p := ⟨w.heap.size, 2, none⟩) (by have := hsz0.out; show w.heap.size < _; omega)).trans hc2.out
  clear hu1 hd2 hb1 hb2 hc2
  go_wp2_with fail
  refine (timesTens_c w0.heap.size (Dg.dv s.data.toList) p u1 w2 (Nat.le_trans hs0w.out hs1.out) hu2.out (by omega) (Nat.le_trans hnn.out (by decide))).mono ?_
  rintro e w3 ⟨u3, rfl, hu3, hb3, hi3⟩
  have hd3 : Hid (Nl w3 w1.heap.size d2 (1 * 10 ^ 0)) := Row.other hdH.out hi3 hap.out.symm
  have hu3H : Hid (Nl w3 w0.heap.size u3 (Dg.dv s.data.toList * 10 ^ p)) := hu3
  have hbw3 : Hid (Below w0.heap.size w0 w3) := hbw2.out.trans hb3
  clear hu3 hb3 hi3 hu2 hdH hap hbw2 hcp
  go_wp2_with fail
  refine (nearestSize_c w0.heap.size w1.heap.size (Dg.dv s.data.toList * 10 ^ p) (1 * 10 ^ 0) u3 d2 w3 hu3H.out hd3.out (Nat.mul_pos hD.out.pos (Nat.pow_pos (by decide))) (Nat.mul_pos (by decide) (Nat.pow_pos (by decide))) hnn.out hdd.out (by rw [← hnum.out, ← hden.out]; exact hD.out.bit1 hs0.out) (by rw [← hnum.out, ← hden.out]; exact hD.out.bit2)).mono ?_
  rintro e w4 ⟨r, rfl, hr, hb4⟩
  have hNr : Hid (Rd.Sp (Dg.dv s.data.toList) (p : Int) r) := Rd.sp_near hD.out.pos (by rw [hnum.out, hden.out]; exact hr)
  have hb : Hid (Below w.heap.size w w4) := hbl0.out.trans ((hbw3.out.trans (hb4.mono hbw3.out.size)).mono (by have := hsz0.out; omega))
  clear hr hb4
  go_wp2
  go_ret
  exact ⟨_, rfl, hNr.out, hb.out⟩
set_option maxRecDepth 100000 in
set_option maxHeartbeats 400000 in
theorem size_m (mi : Bool) (s : ByteArray) (p : Nat) (w : World) (hs : s.size ≤ 1000) (hs0 : Hid (0 < s.size)) (hp2 : p ≤ 20000) (hp0 : 0 < p) (h0 : s.toList.isEmpty = false) (hD : Hid (Dec s (-(p : Int)))) :
    Calls Tryz.prog 19 #[.agg #[.bool mi, .string s, .int .i64 (-(p : Int))]] w fun e w' => ∃ r : Nat, e = .returned (.int .u64 (r : Int)) ∧ Rd.Sp (Dg.dv s.data.toList) (-(p : Int)) r ∧ Below w.heap.size w w' := by
  have h1 := hD.out.lo
  have h2 := hD.out.hi
  have h1' : ¬ ((s.size : Int) + (-(p : Int)) ≤ -324) := by omega
  have h2' : ¬ (309 < (s.size : Int) + (-(p : Int))) := by omega
  have hpl : Hid (p ≤ 2000) := (by omega : p ≤ 2000)
  have hng : ¬ (0 ≤ -(p : Int)) := by omega
  have hnn : Hid (Wd.nw W64 (Dg.dv s.data.toList * 10 ^ 0) ≤ 2000) := by
    refine pow10_nw (k := s.size + p) (K := 2000) ?_ (by omega)
    rw [Nat.pow_add]
    exact Nat.mul_lt_mul_of_lt_of_le hD.out.lt (Nat.pow_le_pow_right (by decide) (by omega)) (Nat.pow_pos (by decide))
  have hdd : Hid (Wd.nw W64 (1 * 10 ^ p) ≤ 2000) := by
    refine pow10_nw (k := p + 1) (K := 2000) ?_ (by have := hpl.out; omega)
    rw [Nat.one_mul]
    exact Nat.pow_lt_pow_right (by decide) (by omega)
  have hnum : Hid (Rd.num (Dg.dv s.data.toList) (-(p : Int)) = Dg.dv s.data.toList * 10 ^ 0) := by show _ = _; unfold Rd.num; congr 2 <;> omega
  have hden : Hid (Rd.den (-(p : Int)) = 1 * 10 ^ p) := by show _ = _; unfold Rd.den; rw [Nat.one_mul]; congr 1; omega
  clear h1 h2
  go_enter Tryz.func19, Tryz.ntmps19
  go_wp2_with fail
  generalize hw0 : w.alloc (.cells #[.bool mi, .string s, .int .i64 (-(p : Int))] 40) = w0
  have hc2 : Hid (w0.cell? ⟨w.heap.size, 2, none⟩ = some (.int .i64 (-(p : Int)))) := by show _ = _; rw [← hw0]; simp
  have hsz0 : Hid (w.heap.size + 1 = w0.heap.size) := by show _ = _; rw [← hw0]; simp
  have hbl0 : Hid (Below w.heap.size w w0) := by rw [← hw0]; exact (Below.refl _ _).alloc (Nat.le_refl _) _
  clear hw0
  refine (naturalOfDigits_c s w0 hs hD.out.dig).mono ?_
  rintro e w1 ⟨u1, rfl, hu1, hb1⟩
  go_wp2_with fail
  refine (naturalOf_c 1 w1 (by decide)).mono ?_
  rintro e w2 ⟨d2, rfl, hd2, hb2⟩
  have hu2 : Hid (Nl w2 w0.heap.size u1 (Dg.dv s.data.toList)) := Row.under hu1 hb2
  have hdH : Hid (Nl w2 w1.heap.size d2 1) := hd2
  have hap : Hid (Apt u1 d2) := apt_of (fun b h => (Row.lt hu1 b h).2) (fun b h => (Row.lt hd2 b h).1)
  have hbw2 : Hid (Below w0.heap.size w0 w2) := hb1.trans (hb2.mono hb1.size)
  have hs1 : Hid (w1.heap.size ≤ w2.heap.size) := hb2.size
  have hs0w : Hid (w0.heap.size ≤ w1.heap.size) := hb1.size
  have hcp : w2.cell? ⟨w.heap.size, 2, none⟩ = some (.int .i64 (-(p : Int))) := (hbw2.out.cell (p := ⟨w.heap.size, 2, none⟩) (by have := hsz0.out; show w.heap.size < _; omega)).trans hc2.out
  clear hu1 hd2 hb1 hb2 hc2
  go_wp2_with fail
  refine (timesTens_c w1.heap.size 1 p d2 w2 hs1.out hdH.out (by omega) (Nat.le_trans hdd.out (by decide))).mono ?_
  rintro e w3 ⟨d3, rfl, hd3, hb3, hi3⟩
  have hu3 : Hid (Nl w3 w0.heap.size u1 (Dg.dv s.data.toList * 10 ^ 0)) := by rw [Nat.pow_zero, Nat.mul_one]; exact Row.other hu2.out hi3 hap.out
  have hd3H : Hid (Nl w3 w1.heap.size d3 (1 * 10 ^ p)) := hd3
  have hbw3 : Hid (Below w0.heap.size w0 w3) := hbw2.out.trans (hb3.mono hs0w.out)
  clear hd3 hb3 hi3 hu2 hdH hap hbw2 hcp
  go_wp2_with fail
  refine (nearestSize_c w0.heap.size w1.heap.size (Dg.dv s.data.toList * 10 ^ 0) (1 * 10 ^ p) u1 d3 w3 hu3.out hd3H.out (Nat.mul_pos hD.out.pos (Nat.pow_pos (by decide))) (Nat.mul_pos (by decide) (Nat.pow_pos (by decide))) hnn.out hdd.out (by rw [← hnum.out, ← hden.out]; exact hD.out.bit1 hs0.out) (by rw [← hnum.out, ← hden.out]; exact hD.out.bit2)).mono ?_
  rintro e w4 ⟨r, rfl, hr, hb4⟩
  have hNr : Hid (Rd.Sp (Dg.dv s.data.toList) (-(p : Int)) r) := Rd.sp_near hD.out.pos (by rw [hnum.out, hden.out]; exact hr)
  have hb : Hid (Below w.heap.size w w4) := hbl0.out.trans ((hbw3.out.trans (hb4.mono hbw3.out.size)).mono (by have := hsz0.out; omega))
  clear hr hb4
  go_wp2
  go_ret
  exact ⟨_, rfl, hNr.out, hb.out⟩
theorem size_c (mi : Bool) (s : ByteArray) (p : Int) (w : World) (hs : s.size ≤ 1000) (hp1 : -20000 ≤ p) (hp2 : p ≤ 20000) (hd : ∀ b ∈ s.data.toList, Dg.isD b = true) (hl : s.size = 0 ∨ 10 ^ (s.size - 1) ≤ Dg.dv s.data.toList) :
    Calls Tryz.prog 19 #[.agg #[.bool mi, .string s, .int .i64 p]] w fun e w' => ∃ r : Nat, e = .returned (.int .u64 (r : Int)) ∧ Rd.Sp (Dg.dv s.data.toList) p r ∧ Below w.heap.size w w' := by
  have hsl : s.data.toList.length = s.size := rfl
  by_cases h0 : s.size = 0
  · have e0 : s.data.toList = [] := List.eq_nil_of_length_eq_zero (by omega)
    have hE : s.toList.isEmpty = true := by rw [ByteArray.toList_eq, e0]; rfl
    refine (size_e mi s p w hs hp1 hp2 hE).mono ?_
    rintro e w' ⟨rfl, hb⟩
    exact ⟨0, rfl, by rw [e0]; exact Rd.sp_zero p, hb⟩
  · have hE : s.toList.isEmpty = false := by
      rw [ByteArray.toList_eq]
      cases hh : s.data.toList with
      | nil => rw [hh] at hsl; simp at hsl; omega
      | cons a l => rfl
    have hl' : 10 ^ (s.size - 1) ≤ Dg.dv s.data.toList := by
      rcases hl with h | h
      · omega
      · exact h
    have hpos : 0 < Dg.dv s.data.toList := Nat.lt_of_lt_of_le (Nat.pow_pos (by decide)) hl'
    have hlt : Dg.dv s.data.toList < 10 ^ s.size := Dg.dv_lt _ hd
    by_cases h1 : (s.size : Int) + p ≤ -324
    · refine (size_0 mi s p w hs hp1 hp2 hE h1).mono ?_
      rintro e w' ⟨rfl, hb⟩
      exact ⟨0, rfl, Rd.sp_tiny hpos hlt h1, hb⟩
    · by_cases h2 : 309 < (s.size : Int) + p
      · refine (size_1 mi s p w hs hp1 hp2 hE h2 h1).mono ?_
        rintro e w' ⟨rfl, hb⟩
        exact ⟨Rd.inf, rfl, Rd.sp_big hl' (by omega) (Nat.le_refl _), hb⟩
      · have hD : Dec s p := ⟨hd, hl', by omega, by omega⟩
        by_cases h3 : 0 ≤ p
        · obtain ⟨q, rfl⟩ := Int.eq_ofNat_of_zero_le h3
          exact size_p mi s q w hs (by show 0 < s.size; omega) (by omega) hE hD
        · obtain ⟨q, hq⟩ := Int.eq_ofNat_of_zero_le (show 0 ≤ -p by omega)
          have : p = -(q : Int) := by omega
          subst this
          exact size_m mi s q w hs (by show 0 < s.size; omega) (by omega) (by omega) hE hD
end Go.Proofs.YtmdnmhbfdceliaaGreatDoor
