/-
  The walk of PrimesWholes, out of what was proved of package primes and of the document's answers.
-/
import Derived.Test.YtkgecgkjmikihaaDoorPg6
import Derived.Test.YtkgecgkjmikihaaDoorLy5
import Derived.Test.YtkgecgkjmikihaaDoorDv2
import Derived.Test.YtkgecgkjmikihaaDoorDv3
import Derived.Test.YtkgecgkjmikihaaDoorRows
namespace Go.Proofs.YtkgecgkjmikihaaDoor
open Flo Go.RowKit

set_option maxHeartbeats 1000000 in
theorem r5size_c (n : Int) (w : World) (h : inI n) :
    Calls Tryd.prog 41 #[.int .i64 n] w fun e w' => e = .returned (.int .u64 (n.natAbs : Nat)) ∧ w' = w := by
  obtain ⟨lo, hi⟩ := h
  by_cases h0 : n < 0
  · go_enter Tryd.func41, Tryd.ntmps41
    go_wp2
    go_ret
    refine ⟨ret_int ?_, rfl⟩
    simp only [IntKind.wrap_u64]; omega
  · have c1 : decide (n < 0) = false := decide_eq_false h0
    go_enter Tryd.func41, Tryd.ntmps41
    go_wp2
    go_ret
    exact ⟨ret_int (by omega), rfl⟩
set_option maxHeartbeats 1000000 in
theorem r5Gcd_c (a b : Int) (w : World) (ha : inI a) (hb : inI b) :
    Calls Tryd.prog 15 #[.int .i64 a, .int .i64 b] w fun e w' => e = .returned (.int .i64 (gcI a b)) ∧ w' = w := by
  have la : a.natAbs < 18446744073709551616 := by obtain ⟨_, _⟩ := ha; omega
  have lb : b.natAbs < 18446744073709551616 := by obtain ⟨_, _⟩ := hb; omega
  go_enter Tryd.func15, Tryd.ntmps15
  go_wp2_with fail
  refine (r5size_c a _ ha).mono ?_
  rintro e w' ⟨rfl, rfl⟩
  go_wp2_with fail
  refine (r5size_c b _ hb).mono ?_
  rintro e w' ⟨rfl, rfl⟩
  go_wp2_with fail
  refine (r5gcd_c _ _ _ la lb).mono ?_
  rintro e w' ⟨rfl, rfl⟩
  go_wp2
  go_ret
  refine ⟨ret_int ?_, rfl⟩
  unfold gcI wrap64
  first | rfl | (simp only [IntKind.wrap_i64]; try omega)
/-- the list of factors, none outside 2 to 2^32 -/
def FacO (n : Int) (zs : List Nat) : Prop := (2 ≤ n ∧ n ≤ 4294967296 ∧ Nt.Fac n.toNat zs) ∨ ((n < 2 ∨ 4294967296 < n) ∧ zs = [])
theorem FacO.eq {n : Int} {xs ys : List Nat} (a : FacO n xs) (b : FacO n ys) : xs = ys := by
  rcases a with ⟨a1, a2, a3⟩ | ⟨a1, a2⟩ <;> rcases b with ⟨b1, b2, b3⟩ | ⟨b1, b2⟩
  · exact a3.eq b3
  · omega
  · omega
  · rw [a2, b2]
theorem FacO.len {n : Int} {xs : List Nat} (a : FacO n xs) : xs.length ≤ 32 := by
  rcases a with ⟨a1, a2, a3⟩ | ⟨a1, a2⟩
  · exact a3.len (by omega)
  · rw [a2]; simp
theorem pFac_o (n : Int) (w : World) :
    Calls Tryd.prog 17 #[.int .i64 n] w fun e w' => ∃ v zs, e = .returned v ∧ FacO n zs ∧ w'.ownsRow w.heap.size 3 1 v zs.length (il zs) ∧ Below w.heap.size w w' := by
  by_cases h : n < 2 ∨ 4294967296 < n
  · refine (pFactors_no n w h).mono ?_
    rintro e w' ⟨rfl, rfl⟩
    exact ⟨_, [], rfl, Or.inr ⟨h, rfl⟩, World.ownsRow_nil _ _ _ _, Below.refl _ _⟩
  · obtain ⟨m, rfl⟩ : ∃ m : Nat, n = (m : Int) := ⟨n.toNat, by omega⟩
    refine (pFactors_n m w (by omega) (by omega)).mono ?_
    rintro e w' ⟨v, zs, rfl, hf, hown, hb⟩
    exact ⟨v, zs, rfl, Or.inl ⟨by omega, by omega, by rw [Int.toNat_natCast]; exact hf⟩, hown, hb⟩
theorem rFac_o (n : Int) (w : World) :
    Calls Tryd.prog 18 #[.int .i64 n] w fun e w' => ∃ v zs, e = .returned v ∧ FacO n zs ∧ w'.ownsRow w.heap.size 3 1 v zs.length (il zs) ∧ Below w.heap.size w w' := by
  by_cases h : n < 2 ∨ 4294967296 < n
  · refine (r5Factors_no n w h).mono ?_
    rintro e w' ⟨rfl, rfl⟩
    exact ⟨_, [], rfl, Or.inr ⟨h, rfl⟩, World.ownsRow_nil _ _ _ _, Below.refl _ _⟩
  · obtain ⟨m, rfl⟩ : ∃ m : Nat, n = (m : Int) := ⟨n.toNat, by omega⟩
    refine (r5Factors_n m w (by omega) (by omega)).mono ?_
    rintro e w' ⟨v, zs, rfl, hf, hown, hb⟩
    exact ⟨v, zs, rfl, Or.inl ⟨by omega, by omega, by rw [Int.toNat_natCast]; exact hf⟩, hown, hb⟩
/-- what Root answers, with the error's number -/
def RtO (n : Int) (g j : Nat) : Prop := (prB n = true ∧ Rt n.toNat g ∧ j = 0) ∨ (prB n = false ∧ g = 0 ∧ j = 11)
theorem RtO.eq {n : Int} {g j h k : Nat} (a : RtO n g j) (b : RtO n h k) : g = h ∧ j = k := by
  rcases a with ⟨a1, a2, a3⟩ | ⟨a1, a2, a3⟩ <;> rcases b with ⟨b1, b2, b3⟩ | ⟨b1, b2, b3⟩
  · exact ⟨a2.eq b2, by rw [a3, b3]⟩
  · rw [a1] at b1; cases b1
  · rw [a1] at b1; cases b1
  · exact ⟨by rw [a2, b2], by rw [a3, b3]⟩
theorem prB_true {n : Int} (h : prB n = true) : 2 ≤ n ∧ n ≤ 4294967296 ∧ Nt.Pr n.toNat := by
  unfold prB at h
  rw [Bool.and_eq_true, decide_eq_true_eq] at h
  exact ⟨h.1.1, h.1.2, isP_iff.1 h.2⟩
theorem pRoot_o (n : Int) (w : World) (al : List Addr) (he : Errs w al) :
    Calls Tryd.prog 11 #[.int .i64 n] w fun e w' => ∃ (g j : Nat) (er : Value), e = .returned (.tuple #[.int .i64 g, er]) ∧ En al er j ∧ RtO n g j ∧ Below w.heap.size w w' := by
  cases hB : prB n
  · refine (pRoot_no n w al he hB).mono ?_
    rintro e w' ⟨rfl, k, rfl⟩
    exact ⟨0, 11, _, rfl, Or.inr ⟨10, by decide, rfl, rfl⟩, Or.inr ⟨hB, rfl, rfl⟩, below_drewN (Below.refl _ _) k⟩
  · obtain ⟨h2, h3, hp⟩ := prB_true hB
    obtain ⟨m, rfl⟩ : ∃ m : Nat, n = (m : Int) := ⟨n.toNat, by omega⟩
    refine (pRoot_p m w (by omega) (by omega) hp).mono ?_
    rintro e w' ⟨g, rfl, hg, hb⟩
    exact ⟨g, 0, _, rfl, Or.inl ⟨rfl, rfl⟩, Or.inl ⟨hB, hg, rfl⟩, hb⟩
theorem rRoot_o (n : Int) (w : World) :
    Calls Tryd.prog 12 #[.int .i64 n] w fun e w' => ∃ (g j : Nat), e = .returned (.tuple #[.int .i64 g, .int .i64 j]) ∧ RtO n g j ∧ Below w.heap.size w w' := by
  cases hB : prB n
  · refine (r5Root_no n w hB).mono ?_
    rintro e w' ⟨rfl, hb⟩
    exact ⟨0, 11, rfl, Or.inr ⟨hB, rfl, rfl⟩, hb⟩
  · obtain ⟨h2, h3, hp⟩ := prB_true hB
    obtain ⟨m, rfl⟩ : ∃ m : Nat, n = (m : Int) := ⟨n.toNat, by omega⟩
    refine (r5Root_p m w (by omega) (by omega) hp).mono ?_
    rintro e w' ⟨g, rfl, hg, hb⟩
    exact ⟨g, 0, rfl, Or.inl ⟨hB, hg, rfl⟩, hb⟩
set_option maxHeartbeats 2000000 in
theorem wholes_w (n m : Int) (w : World) (al : List Addr) (he : Errs w al) (hn : inI n) (hm : inI m) :
    Calls Tryd.prog 3 #[.int .i64 n, .int .i64 m] w fun e w' => e = .returned (.bool true) ∧ Below w.heap.size w w' := by
  obtain ⟨s, hs⟩ := Nt.root_ex n.toNat
  have hsH : Hid (rtOk n s) := hs
  have h0 : Hid (Errs w al) := he
  have hnH : Hid (inI n) := hn
  have hmH : Hid (inI m) := hm
  clear hs he hn hm
  go_enter Tryd.func3, Tryd.ntmps3
  go_wp2_with fail
  refine (fixed_c p5 _).mono ?_
  rintro e w1 ⟨rfl, b1⟩
  have h1 : Hid (Errs w1 al) := h0.out.below b1
  have B1 : Hid (Below w.heap.size w w1) := b1
  clear b1 h0
  go_wp2_with fail
  refine (gone_c n s hsH.out _).mono ?_
  rintro e w2 ⟨vl, rfl, ol, b2⟩
  have hl : Hid (RdI w2 vl (dvL n s)) := RdI.of_own ol
  have h2 : Hid (Errs w2 al) := h1.out.below b2
  have B2 : Hid (Below w.heap.size w w2) := B1.out.trans (b2.mono B1.out.size)
  clear b2 h1 B1 ol
  go_wp2_with fail
  refine (pRoot_o n _ al h2.out).mono ?_
  rintro e w3 ⟨g, j, er, rfl, hen, hrt, b3⟩
  have hl3 : Hid (RdI w3 vl (dvL n s)) := hl.out.below b3
  have h3 : Hid (Errs w3 al) := h2.out.below b3
  have B3 : Hid (Below w.heap.size w w3) := B2.out.trans (b3.mono B2.out.size)
  have hE : Hid (En al er j) := hen
  have hR : Hid (RtO n g j) := hrt
  clear b3 h2 B2 hl hen hrt
  go_wp2_with fail
  refine (rRoot_o n _).mono ?_
  rintro e w4 ⟨g', j', rfl, hrt, b4⟩
  obtain ⟨rfl, rfl⟩ := hR.out.eq hrt
  have hl4 : Hid (RdI w4 vl (dvL n s)) := hl3.out.below b4
  have h4 : Hid (Errs w4 al) := h3.out.below b4
  have B4 : Hid (Below w.heap.size w w4) := B3.out.trans (b4.mono B3.out.size)
  clear b4 h3 B3 hl3 hrt
  go_wp2_with fail
  refine (num_c hE.out _ h4.out).mono ?_
  rintro e w5 ⟨rfl, b5⟩
  have hl5 : Hid (RdI w5 vl (dvL n s)) := hl4.out.below b5
  have B5 : Hid (Below w.heap.size w w5) := B4.out.trans (b5.mono B4.out.size)
  clear b5 h4 B4 hl4
  go_wp2_with fail
  refine (pGcd_c n m _ hnH.out hmH.out).mono ?_
  rintro e w6 ⟨rfl, k6, rfl⟩
  have hl6 : Hid (RdI (w5.drewN k6) vl (dvL n s)) := hl5.out.drewN k6
  have B6 : Hid (Below w.heap.size w (w5.drewN k6)) := below_drewN B5.out k6
  generalize w5.drewN k6 = w6 at hl6 B6 ⊢
  clear B5 hl5
  go_wp2_with fail
  refine (r5Gcd_c n m _ hnH.out hmH.out).mono ?_
  rintro e w6' ⟨rfl, rfl⟩
  go_wp2_with fail
  refine (pFac_o n _).mono ?_
  rintro e w7 ⟨v1, zs, rfl, hz, o1, b7⟩
  have hz1 : Hid (FacO n zs) := hz
  have hr1 : Hid (RdI w7 v1 zs) := RdI.of_own o1
  have hl7 : Hid (RdI w7 vl (dvL n s)) := hl6.out.below b7
  have B7 : Hid (Below w.heap.size w w7) := B6.out.trans (b7.mono B6.out.size)
  clear b7 B6 hl6 hz o1
  go_wp2_with fail
  refine (rFac_o n _).mono ?_
  rintro e w8 ⟨v2, ys, rfl, hz, o2, b8⟩
  have ey := hz1.out.eq hz
  subst ey
  have hr2 : Hid (RdI w8 v2 zs) := RdI.of_own o2
  have hr3 : Hid (RdI w8 v1 zs) := hr1.out.below b8
  have hl8 : Hid (RdI w8 vl (dvL n s)) := hl7.out.below b8
  have B8 : Hid (Below w.heap.size w w8) := B7.out.trans (b8.mono B7.out.size)
  have hzl := hz.len
  clear b8 B7 hl7 hz o2 hr1
  go_wp2_with fail
  refine (sameInts_c v1 v2 zs zs _ hr3.out hr2.out (by omega)).mono ?_
  rintro e w9 ⟨rfl, k9, rfl⟩
  rw [show decide (zs = zs) = true from decide_eq_true rfl]
  have hl9 : Hid (RdI (w8.drewN k9) vl (dvL n s)) := hl8.out.drewN k9
  have B9 : Hid (Below w.heap.size w (w8.drewN k9)) := below_drewN B8.out k9
  generalize w8.drewN k9 = w9 at hl9 B9 ⊢
  clear B8 hl8 hr2 hr3 hzl
  go_wp2_with fail
  refine (pPrime_c n _).mono ?_
  rintro e w9' ⟨rfl, rfl⟩
  go_wp2_with fail
  refine (r5Prime_c n _).mono ?_
  rintro e w10 ⟨rfl, b10⟩
  have hl10 : Hid (RdI w10 vl (dvL n s)) := hl9.out.below b10
  have B10 : Hid (Below w.heap.size w w10) := B9.out.trans (b10.mono B9.out.size)
  clear b10 B9 hl9
  go_wp2_with fail
  refine (r5Div_c n s hsH.out _).mono ?_
  rintro e w11 ⟨v3, rfl, o3, b11⟩
  have hr4 : Hid (RdI w11 v3 (dvL n s)) := RdI.of_own o3
  have hl11 : Hid (RdI w11 vl (dvL n s)) := hl10.out.below b11
  have B11 : Hid (Below w.heap.size w w11) := B10.out.trans (b11.mono B10.out.size)
  have hfew : Hid ((dvL n s).length ≤ 5000) := dvL_few hsH.out
  clear b11 B10 hl10 o3
  go_wp2_with fail
  refine (sameInts_c vl v3 _ _ _ hl11.out hr4.out (Nat.lt_of_le_of_lt hfew.out (by decide))).mono ?_
  rintro e w12 ⟨rfl, k12, rfl⟩
  rw [decide_eq_true rfl]
  have B12 : Hid (Below w.heap.size w (w11.drewN k12)) := below_drewN B11.out k12
  generalize w11.drewN k12 = w12 at B12 ⊢
  go_wp2_with fail
  go_ret
  exact ⟨rfl, B12.out⟩
namespace primesWholes
theorem walk (x0 x1 : Int) (w : World) (l0 : -9223372036854775808 ≤ x0) (u0 : x0 ≤ 9223372036854775807) (l1 : -9223372036854775808 ≤ x1) (u1 : x1 ≤ 9223372036854775807) (hL : laidMetH Tryd.prog Rows.primesWholesRow.laid w) :
    Calls Tryd.prog 3 #[.int .i64 x0, .int .i64 x1] w fun e w' => e = .returned (.bool true) ∧ Below w.heap.size w w' := by
  obtain ⟨al, he⟩ := errs_of (W := w) hL
  exact wholes_w x0 x1 w al he ⟨l0, u0⟩ ⟨l1, u1⟩
end primesWholes
end Go.Proofs.YtkgecgkjmikihaaDoor
