/-
  Noughts: sums, differences and products of noughts are noughts; the butterflies of noughts.
-/
import Derived.Test.YtonfdfmhnamimaaDoorFl4
namespace Go.Proofs.YtonfdfmhnamimaaDoor
open Flo Go.RowKit
def Nz (z : Nat × Nat) : Prop := (z.1 = 0 ∨ z.1 = 9223372036854775808) ∧ (z.2 = 0 ∨ z.2 = 9223372036854775808)
theorem nz_co {o : BinOp} (ho : o = .add ∨ o = .sub) {x y : Nat} (hx : x = 0 ∨ x = 9223372036854775808) (hy : y = 0 ∨ y = 9223372036854775808) : (co o x y = 0 ∨ co o x y = 9223372036854775808) := by
  rcases ho with rfl | rfl <;> rcases hx with rfl | rfl <;> rcases hy with rfl | rfl <;> decide +kernel
theorem nz_mul {f x : Nat} (hf : f = 4605975682916830378 ∨ f = 4602678819172646912 ∨ f = 4599238375200778576 ∨ f = 13828834233668859048 ∨ f = 4606741575090066687 ∨ f = 4603469518431672926) (hx : x = 0 ∨ x = 9223372036854775808) : (co .mul x f = 0 ∨ co .mul x f = 9223372036854775808) := by
  rcases hf with rfl | rfl | rfl | rfl | rfl | rfl <;> rcases hx with rfl | rfl <;> decide +kernel
theorem nz_nan {x : Nat} (hx : x = 0 ∨ x = 9223372036854775808) : nanB x = false := by
  rcases hx with rfl | rfl <;> decide
theorem nz_ng {x : Nat} (hx : x = 0 ∨ x = 9223372036854775808) : Ari.ng x = 0 ∨ Ari.ng x = 9223372036854775808 := by
  rcases hx with rfl | rfl <;> decide
theorem nz_lt {x : Nat} (hx : x = 0 ∨ x = 9223372036854775808) : x < 18446744073709551616 := by
  rcases hx with rfl | rfl <;> decide
theorem nz_ord {x : Nat} (hx : x = 0 ∨ x = 9223372036854775808) : FloatKind.f64.format.order x 0 = some .eq := by
  rcases hx with rfl | rfl <;> decide +kernel
theorem nz_adc {x y : Nat × Nat} (hx : Nz x) (hy : Nz y) : Nz (adc x y) := ⟨nz_co (.inl rfl) hx.1 hy.1, nz_co (.inl rfl) hx.2 hy.2⟩
theorem nz_sbc {x y : Nat × Nat} (hx : Nz x) (hy : Nz y) : Nz (sbc x y) := ⟨nz_co (.inr rfl) hx.1 hy.1, nz_co (.inr rfl) hx.2 hy.2⟩
theorem nz_mic {x : Nat × Nat} (hx : Nz x) : Nz (mic x) := ⟨hx.2, nz_ng hx.1⟩
theorem nz_tic {x : Nat × Nat} (hx : Nz x) : Nz (tic x) := ⟨nz_ng hx.2, hx.1⟩
theorem Lw.nz {y z : Nat × Nat} (h : Lw y z) (hz : Nz z) : Nz y := by rw [h.eq (nz_nan hz.1) (nz_nan hz.2)]; exact hz
theorem csA {x y : Nat × Nat} (hx : Nz x) (hy : Nz y) : ∃ z1 z2, Cs .add x y (z1, z2) ∧ Nz (z1, z2) :=
  ⟨_, _, ⟨rfl, rfl, nz_nan (nz_co (.inl rfl) hx.1 hy.1), nz_nan (nz_co (.inl rfl) hx.2 hy.2)⟩, nz_adc hx hy⟩
theorem csS {x y : Nat × Nat} (hx : Nz x) (hy : Nz y) : ∃ z1 z2, Cs .sub x y (z1, z2) ∧ Nz (z1, z2) :=
  ⟨_, _, ⟨rfl, rfl, nz_nan (nz_co (.inr rfl) hx.1 hy.1), nz_nan (nz_co (.inr rfl) hx.2 hy.2)⟩, nz_sbc hx hy⟩
theorem ctZ {f : Nat} {x : Nat × Nat} (hf : f = 4605975682916830378 ∨ f = 4602678819172646912 ∨ f = 4599238375200778576 ∨ f = 13828834233668859048 ∨ f = 4606741575090066687 ∨ f = 4603469518431672926) (hx : Nz x) : ∃ z1 z2, Ct f x (z1, z2) ∧ Nz (z1, z2) :=
  ⟨_, _, ⟨rfl, rfl, nz_nan (nz_mul hf hx.1), nz_nan (nz_mul hf hx.2)⟩, nz_mul hf hx.1, nz_mul hf hx.2⟩
theorem two_z {a1 a2 b1 b2 : Nat} (ha : Nz (a1, a2)) (hb : Nz (b1, b2)) (w : World) : Calls Tryd.prog 9 #[.agg #[.complex .f64 a1 a2, .complex .f64 b1 b2]] w fun e w' => ∃ x1 x2 y1 y2, e = .returned (.agg #[.complex .f64 x1 x2, .complex .f64 y1 y2]) ∧ Hid (Nz (x1, x2) ∧ Nz (y1, y2)) ∧ Below w.heap.size w w' := by
  refine (flyTwo_c _ _ _ _ w).mono ?_
  rintro e w' ⟨y0, y1, rfl, l0, l1, B⟩
  exact ⟨_, _, _, _, rfl, ⟨l0.nz (nz_adc ha hb), l1.nz (nz_sbc ha hb)⟩, B⟩
theorem four_z {a1 a2 b1 b2 c1 c2 d1 d2 : Nat} (ha : Nz (a1, a2)) (hb : Nz (b1, b2)) (hc : Nz (c1, c2)) (hd : Nz (d1, d2)) (w : World) : Calls Tryd.prog 10 #[.agg #[.complex .f64 a1 a2, .complex .f64 b1 b2, .complex .f64 c1 c2, .complex .f64 d1 d2]] w fun e w' => ∃ x1 x2 y1 y2 u1 u2 v1 v2, e = .returned (.agg #[.complex .f64 x1 x2, .complex .f64 y1 y2, .complex .f64 u1 u2, .complex .f64 v1 v2]) ∧ Hid (Nz (x1, x2) ∧ Nz (y1, y2) ∧ Nz (u1, u2) ∧ Nz (v1, v2)) ∧ Below w.heap.size w w' := by
  refine (flyFour_c _ _ _ _ _ _ _ _ w).mono ?_
  rintro e w' ⟨y0, y1, y2, y3, rfl, l0, l1, l2, l3, B⟩
  exact ⟨_, _, _, _, _, _, _, _, rfl, ⟨l0.nz (nz_adc (nz_adc ha hc) (nz_adc hb hd)), l1.nz (nz_adc (nz_sbc ha hc) (nz_mic (nz_sbc hb hd))), l2.nz (nz_sbc (nz_adc ha hc) (nz_adc hb hd)), l3.nz (nz_adc (nz_sbc ha hc) (nz_tic (nz_sbc hb hd)))⟩, B⟩
theorem three_z {a1 a2 b1 b2 c1 c2 : Nat} (ha : Nz (a1, a2)) (hb : Nz (b1, b2)) (hc : Nz (c1, c2)) (w : World) : Calls Tryd.prog 12 #[.agg #[.complex .f64 a1 a2, .complex .f64 b1 b2, .complex .f64 c1 c2]] w fun e w' => ∃ x1 x2 y1 y2 u1 u2, e = .returned (.agg #[.complex .f64 x1 x2, .complex .f64 y1 y2, .complex .f64 u1 u2]) ∧ Hid (Nz (x1, x2) ∧ Nz (y1, y2) ∧ Nz (u1, u2)) ∧ Below w.heap.size w w' := by
  obtain ⟨t1, t2, Ht, nt⟩ := csA hb hc
  obtain ⟨d1, d2, Hd, nd⟩ := csS hb hc
  obtain ⟨u1, u2, Hu, nu⟩ := ctZ (f := 4605975682916830378) (.inl rfl) nd
  obtain ⟨s1, s2, Hs, ns⟩ := ctZ (f := 4602678819172646912) (.inr (.inl rfl)) nt
  obtain ⟨m1, m2, Hm, nm⟩ := csS ha ns
  obtain ⟨x1, x2, G0, n0⟩ := csA ha nt
  obtain ⟨y1, y2, G1, n1⟩ := csA nm (nz_mic nu)
  obtain ⟨z1, z2, G2, n2⟩ := csA nm (nz_tic nu)
  refine (flyThree_f _ _ _ _ _ _ _ _ _ _ _ _ _ _ _ _ _ _ _ _ _ _ Ht Hd Hu Hs Hm G0 G1 G2 w).mono ?_
  rintro e w' ⟨rfl, B⟩
  exact ⟨_, _, _, _, _, _, rfl, ⟨n0, n1, n2⟩, B⟩
theorem five_z {a1 a2 b1 b2 c1 c2 d1 d2 e1 e2 : Nat} (ha : Nz (a1, a2)) (hb : Nz (b1, b2)) (hc : Nz (c1, c2)) (hd : Nz (d1, d2)) (he : Nz (e1, e2)) (w : World) : Calls Tryd.prog 17 #[.agg #[.complex .f64 a1 a2, .complex .f64 b1 b2, .complex .f64 c1 c2, .complex .f64 d1 d2, .complex .f64 e1 e2]] w fun e w' => ∃ x1 x2 y1 y2 u1 u2 v1 v2 s1 s2, e = .returned (.agg #[.complex .f64 x1 x2, .complex .f64 y1 y2, .complex .f64 u1 u2, .complex .f64 v1 v2, .complex .f64 s1 s2]) ∧ Hid (Nz (x1, x2) ∧ Nz (y1, y2) ∧ Nz (u1, u2) ∧ Nz (v1, v2) ∧ Nz (s1, s2)) ∧ Below w.heap.size w w' := by
  obtain ⟨t1, t2, Ht, nt⟩ := csA hb he
  obtain ⟨u1, u2, Hu, nu⟩ := csS hb he
  obtain ⟨v1, v2, Hv, nv⟩ := csA hc hd
  obtain ⟨k1, k2, Hk, nk⟩ := csS hc hd
  obtain ⟨p1, p2, A1, np⟩ := ctZ (f := 4599238375200778576) (by simp) nt
  obtain ⟨q1, q2, A2, nq⟩ := ctZ (f := 13828834233668859048) (by simp) nv
  obtain ⟨r1, r2, A3, nr⟩ := csA np nq
  obtain ⟨m1, m2, Hm, nm⟩ := csA ha nr
  obtain ⟨pa, pb, B1, np'⟩ := ctZ (f := 13828834233668859048) (by simp) nt
  obtain ⟨qa, qb, B2, nq'⟩ := ctZ (f := 4599238375200778576) (by simp) nv
  obtain ⟨ra, rb, B3, nr'⟩ := csA np' nq'
  obtain ⟨n1, n2, Hn, nn⟩ := csA ha nr'
  obtain ⟨i1, i2, D1, ni⟩ := ctZ (f := 4606741575090066687) (by simp) nu
  obtain ⟨j1, j2, D2, nj⟩ := ctZ (f := 4603469518431672926) (by simp) nk
  obtain ⟨g1, g2, Hg, ng⟩ := csA ni nj
  obtain ⟨ia, ib, E1, ni'⟩ := ctZ (f := 4603469518431672926) (by simp) nu
  obtain ⟨ja, jb, E2, nj'⟩ := ctZ (f := 4606741575090066687) (by simp) nk
  obtain ⟨h1, h2, Hh, nh⟩ := csS ni' nj'
  obtain ⟨f1, f2, F0, nf⟩ := csA nt nv
  obtain ⟨x1, x2, G0, m0⟩ := csA ha nf
  obtain ⟨y1, y2, G1, m1'⟩ := csA nm (nz_mic ng)
  obtain ⟨z1, z2, G2, m2'⟩ := csA nn (nz_mic nh)
  obtain ⟨o1, o2, G3, m3'⟩ := csA nn (nz_tic nh)
  obtain ⟨l1, l2, G4, m4'⟩ := csA nm (nz_tic ng)
  refine (flyFive_f _ _ _ _ _ _ _ _ _ _ _ _ _ _ _ _ _ _ _ _ _ _ _ _ _ _ _ _ _ _ _ _ _ _ _ _ _ _ _ _ _ _ _ _ _ _ _ _ _ _ _ _ _ _ _ _ _ _ Ht Hu Hv Hk A1 A2 A3 Hm B1 B2 B3 Hn D1 D2 Hg E1 E2 Hh F0 G0 G1 G2 G3 G4 w).mono ?_
  rintro e w' ⟨rfl, B⟩
  exact ⟨_, _, _, _, _, _, _, _, _, _, rfl, ⟨m0, m1', m2', m3', m4'⟩, B⟩
end Go.Proofs.YtonfdfmhnamimaaDoor
