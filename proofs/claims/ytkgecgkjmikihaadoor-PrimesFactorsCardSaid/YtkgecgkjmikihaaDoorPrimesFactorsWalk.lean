/-
  The walk of PrimesFactors, out of what was proved of package primes.
-/
import Derived.Test.YtkgecgkjmikihaaDoorFx5
import Derived.Test.YtkgecgkjmikihaaDoorPrimesWholesWalk
namespace Go.Proofs.YtkgecgkjmikihaaDoor
open Flo Go.RowKit

theorem prB_of {n p : Nat} (hn : n ≤ 4294967296) (hp : Nt.Pr p) (h : p ≤ n) : prB (p : Int) = true := by
  rw [prB_nat hp.1 (by omega)]; exact isP_iff.2 hp
theorem fac_one {N : Nat} {zs : List Nat} (h1 : 1 ≤ N) (h : FacO (N : Int) zs) (hl : N ≤ 4294967296) : Nt.Fac N zs := by
  rcases h with ⟨a, b, c⟩ | ⟨a, b⟩
  · rwa [Int.toNat_natCast] at c
  · have : N = 1 := by omega
    subst this; subst b
    exact ⟨rfl, by simp, List.Pairwise.nil⟩
theorem prB_len {N : Nat} {zs : List Nat} (h : Nt.Fac N zs) (h1 : 1 ≤ N) (hl : N ≤ 4294967296) : prB (N : Int) = ((zs.length : Int) == 1) := by
  rw [Bool.eq_iff_iff, beq_iff_eq]
  have hp := h.prime
  by_cases c : N = 1
  · subst c
    have e : zs = [] := by
      cases zs with
      | nil => rfl
      | cons x xs =>
        have hx := h.2.1 x (by simp)
        have hd : x ∣ Nt.prod (x :: xs) := Nt.dvd_prod_of_mem (by simp)
        rw [h.1] at hd
        have := Nat.le_of_dvd (by decide) hd
        have := hx.1
        omega
    subst e
    rw [prB_no (Or.inl (by decide))]
    simp
  · rw [prB_nat (by omega) hl, isP_iff, ← hp]
    omega
set_option maxHeartbeats 2000000 in
theorem factors_no (n : Int) (w : World) (h : n < 1 ∨ 4294967296 < n) :
    Calls Tryd.prog 6 #[.int .i64 n] w fun e w' => e = .returned (.bool true) ∧ Below w.heap.size w w' := by
  obtain ⟨s, hs⟩ := Nt.root_ex n.toNat
  have hsH : Hid (rtOk n s) := hs
  have hpB : Hid (prB n = false) := prB_no (by omega)
  have hdL : Hid (dvL n s = []) := if_neg (by omega)
  have hH : Hid (n < 1 ∨ 4294967296 < n) := h
  clear hs h
  go_enter Tryd.func6, Tryd.ntmps6
  go_wp2_with fail
  refine (fixed_c p5 _).mono ?_
  rintro e w1 ⟨rfl, b1⟩
  have B1 : Hid (Below w.heap.size w w1) := b1
  clear b1
  go_wp2_with fail
  refine (pFac_o n _).mono ?_
  rintro e w2 ⟨v1, zs, rfl, hz, o1, b2⟩
  have ez : zs = [] := by
    rcases hz with ⟨a, b, _⟩ | ⟨_, b⟩
    · have := hH.out; omega
    · exact b
  subst ez
  obtain ⟨ao1, c1, rfl, _⟩ := RdI.of_own o1
  have B2 : Hid (Below w.heap.size w w2) := B1.out.trans (b2.mono B1.out.size)
  clear b2 B1 hz o1
  go_wp2_with fail
  refine (gone_c n s hsH.out _).mono ?_
  rintro e w3 ⟨vl, rfl, ol, b3⟩
  rw [hdL.out] at ol
  obtain ⟨ao2, c2, rfl, _⟩ := RdI.of_own ol
  have B3 : Hid (Below w.heap.size w w3) := B2.out.trans (b3.mono B2.out.size)
  clear b3 B2 ol
  by_cases k1 : n < 1
  · go_wp2_with fail
    refine (pPrime_c n _).mono ?_
    rintro e w4 ⟨rfl, rfl⟩
    rw [hpB.out]
    go_wp2_with fail
    go_ret
    exact ⟨rfl, B3.out⟩
  · have d1 : decide (n < 1) = false := decide_eq_false k1
    have k2 : 4294967296 < n := by have := hH.out; omega
    go_wp2_with fail
    refine (pPrime_c n _).mono ?_
    rintro e w4 ⟨rfl, rfl⟩
    rw [hpB.out]
    go_wp2_with fail
    go_ret
    exact ⟨rfl, B3.out⟩
set_option maxRecDepth 10000 in
set_option maxHeartbeats 4000000 in
theorem factors_n (N : Nat) (w : World) (hN1 : 1 ≤ N) (hN : N ≤ 4294967296) :
    Calls Tryd.prog 6 #[.int .i64 N] w fun e w' => e = .returned (.bool true) ∧ Below w.heap.size w w' := by
  obtain ⟨s, hs⟩ := Nt.root_ex N
  have hsH : Hid (rtOk (N : Int) s) := (by unfold rtOk; rw [Int.toNat_natCast]; exact hs : rtOk (N : Int) s)
  have hdL : Hid (dvL (N : Int) s = Nt.divs N) := (by
    unfold dvL; rw [if_pos ⟨by omega, by omega⟩, Int.toNat_natCast]; exact Nt.DV_divs (by omega) hs.1 hs.2 : dvL (N : Int) s = Nt.divs N)
  have d1 : decide ((N : Int) < 1) = false := decide_eq_false (by omega)
  have d2 : decide ((4294967296 : Int) < (N : Int)) = false := decide_eq_false (by omega)
  clear hs
  go_enter Tryd.func6, Tryd.ntmps6
  go_wp2_with fail
  refine (fixed_c p5 _).mono ?_
  rintro e w1 ⟨rfl, b1⟩
  have B1 : Hid (Below w.heap.size w w1) := b1
  clear b1
  go_wp2_with fail
  refine (pFac_o (N : Int) _).mono ?_
  rintro e w2 ⟨v1, zs, rfl, hz, o1, b2⟩
  have hF : Hid (Nt.Fac N zs) := fac_one hN1 hz hN
  have hr1 : Hid (RdI w2 v1 zs) := RdI.of_own o1
  have hzl : zs.length ≤ 32 := hz.len
  have B2 : Hid (Below w.heap.size w w2) := B1.out.trans (b2.mono B1.out.size)
  clear b2 B1 hz o1
  go_wp2_with fail
  refine (gone_c (N : Int) s hsH.out _).mono ?_
  rintro e w3 ⟨vl, rfl, ol, b3⟩
  rw [hdL.out] at ol
  have hrl : Hid (RdI w3 vl (Nt.divs N)) := RdI.of_own ol
  have hr3 : Hid (RdI w3 v1 zs) := hr1.out.below b3
  have B3 : Hid (Below w.heap.size w w3) := B2.out.trans (b3.mono B2.out.size)
  clear b3 B2 ol hr1 hdL
  obtain ⟨ao1, cp1, rfl, hq1⟩ := hr3.out
  obtain ⟨ao2, cp2, rfl, hq2⟩ := hrl.out
  have hq1H : Hid (zs ≠ [] → ∃ b off, ao1 = some ⟨b, off, none⟩ ∧ b < w3.heap.size ∧ ∀ i, i < zs.length → w3.cell? ⟨b, off + i, none⟩ = some (.int .i64 ((zs.getD i 0 : Nat) : Int))) := hq1
  have hq2H : Hid (Nt.divs N ≠ [] → ∃ b off, ao2 = some ⟨b, off, none⟩ ∧ b < w3.heap.size ∧ ∀ i, i < (Nt.divs N).length → w3.cell? ⟨b, off + i, none⟩ = some (.int .i64 (((Nt.divs N).getD i 0 : Nat) : Int))) := hq2
  clear hr3 hrl hq1 hq2
  go_wp2_with fail
  clear d1 d2
  go_loop [6, 7, 8, 9, 11, 46] (fun s6 s7 s8 s9 _ si => ∃ (P l c r i : Nat), i ≤ zs.length ∧ s6 = .int .i64 (P : Int) ∧ s7 = .int .i64 (l : Int) ∧ s8 = .int .i64 (c : Int) ∧ s9 = .int .i64 (r : Int) ∧ si = .int .i64 (i : Int) ∧ Hid (P = Nt.prod (zs.take i) ∧ Nt.Cnt (zs.take i) c r l ∧ (l = 0 ∨ l ∈ zs.take i))) (fun _ _ _ _ _ si => zs.length - (intOf si).toNat)
  case atStart => exact ⟨1, 0, 1, 0, 0, Nat.zero_le _, rfl, rfl, rfl, rfl, rfl, rfl, Nt.Cnt.start, Or.inl rfl⟩
  case round =>
    obtain ⟨P, l, c, r, i, hi, rfl, rfl, rfl, rfl, rfl, hI⟩ := hrel
    have hfit : c * (r + 1) ≤ 5000 := hI.out.2.1.fits hF.out hN
    have hPl : P ≤ N := by rw [hI.out.1]; exact (Nt.prod_take_le hF.out i).1
    by_cases hlt : i < zs.length
    · have hlt' : (i : Int) < (zs.length : Int) := by omega
      obtain ⟨b, off, rfl, hb, hcell⟩ := hq1H.out (fun e => by rw [e] at hlt; simp at hlt)
      have c1 : w3.cell? ⟨b, off + i, none⟩ = some (.int .i64 ((zs.getD i 0 : Nat) : Int)) := hcell i hlt
      have hsn := Nt.take_snoc hlt
      have hmem : zs.getD i 0 ∈ zs := by simp [List.getD, hlt]
      have hpr : Nt.Pr (zs.getD i 0) := hF.out.2.1 _ hmem
      have hle : l ≤ zs.getD i 0 := Nt.fac_le hF.out hlt hI.out.2.2
      have hP' : Nt.prod (zs.take (i + 1)) = P * zs.getD i 0 := by rw [hsn, Nt.prod_append, Nt.prod_one, hI.out.1]
      have hPl' : P * zs.getD i 0 ≤ N := by rw [← hP']; exact (Nt.prod_take_le hF.out (i + 1)).1
      clear hcell hmem
      generalize zs.getD i 0 = p at *
      have hp2 : 2 ≤ p := hpr.1
      have hpN : p ≤ N := by
        have hP0 : 0 < P := by rw [hI.out.1]; exact (Nt.prod_take_le hF.out i).2
        have := Nat.mul_le_mul_right p hP0
        omega
      have hpB : Hid (prB (p : Int) = true) := prB_of hN hpr hpN
      have e1 : decide ((p : Int) < (l : Int)) = false := decide_eq_false (by omega)
      have e2 : decide ((p : Int) < 2) = false := decide_eq_false (by omega)
      have e3 : decide ((N : Int) < (P : Int)) = false := decide_eq_false (by omega)
      obtain ⟨Q, hQ⟩ : ∃ Q : Nat, Q = P * p := ⟨_, rfl⟩
      rw [← hQ] at hP' hPl'
      have eQ : Hid (wrap64 ((P : Int) * (p : Int)) = (Q : Int)) := (by rw [castMul, ← hQ]; unfold wrap64; omega : wrap64 ((P : Int) * (p : Int)) = (Q : Int))
      clear hQ
      have hrl : r ≤ 5000 ∧ c ≤ 5000 := by
        rcases Nat.eq_zero_or_pos c with h | h
        · exfalso
          have := hI.out.2.1.total fun x hx => hF.out.2.1 x (List.mem_of_mem_take hx)
          have h3 := (Nt.prod_take_le hF.out i).2
          have h4 : 1 ∈ Nt.divs (Nt.prod (zs.take i)) := (Nt.mem_divs h3).2 (Nat.one_dvd _)
          have := List.length_pos_of_mem h4
          rw [h] at *
          omega
        · have h1 := Nat.mul_le_mul_right (r + 1) h
          have h2 : c * 1 ≤ c * (r + 1) := Nat.mul_le_mul_left c (by omega)
          omega
      by_cases hpl : p = l
      · have f1 : ((p : Int) == (l : Int)) = true := beq_iff_eq.2 (by omega)
        have f2 : ((p : Int) != (l : Int)) = false := by simp [bne, f1]
        have hnew : Hid (Q = Nt.prod (zs.take (i + 1)) ∧ Nt.Cnt (zs.take (i + 1)) c (r + 1) p ∧ (p = 0 ∨ p ∈ zs.take (i + 1))) := (by
          refine ⟨hP'.symm, ?_, Or.inr (by rw [hsn]; simp)⟩
          rw [hsn, hpl]; exact hI.out.2.1.same : Q = Nt.prod (zs.take (i + 1)) ∧ Nt.Cnt (zs.take (i + 1)) c (r + 1) p ∧ (p = 0 ∨ p ∈ zs.take (i + 1)))
        clear hP' hsn hI hpl hpr
        go_wp2_with fail
        refine (pPrime_c (p : Int) _).mono ?_
        rintro e w4 ⟨rfl, rfl⟩
        rw [hpB.out]
        have eQ' := eQ.out
        go_wp2_with fail
        clear eQ'
        go_round
        case rel => exact ⟨Q, p, c, r + 1, i + 1, by omega, by first | rfl | rw [eQ.out], rfl, rfl, by go_num, by go_num, hnew⟩
        case measure => simp [intOf]; omega
      · have f1 : ((p : Int) == (l : Int)) = false := beq_eq_false_iff_ne.2 (by omega)
        have f2 : ((p : Int) != (l : Int)) = true := by simp [bne, f1]
        have hnew : Hid (Q = Nt.prod (zs.take (i + 1)) ∧ Nt.Cnt (zs.take (i + 1)) (c * (r + 1)) 1 p ∧ (p = 0 ∨ p ∈ zs.take (i + 1))) := (by
          refine ⟨hP'.symm, ?_, Or.inr (by rw [hsn]; simp)⟩
          rw [hsn]; exact hI.out.2.1.next (fun x hx => hF.out.2.1 x (List.mem_of_mem_take hx)) (by omega) : Q = Nt.prod (zs.take (i + 1)) ∧ Nt.Cnt (zs.take (i + 1)) (c * (r + 1)) 1 p ∧ (p = 0 ∨ p ∈ zs.take (i + 1)))
        obtain ⟨C, hC⟩ : ∃ C : Nat, C = c * (r + 1) := ⟨_, rfl⟩
        rw [← hC] at hnew hfit
        have eC : Hid (wrap64 ((c : Int) * ((r : Int) + 1)) = (C : Int)) := (by
          rw [show (r : Int) + 1 = ((r + 1 : Nat) : Int) by omega, castMul, ← hC]; unfold wrap64; omega : wrap64 ((c : Int) * ((r : Int) + 1)) = (C : Int))
        clear hP' hsn hI hpl hpr hC
        go_wp2_with fail
        refine (pPrime_c (p : Int) _).mono ?_
        rintro e w4 ⟨rfl, rfl⟩
        rw [hpB.out]
        have eQ' := eQ.out
        have eC' := eC.out
        go_wp2_with fail
        clear eQ' eC'
        go_round
        case rel => exact ⟨Q, p, C, 1, i + 1, by omega, by first | rfl | rw [eQ.out], rfl, by first | rfl | rw [eC.out], by first | rfl | go_num, by go_num, hnew⟩
        case measure => simp [intOf]; omega
    · have hlt' : decide ((i : Int) < (zs.length : Int)) = false := decide_eq_false (by omega)
      have ei : i = zs.length := by omega
      subst ei
      have hPN : P = N := by have := hI.out.1; rw [List.take_length] at this; rw [this]; exact hF.out.1
      have hC0 : c * (r + 1) = (Nt.divs N).length := by
        have h1 := hI.out.2.1
        rw [List.take_length] at h1
        have := h1.total hF.out.2.1
        rwa [hF.out.1] at this
      have hrl : r ≤ 5000 := by
        have h0 : 0 < (Nt.divs N).length := List.length_pos_of_mem ((Nt.mem_divs (by omega)).2 (Nat.one_dvd N))
        rcases Nat.eq_zero_or_pos c with h | h
        · rw [h] at hC0; omega
        · have h1 := Nat.mul_le_mul_right (r + 1) h
          omega
      subst hPN
      have eC : Hid (wrap64 ((c : Int) * ((r : Int) + 1)) = ((Nt.divs P).length : Int)) := (by
        rw [show (r : Int) + 1 = ((r + 1 : Nat) : Int) by omega, castMul, hC0]; unfold wrap64; omega : wrap64 ((c : Int) * ((r : Int) + 1)) = ((Nt.divs P).length : Int))
      have hpl : Hid (prB (P : Int) = ((zs.length : Int) == 1)) := prB_len hF.out hN1 hN
      have hdl : (Nt.divs P).length ≤ 5000 := by omega
      clear hI hC0 hfit hPl
      have eC' := eC.out
      go_wp2_with fail
      clear eC'
      refine (pPrime_c (P : Int) _).mono ?_
      rintro e w4 ⟨rfl, rfl⟩
      rw [hpl.out]
      have eC'' := eC.out
      go_wp2_with fail
      clear eC''
      have hpos : 0 < (Nt.divs P).length := List.length_pos_of_mem ((Nt.mem_divs (by omega)).2 (Nat.one_dvd P))
      obtain ⟨b, off, rfl, hb, hcell⟩ := hq2H.out (fun e => by rw [e] at hpos; simp at hpos)
      have hcH : Hid (∀ i, i < (Nt.divs P).length → w3.cell? ⟨b, off + i, none⟩ = some (.int .i64 (((Nt.divs P).getD i 0 : Nat) : Int))) := hcell
      have hA : Hid (∀ i, i < (Nt.divs P).length → (Nt.divs P).getD ((Nt.divs P).length - 1 - i) 0 = P / (Nt.divs P).getD i 0) := fun i hi => Nt.divs_across (by omega) hi
      have hR : Hid (∀ i, i + 1 < (Nt.divs P).length → (Nt.divs P).getD i 0 < (Nt.divs P).getD (i + 1) 0) := fun i hi => Nt.divs_rise hi
      have hV : Hid (∀ i, i < (Nt.divs P).length → 1 ≤ (Nt.divs P).getD i 0 ∧ (Nt.divs P).getD i 0 ≤ P ∧ P % (Nt.divs P).getD i 0 = 0) := fun i hi => Nt.divs_at (by omega) hi
      clear hcell hq2H eC hpl hrl
      generalize Nt.divs P = L at *
      go_loopw [12, 13, 104] (fun _ _ si wx => ∃ i k : Nat, i ≤ L.length ∧ si = .int .i64 (i : Int) ∧ wx = w3.drewN k) (fun _ _ si _ => L.length - (intOf si).toNat)
      case atStart => exact ⟨0, 0, Nat.zero_le _, rfl, rfl⟩
      case round =>
        obtain ⟨i, k, hi, rfl, rfl⟩ := hrel
        by_cases hlt2 : i < L.length
        · have hlt3 : (i : Int) < (L.length : Int) := by omega
          have cx : (w3.drewN k).cell? ⟨b, off + i, none⟩ = some (.int .i64 ((L.getD i 0 : Nat) : Int)) := hcH.out i hlt2
          obtain ⟨j, hj⟩ : ∃ j : Nat, j = L.length - 1 - i := ⟨_, rfl⟩
          have cy : (w3.drewN k).cell? ⟨b, off + j, none⟩ = some (.int .i64 ((L.getD j 0 : Nat) : Int)) := hcH.out j (by omega)
          obtain ⟨v1, v2, v3⟩ := hV.out i hlt2
          have hy := hA.out i hlt2
          rw [← hj] at hy
          have ej : (L.length : Int) - 1 - (i : Int) = (j : Int) := by omega
          have hjl : j < L.length := by omega
          obtain ⟨x, hx⟩ : ∃ x, L.getD i 0 = x := ⟨_, rfl⟩
          have hxe : Hid (L.getD i 0 = x) := hx
          rw [hx] at cx v1 v2 v3 hy
          clear hx
          generalize L.getD j 0 = y at hy cy
          subst hy
          have x1 : decide ((x : Int) < 1) = false := decide_eq_false (by omega)
          have xz : ((x : Int) == 0) = false := beq_eq_false_iff_ne.2 (by omega)
          have m1 : ((P : Int) % (x : Int) == 0) = true := by rw [beq_iff_eq]; omega
          have m2 : ((P : Int) % (x : Int) != 0) = false := by simp [bne, m1]
          obtain ⟨q, hq⟩ : ∃ q : Nat, q = P / x := ⟨_, rfl⟩
          have hqP : q ≤ P := by rw [hq]; exact Nat.div_le_self _ _
          have eq1 : Hid (wrap64 ((P : Int) / (x : Int)) = (q : Int)) := (by
            rw [show (P : Int) / (x : Int) = ((P / x : Nat) : Int) from rfl, ← hq]; unfold wrap64; omega : wrap64 ((P : Int) / (x : Int)) = (q : Int))
          have eq2 : Hid ((P : Int) / (x : Int) = (q : Int)) := (by rw [hq]; rfl : (P : Int) / (x : Int) = (q : Int))
          have eq3 : Hid (wrap64 (q : Int) = (q : Int)) := (by unfold wrap64; omega : wrap64 (q : Int) = (q : Int))
          rw [← hq] at cy
          clear hq hj v3
          generalize hw1 : w3.drewN k = w5 at cx cy ⊢
          have hw : Hid (w3.drewN k = w5) := hw1
          clear hw1
          by_cases hi0 : i = 0
          · subst hi0
            rw [Nat.add_zero] at cx
            have ej2 : (L.length : Int) - 1 = (j : Int) := by omega
            have eq1' := eq1.out
            have eq2' := eq2.out
            go_wp2_with fail
            go_quiet (fail)
            clear eq1' eq2'
            go_wp2_with fail
            go_roundw
            case rel => exact ⟨1, k + nq, by omega, by go_num, by rw [← hw.out, World.drewN_drewN]⟩
            case measure => simp [intOf]; omega
          · obtain ⟨i', rfl⟩ : ∃ i', i = i' + 1 := ⟨i - 1, by omega⟩
            have hr := hR.out i' hlt2
            have cz : w5.cell? ⟨b, off + i', none⟩ = some (.int .i64 ((L.getD i' 0 : Nat) : Int)) := by rw [← hw.out]; exact hcH.out i' (by omega)
            rw [hxe.out] at hr
            generalize L.getD i' 0 = z at hr cz
            have z1 : decide ((x : Int) ≤ (z : Int)) = false := decide_eq_false (by omega)
            have z2 : ¬ x ≤ z := by omega
            have z3 : (0 : Int) < ((i' + 1 : Nat) : Int) := by omega
            have z4 : (i' : Int) < (L.length : Int) := by omega
            have ej3 : (L.length : Int) - 1 - ((i' : Int) + 1) = (j : Int) := by omega
            have z5 : (i' : Int) + 1 < (L.length : Int) := by omega
            have z6 : (0 : Int) < (i' : Int) + 1 := by omega
            clear ej z3 hlt3 hi0 hr
            have eq1' := eq3.out
            have eq2' := eq2.out
            go_wp2_with fail
            go_quiet (fail)
            clear eq1' eq2'
            go_wp2_with fail
            go_roundw
            case rel => exact ⟨i' + 2, k + nq, by omega, by go_num, by rw [← hw.out, World.drewN_drewN]⟩
            case measure => simp [intOf]; omega
        · have hlt3 : decide ((i : Int) < (L.length : Int)) = false := decide_eq_false (by omega)
          go_wp2_with fail
          go_ret
          exact ⟨rfl, below_drewN B3.out k⟩
theorem factors_w (n : Int) (w : World) :
    Calls Tryd.prog 6 #[.int .i64 n] w fun e w' => e = .returned (.bool true) ∧ Below w.heap.size w w' := by
  by_cases h : n < 1 ∨ 4294967296 < n
  · exact factors_no n w h
  · obtain ⟨N, rfl⟩ : ∃ N : Nat, n = (N : Int) := ⟨n.toNat, by omega⟩
    exact factors_n N w (by omega) (by omega)
namespace primesFactors
theorem walk (x0 : Int) (w : World) (_l0 : -9223372036854775808 ≤ x0) (_u0 : x0 ≤ 9223372036854775807) (_hL : laidMetH Tryd.prog Rows.primesFactorsRow.laid w) :
    Calls Tryd.prog 6 #[.int .i64 x0] w fun e w' => e = .returned (.bool true) ∧ Below w.heap.size w w' := factors_w x0 w
end primesFactors
end Go.Proofs.YtkgecgkjmikihaaDoor
