/-
  The walk of the statement PrimesRoots, out of the contracts of package primes.
-/
import Derived.Test.YtkgecgkjmikihabDoorLy5
namespace Go.Proofs.YtkgecgkjmikihabDoor
open Flo Go.RowKit Go.Lib

theorem prB_is {p : Int} (h : prB p = true) : ∃ P : Nat, p = (P : Int) ∧ 2 ≤ P ∧ P ≤ 4294967296 ∧ Nt.Pr P := by
  unfold prB at h
  rw [Bool.and_eq_true, decide_eq_true_eq] at h
  exact ⟨p.toNat, by omega, by omega, by omega, isP_iff.1 h.2⟩
theorem powP_x (H : P5) (a x m : Int) (a' x' m' : Nat) (w : World) (ea : a = (a' : Int)) (ex : x = (x' : Int)) (em : m = (m' : Int)) (ha : a' < 18446744073709551616) (hx : x' < 18446744073709551616) (hm : m' < 18446744073709551616) :
    Calls Tryd.prog 11 #[.int .u64 a, .int .u64 x, .int .u64 m] w fun e w' => e = .returned (.int .u64 (pw a' x' m' : Nat)) ∧ ∃ k, w' = w.drewN k := by
  subst ea ex em; exact H.pow a' x' m' w ha hx hm
/-- Factors of p - 1, in one sentence for p = 2 too -/
theorem pFactors_p (H : P5) (p : Nat) (w : World) (h2 : 2 ≤ p) (hp : p ≤ 4294967296) :
    Calls Tryd.prog 10 #[.int .i64 ((p : Int) - 1)] w fun e w' => ∃ v zs, e = .returned v ∧ Fq p zs ∧ zs.length ≤ 32 ∧ w'.ownsRow w.heap.size 3 1 v zs.length (il zs) ∧ Below w.heap.size w w' := by
  by_cases h : p = 2
  · subst h
    refine (H.factorsNo _ w (Or.inl (by omega))).mono ?_
    rintro e w' ⟨v, rfl, hown, hb⟩
    exact ⟨v, [], rfl, Fq_two, by simp, hown, hb⟩
  · have e1 : (p : Int) - 1 = ((p - 1 : Nat) : Int) := by omega
    rw [e1]
    refine (H.factors (p - 1) w (by omega) (by omega)).mono ?_
    rintro e w' ⟨v, zs, rfl, hf, hown, hbl⟩
    exact ⟨v, zs, rfl, Fq_of hf, hf.len (by omega), hown, hbl⟩
set_option maxHeartbeats 2000000 in
theorem roots_no (H : P5) (p : Int) (w : World) (al : List Addr) (he : Errs w al) (hp : inI p) (h : prB p = false) :
    Calls Tryd.prog 3 #[.int .i64 p] w fun e w' => e = .returned (.bool true) ∧ Below w.heap.size w w' := by
  have hi : Hid P5 := H
  have h0 : Hid (Errs w al) := he
  have hN : Hid (prB p = false) := h
  clear H he h
  go_enter Tryd.func3, Tryd.ntmps3
  go_wp2_with (go_at_call 6; refine (fixed_c hi.out _).mono ?_; rintro e w1 ⟨rfl, b1⟩)
  have h1 : Hid (Errs w1 al) := h0.out.below b1
  have B1 : Hid (Below w.heap.size w w1) := b1
  clear b1 h0
  refine (hi.out.rootNo _ _ al h1.out hp hN.out).mono ?_
  rintro e w2 ⟨rfl, b2⟩
  have h2 : Hid (Errs w2 al) := h1.out.below b2
  have B2 : Hid (Below w.heap.size w w2) := B1.out.trans (b2.mono B1.out.size)
  clear b2 h1 B1
  go_wp2_with fail
  refine (hi.out.prime _ _ hp).mono ?_
  rintro e w3 ⟨rfl, b3⟩
  rw [hN.out]
  have h3 : Hid (Errs w3 al) := h2.out.below b3
  have B3 : Hid (Below w.heap.size w w3) := B2.out.trans (b3.mono B2.out.size)
  clear b3 h2 B2
  go_wp2_with fail
  refine (num_err al 10 (by decide) _ h3.out).mono ?_
  rintro e w4 ⟨rfl, b4⟩
  go_wp2_with fail
  go_ret
  exact ⟨rfl, B3.out.trans (b4.mono B3.out.size)⟩
set_option maxHeartbeats 4000000 in
theorem roots_p (H : P5) (p : Nat) (w : World) (h2 : 2 ≤ p) (hp : p ≤ 4294967296) (hP : Nt.Pr p) :
    Calls Tryd.prog 3 #[.int .i64 p] w fun e w' => e = .returned (.bool true) ∧ Below w.heap.size w w' := by
  have hi : Hid P5 := H
  have hPH : Hid (Nt.Pr p) := hP
  have hB : Hid (prB (p : Int) = true) := (by rw [prB_nat h2 hp]; exact isP_iff.2 hP : prB (p : Int) = true)
  have hin : Hid (inI (p : Int)) := ⟨by omega, by omega⟩
  clear H hP
  go_enter Tryd.func3, Tryd.ntmps3
  go_wp2_with (go_at_call 6; refine (fixed_c hi.out _).mono ?_; rintro e w1 ⟨rfl, b1⟩)
  refine (hi.out.rootOk _ _ h2 hp hPH.out).mono ?_
  rintro e w2 ⟨g, rfl, hg, b2⟩
  have B2 : Hid (Below w.heap.size w w2) := b1.trans (b2.mono b1.size)
  have hR : Hid (Rt p g) := hg
  have g1 := hg.1
  have gp := hg.2.1
  clear b1 b2 hg
  go_wp2_with fail
  refine (hi.out.prime _ _ hin.out).mono ?_
  rintro e w3 ⟨rfl, b3⟩
  rw [hB.out]
  have B3 : Hid (Below w.heap.size w w3) := B2.out.trans (b3.mono B2.out.size)
  clear b3 B2
  have t1 : decide ((g : Int) < 1) = false := decide_eq_false (by omega)
  have t2 : decide ((p : Int) ≤ (g : Int)) = false := decide_eq_false (by omega)
  have t3 : ¬ p ≤ g := by omega
  go_wp2_with fail
  refine (pFactors_p hi.out p _ h2 hp).mono ?_
  rintro e w4 ⟨v, zs, rfl, hfq, hl, hown, b4⟩
  obtain ⟨ao, cap, rfl, hrd⟩ := RdI.of_own hown
  have hF : Hid (Fq p zs) := hfq
  have hC : Hid (zs ≠ [] → ∃ b off, ao = some ⟨b, off, none⟩ ∧ b < w4.heap.size ∧ ∀ i, i < zs.length → w4.cell? ⟨b, off + i, none⟩ = some (.int .i64 ((zs.getD i 0 : Nat) : Int))) := hrd
  have B4 : Hid (Below w.heap.size w w4) := B3.out.trans (b4.mono B3.out.size)
  clear hfq hown hrd b4 B3 t1 t2 t3
  go_wp2_with fail
  go_loopw [6, 7, 9] (fun sh _ _ wx => ∃ h k : Nat, 1 ≤ h ∧ h ≤ g + 1 ∧ sh = .int .i64 h ∧ wx = w4.drewN k) (fun sh _ _ _ => (g + 2) - (intOf sh).toNat)
  case atStart => exact ⟨1, 0, Nat.le_refl _, by omega, rfl, rfl⟩
  case round =>
    obtain ⟨h, k, h1, hg, rfl, rfl⟩ := hrel
    by_cases hle : h ≤ g
    · have hle' : (h : Int) ≤ (g : Int) := by omega
      go_wp2_with fail
      go_loopw [7, 9, 52] (fun so _ si wx => ∃ i k' : Nat, i ≤ zs.length ∧ so = .bool (lookB p h (zs.take i)) ∧ si = .int .i64 i ∧ wx = w4.drewN k') (fun _ _ si _ => zs.length - (intOf si).toNat)
      case atStart => exact ⟨0, k, Nat.zero_le _, by rw [List.take_zero]; rfl, rfl, rfl⟩
      case round =>
        obtain ⟨i, k', hi', rfl, rfl, rfl⟩ := hrel
        by_cases hlt : i < zs.length
        · have hlt' : (i : Int) < (zs.length : Int) := by omega
          obtain ⟨b, off, rfl, hb, hcell⟩ := hC.out (fun e => by rw [e] at hlt; simp at hlt)
          have c1 : (w4.drewN k').cell? ⟨b, off + i, none⟩ = some (.int .i64 ((zs.getD i 0 : Nat) : Int)) := hcell i hlt
          have hsn := lookB_snoc p h zs i hlt
          have hqm : zs.getD i 0 ∈ zs := by simp [List.getD, hlt]
          have hq2 : 2 ≤ zs.getD i 0 := ((hF.out _).1 hqm).1.1
          clear hcell hqm
          generalize zs.getD i 0 = q at c1 hsn hq2
          obtain ⟨d, hd⟩ : ∃ d : Nat, d = (p - 1) / q := ⟨_, rfl⟩
          have hdl : d < 4294967296 := by rw [hd]; exact Nat.lt_of_le_of_lt (Nat.div_le_self _ _) (by omega)
          have ed : ((p : Int) - 1) / (q : Int) = (d : Int) := by
            rw [show (p : Int) - 1 = ((p - 1 : Nat) : Int) by omega, hd]; rfl
          have ed3 : Hid (IntKind.u64.wrap (((p : Int) - 1) / (q : Int)) = (d : Int)) := (by rw [ed]; exact wrapId _ (by omega) : IntKind.u64.wrap (((p : Int) - 1) / (q : Int)) = (d : Int))
          have qz : ((q : Int) == 0) = false := beq_eq_false_iff_ne.2 (by omega)
          rw [← hd] at hsn
          clear hd ed
          have hLs : Hid (lookB p h (zs.take (i + 1)) = (lookB p h (zs.take i) && pw h d p != 1)) := hsn
          clear hsn
          cases hcur : lookB p h (zs.take i)
          · have hL' : Hid (lookB p h (zs.take (i + 1)) = false) := (by rw [hLs.out, hcur]; rfl : lookB p h (zs.take (i + 1)) = false)
            clear hcur
            go_wp2_with fail
            go_roundw
            case rel => exact ⟨i + 1, k', by omega, by rw [hL'.out], by go_num, rfl⟩
            case measure => simp [intOf]; omega
          · by_cases hone : pw h d p = 1
            · have o1 : (((pw h d p : Nat) : Int) == 1) = true := by rw [hone]; rfl
              have o2 : (((pw h d p : Nat) : Int) != 1) = false := by simp [bne, o1]
              have hL' : Hid (lookB p h (zs.take (i + 1)) = false) := (by rw [hLs.out, hone]; simp : lookB p h (zs.take (i + 1)) = false)
              clear hone hcur
              go_wp2_with (go_at_call 11; refine (powP_x hi.out _ _ _ h d p _ (by first | rfl | exact wrapId _ (by omega)) (by exact ed3.out) (by first | rfl | exact wrapId _ (by omega)) (by omega) (by omega) (by omega)).mono ?_; rintro e w' ⟨rfl, k1, rfl⟩)
              go_roundw
              case rel => exact ⟨i + 1, k' + k1, by omega, by rw [hL'.out], by go_num, rfl⟩
              case measure => simp [intOf]; omega
            · have o1 : (((pw h d p : Nat) : Int) == 1) = false := beq_eq_false_iff_ne.2 (by omega)
              have o2 : (((pw h d p : Nat) : Int) != 1) = true := by simp [bne, o1]
              have hL' : Hid (lookB p h (zs.take (i + 1)) = true) := (by rw [hLs.out, hcur, bne_iff_ne.2 hone]; rfl : lookB p h (zs.take (i + 1)) = true)
              clear hone hcur
              go_wp2_with (go_at_call 11; refine (powP_x hi.out _ _ _ h d p _ (by first | rfl | exact wrapId _ (by omega)) (by exact ed3.out) (by first | rfl | exact wrapId _ (by omega)) (by omega) (by omega) (by omega)).mono ?_; rintro e w' ⟨rfl, k1, rfl⟩)
              go_roundw
              case rel => exact ⟨i + 1, k' + k1, by omega, by rw [hL'.out], by go_num, rfl⟩
              case measure => simp [intOf]; omega
        · have hlt' : decide ((i : Int) < (zs.length : Int)) = false := decide_eq_false (by omega)
          have ei : i = zs.length := by omega
          subst ei
          rw [List.take_length]
          have hgd := lookB_good (g := h) (show 0 < p by omega) hF.out
          have hwh : wrap64 ((h : Int) + 1) = ((h + 1 : Nat) : Int) := by unfold wrap64; omega
          by_cases heq : h = g
          · have f1 : lookB p h zs = true := hgd.2 (by rw [heq]; exact hR.out.2.2.1)
            have f2 : ((h : Int) == (g : Int)) = true := beq_iff_eq.2 (by omega)
            rw [f1]
            clear hgd heq f1
            go_wp2_with fail
            go_roundw
            case rel => exact ⟨h + 1, k', by omega, by omega, by go_num, rfl⟩
            case measure => simp [intOf]; omega
          · have f1 : lookB p h zs = false := by
              cases hl2 : lookB p h zs
              · rfl
              · exact absurd (hgd.1 hl2) (hR.out.2.2.2 h h1 (by omega))
            have f2 : ((h : Int) == (g : Int)) = false := beq_eq_false_iff_ne.2 (by omega)
            rw [f1]
            clear hgd f1
            go_wp2_with fail
            go_roundw
            case rel => exact ⟨h + 1, k', by omega, by omega, by go_num, rfl⟩
            case measure => simp [intOf]; omega
    · have hle' : decide ((h : Int) ≤ (g : Int)) = false := decide_eq_false (by omega)
      go_wp2_with fail
      go_ret
      exact ⟨rfl, below_drewN B4.out k⟩
theorem roots_w (H : P5) (p : Int) (w : World) (al : List Addr) (he : Errs w al) (hp : inI p) :
    Calls Tryd.prog 3 #[.int .i64 p] w fun e w' => e = .returned (.bool true) ∧ Below w.heap.size w w' := by
  cases h : prB p
  · exact roots_no H p w al he hp h
  · obtain ⟨P, rfl, p2, pm, hP⟩ := prB_is h
    exact roots_p H P w p2 pm hP
end Go.Proofs.YtkgecgkjmikihabDoor
