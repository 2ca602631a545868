/-
  timbreref04, what is read: number.
-/
import Derived.Test.YtbipgkbnhpdmhaaDoorQkg
import Derived.Test.YtbipgkbnhpdmhaaDoorQk7
namespace Go.Proofs.YtbipgkbnhpdmhaaDoor
open Flo Go.RowKit
/-- the error's number -/
def en {α : Type} (r : Except Nat α) : Nat := match r with | .ok _ => 0 | .error c => c + 1
theorem rowB {w : World} {ab : Option Addr} {nb cb : Nat} {bs : List Nat} (h : OwB w (.slice ab nb cb) bs) (hne : bs ≠ []) : ∃ q, ab = some ⟨q, 0, none⟩ ∧ nb ≤ cb ∧ ∀ i, i < bs.length → w.cell? ⟨q, i, none⟩ = some (.int .u8 (bs.getD i 0 : Nat)) := by
  have hh : w.ownsRow 0 5 1 (.slice ab nb cb) bs.length (bc bs) := h
  rcases hh.2 with ⟨_, h1⟩ | ⟨q, cap, cur, he, hbg, hg, hnc, hcm, hcs, htake⟩
  · exact absurd (List.eq_nil_of_length_eq_zero h1) hne
  · injection he with e1 e2 e3
    subst e1; subst e2; subst e3
    refine ⟨q, rfl, hnc, fun i hi => ?_⟩
    rw [hh.cellAt i (by omega)]
    simp [bc, List.getD, hi]
theorem adsh {X b i : Nat} (hX : X < 128 ^ i) (hi : i ≤ 9) (hb : i = 9 → b ≤ 1) : b % 128 * 128 ^ i < 18446744073709551616 ∧ X + b % 128 * 128 ^ i < 18446744073709551616 := by
  have e9 : (128 : Nat) ^ 9 = 9223372036854775808 := by decide
  by_cases h9 : i = 9
  · subst h9
    have : b % 128 * 128 ^ 9 ≤ 1 * 128 ^ 9 := Nat.mul_le_mul_right _ (by have := hb rfl; omega)
    omega
  · have h4 : 128 ^ (i + 1) ≤ 128 ^ 9 := Nat.pow_le_pow_right (by decide) (by omega)
    have h5 : b % 128 * 128 ^ i ≤ 127 * 128 ^ i := Nat.mul_le_mul_right _ (by omega)
    rw [Nat.pow_succ] at h4
    omega
theorem shl_eq (b i : Nat) : (b : Int) % 128 * 2 ^ (7 * i) = ((b % 128 * 128 ^ i : Nat) : Int) := by
  have e1 : (128 : Nat) ^ i = 2 ^ (7 * i) := by rw [Nat.pow_mul]
  rw [e1]; simp
set_option maxRecDepth 100000 in
set_option maxHeartbeats 4000000 in
theorem number_c (ao : Option Addr) (n cap K : Nat) (bs : List Nat) (r : Except Nat (Nat × Nat)) (w : World) (h : Hid (OwB w (.slice ao n cap) bs)) (hn : Hid (n = bs.length)) (hk : K ≤ n) (hbig : n ≤ 140737488355328) (hby : Hid (∀ b ∈ bs, b < 256)) (hr : Hid (Pk.rv 0 0 (bs.drop K) = r)) :
    Calls Tryd.prog 62 #[.slice ao n cap, .int .i64 (K : Int)] w fun e w' => e = .returned (.tuple #[.int .u64 (Pk.ux r : Nat), .int .i64 ((K + Pk.ud r : Nat) : Int), .int .i64 (en r : Nat)]) ∧ w = w' := by
  go_enter Tryd.func62, Tryd.ntmps62
  go_wp2
  go_loop [7, 8] (fun sx si => ∃ X i : Nat, sx = .int .u64 (X : Int) ∧ si = .int .i64 (i : Int) ∧ i ≤ 9 ∧ K + i ≤ n ∧ Hid (X < 128 ^ i) ∧ Hid (Pk.rv i X (bs.drop (K + i)) = r)) (fun _ si => 10 - (intOf si).toNat)
  case atStart => exact ⟨0, 0, rfl, rfl, by decide, by omega, (by decide : 0 < 128 ^ 0), hr⟩
  case round =>
    obtain ⟨X, i, rfl, rfl, hi, hki, hX, hrv⟩ := hrel
    obtain ⟨J, hJ⟩ : ∃ J : Nat, J = K + i := ⟨_, rfl⟩
    have hJi : (K : Int) + (i : Int) = (J : Int) := by omega
    obtain ⟨J1, hJ1⟩ : ∃ J1 : Nat, J1 = J + 1 := ⟨_, rfl⟩
    have hJ2 : (J : Int) + 1 = (J1 : Int) := by omega
    have hJ1H : Hid (J1 = J + 1) := hJ1
    have hJ3 : (J1 : Int) ≤ 140737488355329 := by omega
    clear hJ1
    have hJH : Hid (J = K + i) := hJ
    have hJb : J ≤ n := by omega
    rw [← hJ] at hrv
    clear hJ
    by_cases hlt : J < n
    · have hlt' : decide ((n : Int) ≤ (J : Int)) = false := decide_eq_false (by omega)
      have hlt1 : ¬ n ≤ J := by omega
      have hlt2 : (J : Int) < (n : Int) := by omega
      have hlt3 : J < bs.length := by have := hn.out; omega
      obtain ⟨q, hq, hcap, hcells⟩ := rowB h.out (fun hh => by rw [hh] at hlt3; exact absurd hlt3 (Nat.not_lt_zero _))
      subst hq
      have hcell := hcells J hlt3
      have hb := hby.out _ (getD_mem hlt3)
      have hdr : Hid (bs.drop J = bs.getD J 0 :: bs.drop (J + 1)) := drop_at hlt3
      generalize bs.getD J 0 = b at hcell hb hdr
      have hw7 : IntKind.i64.wrap (7 * (i : Int)) = 7 * (i : Int) := by rw [IntKind.wrap_i64]; omega
      clear hcells hcap hlt3
      by_cases h9 : i = 9
      · have h9H : Hid (i = 9) := h9
        have h9' : ((i : Int) == 9) = true := beq_iff_eq.2 (by omega)
        have hi0 : (0 : Int) < (i : Int) := by omega
        have hi00 : 0 < i := by omega
        clear h9
        by_cases hb1 : 1 < b
        · have hb1' : (1 : Int) < (b : Int) := by omega
          have hfin : Hid (r = .error 1) := by rw [← hrv.out, hdr.out]; exact Pk.rv_nine h9H.out hb1
          clear hrv hdr hX
          go_wp2
          go_ret3
          rw [hfin.out]
          exact ⟨rfl, rfl⟩
        · have hb1' : decide ((1 : Int) < (b : Int)) = false := decide_eq_false (by omega)
          have hno : Hid (¬ (i = 9 ∧ 1 < b)) := fun hh => hb1 hh.2
          by_cases hb0 : b = 0
          · have hb0H : Hid (b = 0) := hb0
            have hb0' : ((b : Int) == 0) = true := beq_iff_eq.2 (by omega)
            clear hb0
            have hfin : Hid (r = .error 1) := by rw [← hrv.out, hdr.out]; exact Pk.rv_zero hno.out hb0H.out hi00
            clear hrv hdr hX
            go_wp2
            go_ret3
            rw [hfin.out]
            exact ⟨rfl, rfl⟩
          · have hb0' : ((b : Int) == 0) = false := beq_eq_false_iff_ne.2 (by omega)
            have hz0 : Hid (¬ (b = 0 ∧ 0 < i)) := fun hh => hb0 hh.1
            have hble : b ≤ 1 := by omega
            clear hb0
            obtain ⟨Y, hY⟩ : ∃ Y, Hid (Y = X + b % 128 * 128 ^ i) := ⟨_, rfl⟩
            have hls := adsh (b := b) hX.out hi (fun _ => hble)
            have hw1 : IntKind.u64.wrap ((b % 128 * 128 ^ i : Nat) : Int) = ((b % 128 * 128 ^ i : Nat) : Int) := wrapId _ hls.1
            have hw1' : (b : Int) % 128 * 2 ^ (7 * i) = ((b % 128 * 128 ^ i : Nat) : Int) := shl_eq b i
            have hw2 : (X : Int) + ((b % 128 * 128 ^ i : Nat) : Int) = (Y : Int) := by rw [hY.out]; omega
            have hw3 : IntKind.u64.wrap (Y : Int) = (Y : Int) := wrapId _ (by rw [hY.out]; exact hls.2)
            clear hls
            by_cases hb8 : b < 128
            · have hb7 : Hid (b < 128) := hb8
              have hb8' : (b : Int) < 128 := by omega
              have hfin : Hid (r = .ok (Y, i + 1)) := by rw [← hrv.out, hdr.out, hY.out]; exact Pk.rv_last hno.out hb8 hz0.out
              have hKJ : Hid ((J1 : Int) = ((K + (i + 1) : Nat) : Int)) := by show _ = _; have := hJH.out; have := hJ1H.out; omega
              generalize b % 128 * 128 ^ i = S at hw1 hw1' hw2 hY
              clear hrv hdr hX hY hno hz0
              go_wp2
              go_ret3
              rw [hfin.out]
              exact ⟨by rw [hKJ.out]; rfl, rfl⟩
            · have hb8' : decide ((b : Int) < 128) = false := decide_eq_false (by omega)
              have hnext : Hid (Pk.rv (i + 1) Y (bs.drop (K + (i + 1))) = r) := by
                rw [← hrv.out, hdr.out, hY.out, show K + (i + 1) = J + 1 by have := hJH.out; omega]; exact (Pk.rv_more hno.out hb8).symm
              have hXn : Hid (Y < 128 ^ (i + 1)) := by
                show _ < _
                have h5 : b % 128 * 128 ^ i ≤ 127 * 128 ^ i := Nat.mul_le_mul_right _ (by omega)
                have := hX.out
                rw [hY.out, Nat.pow_succ]; omega
              have hi1 : Hid (i + 1 ≤ 9 ∧ K + (i + 1) ≤ n) := by have := hno.out; have := hJH.out; exact ⟨by omega, by omega⟩
              generalize b % 128 * 128 ^ i = S at hw1 hw1' hw2 hY
              clear hrv hdr hX hY hno hz0
              go_wp2
              go_round
              case rel => exact ⟨Y, i + 1, rfl, by go_num, hi1.out.1, hi1.out.2, hXn, hnext⟩
              case measure => simp [intOf]; omega
      · have h9' : ((i : Int) == 9) = false := beq_eq_false_iff_ne.2 (by omega)
        have hno : Hid (¬ (i = 9 ∧ 1 < b)) := fun hh => h9 hh.1
        by_cases hi0 : 0 < i
        · have hi0' : (0 : Int) < (i : Int) := by omega
          by_cases hb0 : b = 0
          · have hb0H : Hid (b = 0) := hb0
            have hb0' : ((b : Int) == 0) = true := beq_iff_eq.2 (by omega)
            clear hb0
            have hfin : Hid (r = .error 1) := by rw [← hrv.out, hdr.out]; exact Pk.rv_zero hno.out hb0H.out hi0
            clear hrv hdr hX
            go_wp2
            go_ret3
            rw [hfin.out]
            exact ⟨rfl, rfl⟩
          · have hb0' : ((b : Int) == 0) = false := beq_eq_false_iff_ne.2 (by omega)
            have hz0 : Hid (¬ (b = 0 ∧ 0 < i)) := fun hh => hb0 hh.1
            clear hb0
            obtain ⟨Y, hY⟩ : ∃ Y, Hid (Y = X + b % 128 * 128 ^ i) := ⟨_, rfl⟩
            have hls := adsh (b := b) hX.out hi (fun hh => absurd hh h9)
            have hw1 : IntKind.u64.wrap ((b % 128 * 128 ^ i : Nat) : Int) = ((b % 128 * 128 ^ i : Nat) : Int) := wrapId _ hls.1
            have hw1' : (b : Int) % 128 * 2 ^ (7 * i) = ((b % 128 * 128 ^ i : Nat) : Int) := shl_eq b i
            have hw2 : (X : Int) + ((b % 128 * 128 ^ i : Nat) : Int) = (Y : Int) := by rw [hY.out]; omega
            have hw3 : IntKind.u64.wrap (Y : Int) = (Y : Int) := wrapId _ (by rw [hY.out]; exact hls.2)
            clear hls
            by_cases hb8 : b < 128
            · have hb7 : Hid (b < 128) := hb8
              have hb8' : (b : Int) < 128 := by omega
              have hfin : Hid (r = .ok (Y, i + 1)) := by rw [← hrv.out, hdr.out, hY.out]; exact Pk.rv_last hno.out hb8 hz0.out
              have hKJ : Hid ((J1 : Int) = ((K + (i + 1) : Nat) : Int)) := by show _ = _; have := hJH.out; have := hJ1H.out; omega
              generalize b % 128 * 128 ^ i = S at hw1 hw1' hw2 hY
              clear hrv hdr hX hY hno hz0
              go_wp2
              go_ret3
              rw [hfin.out]
              exact ⟨by rw [hKJ.out]; rfl, rfl⟩
            · have hb8' : decide ((b : Int) < 128) = false := decide_eq_false (by omega)
              have hnext : Hid (Pk.rv (i + 1) Y (bs.drop (K + (i + 1))) = r) := by
                rw [← hrv.out, hdr.out, hY.out, show K + (i + 1) = J + 1 by have := hJH.out; omega]; exact (Pk.rv_more hno.out hb8).symm
              have hXn : Hid (Y < 128 ^ (i + 1)) := by
                show _ < _
                have h5 : b % 128 * 128 ^ i ≤ 127 * 128 ^ i := Nat.mul_le_mul_right _ (by omega)
                have := hX.out
                rw [hY.out, Nat.pow_succ]; omega
              have hi1 : Hid (i + 1 ≤ 9 ∧ K + (i + 1) ≤ n) := by have := hno.out; have := hJH.out; exact ⟨by omega, by omega⟩
              generalize b % 128 * 128 ^ i = S at hw1 hw1' hw2 hY
              clear hrv hdr hX hY hno hz0
              go_wp2
              go_round
              case rel => exact ⟨Y, i + 1, rfl, by go_num, hi1.out.1, hi1.out.2, hXn, hnext⟩
              case measure => simp [intOf]; omega
        · have hi0' : decide ((0 : Int) < (i : Int)) = false := decide_eq_false (by omega)
          have hz0 : Hid (¬ (b = 0 ∧ 0 < i)) := fun hh => hi0 hh.2
          obtain ⟨Y, hY⟩ : ∃ Y, Hid (Y = X + b % 128 * 128 ^ i) := ⟨_, rfl⟩
          have hls := adsh (b := b) hX.out hi (fun hh => absurd hh h9)
          have hw1 : IntKind.u64.wrap ((b % 128 * 128 ^ i : Nat) : Int) = ((b % 128 * 128 ^ i : Nat) : Int) := wrapId _ hls.1
          have hw1' : (b : Int) % 128 * 2 ^ (7 * i) = ((b % 128 * 128 ^ i : Nat) : Int) := shl_eq b i
          have hw2 : (X : Int) + ((b % 128 * 128 ^ i : Nat) : Int) = (Y : Int) := by rw [hY.out]; omega
          have hw3 : IntKind.u64.wrap (Y : Int) = (Y : Int) := wrapId _ (by rw [hY.out]; exact hls.2)
          clear hls
          by_cases hb8 : b < 128
          · have hb7 : Hid (b < 128) := hb8
            have hb8' : (b : Int) < 128 := by omega
            have hfin : Hid (r = .ok (Y, i + 1)) := by rw [← hrv.out, hdr.out, hY.out]; exact Pk.rv_last hno.out hb8 hz0.out
            have hKJ : Hid ((J1 : Int) = ((K + (i + 1) : Nat) : Int)) := by show _ = _; have := hJH.out; have := hJ1H.out; omega
            generalize b % 128 * 128 ^ i = S at hw1 hw1' hw2 hY
            clear hrv hdr hX hY hno hz0
            go_wp2
            go_ret3
            rw [hfin.out]
            exact ⟨by rw [hKJ.out]; rfl, rfl⟩
          · have hb8' : decide ((b : Int) < 128) = false := decide_eq_false (by omega)
            have hnext : Hid (Pk.rv (i + 1) Y (bs.drop (K + (i + 1))) = r) := by
              rw [← hrv.out, hdr.out, hY.out, show K + (i + 1) = J + 1 by have := hJH.out; omega]; exact (Pk.rv_more hno.out hb8).symm
            have hXn : Hid (Y < 128 ^ (i + 1)) := by
              show _ < _
              have h5 : b % 128 * 128 ^ i ≤ 127 * 128 ^ i := Nat.mul_le_mul_right _ (by omega)
              have := hX.out
              rw [hY.out, Nat.pow_succ]; omega
            have hi1 : Hid (i + 1 ≤ 9 ∧ K + (i + 1) ≤ n) := by have := hno.out; have := hJH.out; exact ⟨by omega, by omega⟩
            generalize b % 128 * 128 ^ i = S at hw1 hw1' hw2 hY
            clear hrv hdr hX hY hno hz0
            go_wp2
            go_round
            case rel => exact ⟨Y, i + 1, rfl, by go_num, hi1.out.1, hi1.out.2, hXn, hnext⟩
            case measure => simp [intOf]; omega
    · have hlt' : (n : Int) ≤ (J : Int) := by omega
      have hlt1 : n ≤ J := by omega
      have hfin : Hid (r = .error 0) := by
        rw [← hrv.out, List.drop_eq_nil_of_le (by have := hn.out; omega)]; rfl
      clear hrv hX
      go_wp2
      go_ret3
      rw [hfin.out]
      exact ⟨rfl, rfl⟩
end Go.Proofs.YtbipgkbnhpdmhaaDoor
