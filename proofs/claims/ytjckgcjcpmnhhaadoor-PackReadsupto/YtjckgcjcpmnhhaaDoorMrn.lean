/-
  timbreref04, what is read: number.
-/
import Derived.Test.YtjckgcjcpmnhhaaDoorPkg
import Derived.Test.YtjckgcjcpmnhhaaDoorPb1
import Derived.Deep.QuietTactic
import Derived.BigQuiet
import Derived.WalkSmall
import Derived.Test.YtjckgcjcpmnhhaaDoorPr2
import Derived.Deep.LoopGhost
namespace Go.Proofs.YtjckgcjcpmnhhaaDoor
open Flo Go.RowKit
/-- the error's number -/
def en {α : Type} (r : Except Nat α) : Nat := match r with | .ok _ => 0 | .error c => c + 1
theorem rowB {w : World} {ab : Option Addr} {nb cb : Nat} {bs : List Nat} (h : OwB w (.slice ab nb cb) bs) (hne : bs ≠ []) : ∃ q, ab = some ⟨q, 0, none⟩ ∧ nb ≤ cb ∧ ∀ i, i < bs.length → w.cell? ⟨q, i, none⟩ = some (.int .u8 (bs.getD i 0 : Nat)) := by
  have hh : w.ownsRow 0 5 1 (.slice ab nb cb) bs.length (bc bs) := h
  rcases hh.2 with ⟨_, h1⟩ | ⟨q, cap, cur, he, hbg, hg, hnc, hcm, hcs, htake⟩
  · exact absurd (List.eq_nil_of_length_eq_zero h1) hne
  · injection he with e1 e2 e3
    subst e1; subst e2; subst e3
    refine ⟨q, rfl, hnc, fun i hi => ?_⟩
    rw [hh.cellAt i (by omega)]
    simp [bc, List.getD, hi]
theorem adsh {X b i : Nat} (hX : X < 128 ^ i) (hi : i ≤ 9) (hb : i = 9 → b ≤ 1) : b % 128 * 128 ^ i < 18446744073709551616 ∧ X + b % 128 * 128 ^ i < 18446744073709551616 := by
  have e9 : (128 : Nat) ^ 9 = 9223372036854775808 := by decide
  by_cases h9 : i = 9
  · subst h9
    have : b % 128 * 128 ^ 9 ≤ 1 * 128 ^ 9 := Nat.mul_le_mul_right _ (by have := hb rfl; omega)
    omega
  · have h4 : 128 ^ (i + 1) ≤ 128 ^ 9 := Nat.pow_le_pow_right (by decide) (by omega)
    have h5 : b % 128 * 128 ^ i ≤ 127 * 128 ^ i := Nat.mul_le_mul_right _ (by omega)
    rw [Nat.pow_succ] at h4
    omega
theorem shl_eq (b i : Nat) : (b : Int) % 128 * 2 ^ (7 * i) = ((b % 128 * 128 ^ i : Nat) : Int) := by
  have e1 : (128 : Nat) ^ i = 2 ^ (7 * i) := by rw [Nat.pow_mul]
  rw [e1]; simp
set_option maxRecDepth 100000 in
set_option maxHeartbeats 4000000 in
theorem number_c (ao : Option Addr) (n cap K : Nat) (bs : List Nat) (r : Except Nat (Nat × Nat)) (w : World) (h : Hid (OwB w (.slice ao n cap) bs)) (hn : Hid (n = bs.length)) (hk : K ≤ n) (hbig : n ≤ 140737488355328) (hby : Hid (∀ b ∈ bs, b < 256)) (hr : Hid (Pk.rv 0 0 (bs.drop K) = r)) :
    Calls Tryd.prog 83 #[.slice ao n cap, .int .i64 (K : Int)] w fun e w' => e = .returned (.tuple #[.int .u64 (Pk.ux r : Nat), .int .i64 ((K + Pk.ud r : Nat) : Int), .int .i64 (en r : Nat)]) ∧ w = w' := by
  go_enter Tryd.func83, Tryd.ntmps83
  go_wp2
  go_loop [7, 8] (fun sx si => ∃ X i : Nat, sx = .int .u64 (X : Int) ∧ si = .int .i64 (i : Int) ∧ i ≤ 9 ∧ K + i ≤ n ∧ Hid (X < 128 ^ i) ∧ Hid (Pk.rv i X (bs.drop (K + i)) = r)) (fun _ si => 10 - (intOf si).toNat)
  case atStart => exact ⟨0, 0, rfl, rfl, by decide, by omega, (by decide : 0 < 128 ^ 0), hr⟩
  case round =>
    obtain ⟨X, i, rfl, rfl, hi, hki, hX, hrv⟩ := hrel
    obtain ⟨J, hJ⟩ : ∃ J : Nat, J = K + i := ⟨_, rfl⟩
    have hJi : (K : Int) + (i : Int) = (J : Int) := by omega
    obtain ⟨J1, hJ1⟩ : ∃ J1 : Nat, J1 = J + 1 := ⟨_, rfl⟩
    have hJ2 : (J : Int) + 1 = (J1 : Int) := by omega
    have hJ1H : Hid (J1 = J + 1) := hJ1
    have hJ3 : (J1 : Int) ≤ 140737488355329 := by omega
    clear hJ1
    have hJH : Hid (J = K + i) := hJ
    have hJb : J ≤ n := by omega
    rw [← hJ] at hrv
    clear hJ
    by_cases hlt : J < n
    · have hlt' : decide ((n : Int) ≤ (J : Int)) = false := decide_eq_false (by omega)
      have hlt1 : ¬ n ≤ J := by omega
      have hlt2 : (J : Int) < (n : Int) := by omega
      have hlt3 : J < bs.length := by have := hn.out; omega
      obtain ⟨q, hq, hcap, hcells⟩ := rowB h.out (fun hh => by rw [hh] at hlt3; exact absurd hlt3 (Nat.not_lt_zero _))
      subst hq
      have hcell := hcells J hlt3
      have hb := hby.out _ (getD_mem hlt3)
      have hdr : Hid (bs.drop J = bs.getD J 0 :: bs.drop (J + 1)) := drop_at hlt3
      generalize bs.getD J 0 = b at hcell hb hdr
      have hw7 : IntKind.i64.wrap (7 * (i : Int)) = 7 * (i : Int) := by rw [IntKind.wrap_i64]; omega
      clear hcells hcap hlt3
      by_cases h9 : i = 9
      · have h9H : Hid (i = 9) := h9
        have h9' : ((i : Int) == 9) = true := beq_iff_eq.2 (by omega)
        have hi0 : (0 : Int) < (i : Int) := by omega
        have hi00 : 0 < i := by omega
        clear h9
        by_cases hb1 : 1 < b
        · have hb1' : (1 : Int) < (b : Int) := by omega
          have hfin : Hid (r = .error 1) := by rw [← hrv.out, hdr.out]; exact Pk.rv_nine h9H.out hb1
          clear hrv hdr hX
          go_wp2
          go_ret3
          rw [hfin.out]
          exact ⟨rfl, rfl⟩
        · have hb1' : decide ((1 : Int) < (b : Int)) = false := decide_eq_false (by omega)
          have hno : Hid (¬ (i = 9 ∧ 1 < b)) := fun hh => hb1 hh.2
          by_cases hb0 : b = 0
          · have hb0H : Hid (b = 0) := hb0
            have hb0' : ((b : Int) == 0) = true := beq_iff_eq.2 (by omega)
            clear hb0
            have hfin : Hid (r = .error 1) := by rw [← hrv.out, hdr.out]; exact Pk.rv_zero hno.out hb0H.out hi00
            clear hrv hdr hX
            go_wp2
            go_ret3
            rw [hfin.out]
            exact ⟨rfl, rfl⟩
          · have hb0' : ((b : Int) == 0) = false := beq_eq_false_iff_ne.2 (by omega)
            have hz0 : Hid (¬ (b = 0 ∧ 0 < i)) := fun hh => hb0 hh.1
            have hble : b ≤ 1 := by omega
            clear hb0
            obtain ⟨Y, hY⟩ : ∃ Y, Hid (Y = X + b % 128 * 128 ^ i) := ⟨_, rfl⟩
            have hls := adsh (b := b) hX.out hi (fun _ => hble)
            have hw1 : IntKind.u64.wrap ((b % 128 * 128 ^ i : Nat) : Int) = ((b % 128 * 128 ^ i : Nat) : Int) := wrapId _ hls.1
            have hw1' : (b : Int) % 128 * 2 ^ (7 * i) = ((b % 128 * 128 ^ i : Nat) : Int) := shl_eq b i
            have hw2 : (X : Int) + ((b % 128 * 128 ^ i : Nat) : Int) = (Y : Int) := by rw [hY.out]; omega
            have hw3 : IntKind.u64.wrap (Y : Int) = (Y : Int) := wrapId _ (by rw [hY.out]; exact hls.2)
            clear hls
            by_cases hb8 : b < 128
            · have hb7 : Hid (b < 128) := hb8
              have hb8' : (b : Int) < 128 := by omega
              have hfin : Hid (r = .ok (Y, i + 1)) := by rw [← hrv.out, hdr.out, hY.out]; exact Pk.rv_last hno.out hb8 hz0.out
              have hKJ : Hid ((J1 : Int) = ((K + (i + 1) : Nat) : Int)) := by show _ = _; have := hJH.out; have := hJ1H.out; omega
              generalize b % 128 * 128 ^ i = S at hw1 hw1' hw2 hY
              clear hrv hdr hX hY hno hz0
              go_wp2
              go_ret3
              rw [hfin.out]
              exact ⟨by rw [hKJ.out]; rfl, rfl⟩
            · have hb8' : decide ((b : Int) < 128) = false := decide_eq_false (by omega)
              have hnext : Hid (Pk.rv (i + 1) Y (bs.drop (K + (i + 1))) = r) := by
                rw [← hrv.out, hdr.out, hY.out, show K + (i + 1) = J + 1 by have := hJH.out; omega]; exact (Pk.rv_more hno.out hb8).symm
              have hXn : Hid (Y < 128 ^ (i + 1)) := by
                show _ < _
                have h5 : b % 128 * 128 ^ i ≤ 127 * 128 ^ i := Nat.mul_le_mul_right _ (by omega)
                have := hX.out
                rw [hY.out, Nat.pow_succ]; omega
              have hi1 : Hid (i + 1 ≤ 9 ∧ K + (i + 1) ≤ n) := by have := hno.out; have := hJH.out; exact ⟨by omega, by omega⟩
              generalize b % 128 * 128 ^ i = S at hw1 hw1' hw2 hY
              clear hrv hdr hX hY hno hz0
              go_wp2
              go_round
              case rel => exact ⟨Y, i + 1, rfl, by go_num, hi1.out.1, hi1.out.2, hXn, hnext⟩
              case measure => simp [intOf]; omega
      · have h9' : ((i : Int) == 9) = false := beq_eq_false_iff_ne.2 (by omega)
        have hno : Hid (¬ (i = 9 ∧ 1 < b)) := fun hh => h9 hh.1
        by_cases hi0 : 0 < i
        · have hi0' : (0 : Int) < (i : Int) := by omega
          by_cases hb0 : b = 0
          · have hb0H : Hid (b = 0) := hb0
            have hb0' : ((b : Int) == 0) = true := beq_iff_eq.2 (by omega)
            clear hb0
            have hfin : Hid (r = .error 1) := by rw [← hrv.out, hdr.out]; exact Pk.rv_zero hno.out hb0H.out hi0
            clear hrv hdr hX
            go_wp2
            go_ret3
            rw [hfin.out]
            exact ⟨rfl, rfl⟩
          · have hb0' : ((b : Int) == 0) = false := beq_eq_false_iff_ne.2 (by omega)
            have hz0 : Hid (¬ (b = 0 ∧ 0 < i)) := fun hh => hb0 hh.1
            clear hb0
            obtain ⟨Y, hY⟩ : ∃ Y, Hid (Y = X + b % 128 * 128 ^ i) := ⟨_, rfl⟩
            have hls := adsh (b := b) hX.out hi (fun hh => absurd hh h9)
            have hw1 : IntKind.u64.wrap ((b % 128 * 128 ^ i : Nat) : Int) = ((b % 128 * 128 ^ i : Nat) : Int) := wrapId _ hls.1
            have hw1' : (b : Int) % 128 * 2 ^ (7 * i) = ((b % 128 * 128 ^ i : Nat) : Int) := shl_eq b i
            have hw2 : (X : Int) + ((b % 128 * 128 ^ i : Nat) : Int) = (Y : Int) := by rw [hY.out]; omega
            have hw3 : IntKind.u64.wrap (Y : Int) = (Y : Int) := wrapId _ (by rw [hY.out]; exact hls.2)
            clear hls
            by_cases hb8 : b < 128
            · have hb7 : Hid (b < 128) := hb8
              have hb8' : (b : Int) < 128 := by omega
              have hfin : Hid (r = .ok (Y, i + 1)) := by rw [← hrv.out, hdr.out, hY.out]; exact Pk.rv_last hno.out hb8 hz0.out
              have hKJ : Hid ((J1 : Int) = ((K + (i + 1) : Nat) : Int)) := by show _ = _; have := hJH.out; have := hJ1H.out; omega
              generalize b % 128 * 128 ^ i = S at hw1 hw1' hw2 hY
              clear hrv hdr hX hY hno hz0
              go_wp2
              go_ret3
              rw [hfin.out]
              exact ⟨by rw [hKJ.out]; rfl, rfl⟩
            · have hb8' : decide ((b : Int) < 128) = false := decide_eq_false (by omega)
              have hnext : Hid (Pk.rv (i + 1) Y (bs.drop (K + (i + 1))) = r) := by
                rw [← hrv.out, hdr.out, hY.out, show K + (i + 1) = J + 1 by have := hJH.out; omega]; exact (Pk.rv_more hno.out hb8).symm
              have hXn : Hid (Y < 128 ^ (i + 1)) := by
                show _ < _
                have h5 : b % 128 * 128 ^ i ≤ 127 * 128 ^ i := Nat.mul_le_mul_right _ (by omega)
                have := hX.out
                rw [hY.out, Nat.pow_succ]; omega
              have hi1 : Hid (i + 1 ≤ 9 ∧ K + (i + 1) ≤ n) := by have := hno.out; have := hJH.out; exact ⟨by omega, by omega⟩
              generalize b % 128 * 128 ^ i = S at hw1 hw1' hw2 hY
              clear hrv hdr hX hY hno hz0
              go_wp2
              go_round
              case rel => exact ⟨Y, i + 1, rfl, by go_num, hi1.out.1, hi1.out.2, hXn, hnext⟩
              case measure => simp [intOf]; omega
        · have hi0' : decide ((0 : Int) < (i : Int)) = false := decide_eq_false (by omega)
          have hz0 : Hid (¬ (b = 0 ∧ 0 < i)) := fun hh => hi0 hh.2
          obtain ⟨Y, hY⟩ : ∃ Y, Hid (Y = X + b % 128 * 128 ^ i) := ⟨_, rfl⟩
          have hls := adsh (b := b) hX.out hi (fun hh => absurd hh h9)
          have hw1 : IntKind.u64.wrap ((b % 128 * 128 ^ i : Nat) : Int) = ((b % 128 * 128 ^ i : Nat) : Int) := wrapId _ hls.1
          have hw1' : (b : Int) % 128 * 2 ^ (7 * i) = ((b % 128 * 128 ^ i : Nat) : Int) := shl_eq b i
          have hw2 : (X : Int) + ((b % 128 * 128 ^ i : Nat) : Int) = (Y : Int) := by rw [hY.out]; omega
          have hw3 : IntKind.u64.wrap (Y : Int) = (Y : Int) := wrapId _ (by rw [hY.out]; exact hls.2)
          clear hls
          by_cases hb8 : b < 128
          · have hb7 : Hid (b < 128) := hb8
            have hb8' : (b : Int) < 128 := by omega
            have hfin : Hid (r = .ok (Y, i + 1)) := by rw [← hrv.out, hdr.out, hY.out]; exact Pk.rv_last hno.out hb8 hz0.out
            have hKJ : Hid ((J1 : Int) = ((K + (i + 1) : Nat) : Int)) := by show _ = _; have := hJH.out; have := hJ1H.out; omega
            generalize b % 128 * 128 ^ i = S at hw1 hw1' hw2 hY
            clear hrv hdr hX hY hno hz0
            go_wp2
            go_ret3
            rw [hfin.out]
            exact ⟨by rw [hKJ.out]; rfl, rfl⟩
          · have hb8' : decide ((b : Int) < 128) = false := decide_eq_false (by omega)
            have hnext : Hid (Pk.rv (i + 1) Y (bs.drop (K + (i + 1))) = r) := by
              rw [← hrv.out, hdr.out, hY.out, show K + (i + 1) = J + 1 by have := hJH.out; omega]; exact (Pk.rv_more hno.out hb8).symm
            have hXn : Hid (Y < 128 ^ (i + 1)) := by
              show _ < _
              have h5 : b % 128 * 128 ^ i ≤ 127 * 128 ^ i := Nat.mul_le_mul_right _ (by omega)
              have := hX.out
              rw [hY.out, Nat.pow_succ]; omega
            have hi1 : Hid (i + 1 ≤ 9 ∧ K + (i + 1) ≤ n) := by have := hno.out; have := hJH.out; exact ⟨by omega, by omega⟩
            generalize b % 128 * 128 ^ i = S at hw1 hw1' hw2 hY
            clear hrv hdr hX hY hno hz0
            go_wp2
            go_round
            case rel => exact ⟨Y, i + 1, rfl, by go_num, hi1.out.1, hi1.out.2, hXn, hnext⟩
            case measure => simp [intOf]; omega
    · have hlt' : (n : Int) ≤ (J : Int) := by omega
      have hlt1 : n ≤ J := by omega
      have hfin : Hid (r = .error 0) := by
        rw [← hrv.out, List.drop_eq_nil_of_le (by have := hn.out; omega)]; rfl
      clear hrv hX
      go_wp2
      go_ret3
      rw [hfin.out]
      exact ⟨rfl, rfl⟩
end Go.Proofs.YtjckgcjcpmnhhaaDoor
/-
  timbreref04, what is read: Uint, upto, Upto, Int, Done.
-/
namespace Go.Proofs.YtjckgcjcpmnhhaaDoor
open Flo Go.RowKit
theorem number_q {R : Nat → Prop} {w W : World} {g k K n cap : Nat} {ao : Option Addr} {bs : List Nat} (h : RrV R w g (.slice ao n cap) bs k) (hn : n = bs.length) (hK : K ≤ n) (hq : Qt w W) :
    Calls Tryd.prog 83 #[.slice ao n cap, .int .i64 (K : Int)] W fun e w' => e = .returned (.tuple #[.int .u64 (Pk.ux (Pk.rv 0 0 (bs.drop K)) : Nat), .int .i64 ((K + Pk.ud (Pk.rv 0 0 (bs.drop K)) : Nat) : Int), .int .i64 (en (Pk.rv 0 0 (bs.drop K)) : Nat)]) ∧ w' = W :=
  (number_c ao n cap K bs _ W (h.qt hq).own hn hK (by rw [hn]; exact h.big) h.byt rfl).mono fun _ _ hh => ⟨hh.1, hh.2.symm⟩
set_option maxRecDepth 100000 in
set_option maxHeartbeats 1000000 in
theorem tuint_c (R : Nat → Prop) (g k : Nat) (bs : List Nat) (w : World) (h : Rr R w g bs k) :
    Calls Tryd.prog 49 #[.pointer (some ⟨g, 0, none⟩)] w fun e w' => e = .returned (.tuple #[.int .u64 (Pk.ux (Pk.rv 0 0 (bs.drop k)) : Nat), .int .i64 (en (Pk.rv 0 0 (bs.drop k)) : Nat)]) ∧ Rr R w' g bs (k + Pk.ud (Pk.rv 0 0 (bs.drop k))) ∧ Fr (fun j => j = g) w w' := by
  obtain ⟨v, h⟩ := h
  obtain ⟨n, ao, cap, rfl, hn⟩ := h.slice
  have hH : Hid (RrV R w g (.slice ao n cap) bs k) := h
  have hc0 := h.c0
  have hc1 := h.c1
  have hfz := h.free
  have hbd : Hid (k + Pk.ud (Pk.rv 0 0 (bs.drop k)) ≤ bs.length) := (Pk.rv_bd h.byt k h.le).2
  have hkn : Hid (k ≤ n) := by rw [hn.out]; exact h.le
  have hnum : Hid (∀ W, Qt w W → Calls Tryd.prog 83 #[.slice ao n cap, .int .i64 (k : Int)] W fun e w' => e = .returned (.tuple #[.int .u64 (Pk.ux (Pk.rv 0 0 (bs.drop k)) : Nat), .int .i64 ((k + Pk.ud (Pk.rv 0 0 (bs.drop k)) : Nat) : Int), .int .i64 (en (Pk.rv 0 0 (bs.drop k)) : Nat)]) ∧ w' = W) := fun W hq => number_q h hn.out hkn.out hq
  clear h
  obtain ⟨X, hX⟩ : ∃ X, Hid (X = Pk.ux (Pk.rv 0 0 (bs.drop k))) := ⟨_, rfl⟩
  obtain ⟨J, hJ⟩ : ∃ J, Hid (J = k + Pk.ud (Pk.rv 0 0 (bs.drop k))) := ⟨_, rfl⟩
  obtain ⟨E, hE⟩ : ∃ E, Hid (E = en (Pk.rv 0 0 (bs.drop k))) := ⟨_, rfl⟩
  rw [← hX.out, ← hJ.out, ← hE.out] at hnum ⊢
  rw [← hJ.out] at hbd
  go_enter Tryd.func49, Tryd.ntmps49
  go_wp2
  go_quiet ((go_at_call 83; exact Calls.quiet_of_same (hnum.out _ (by first | exact qtN _ _ | exact Qt.drew _ | exact Qt.refl _))))
  go_wp2
  go_ret2
  refine ⟨rfl, ⟨_, ((hH.out.qt (qtN w nq)).move hbd.out)⟩, ?_⟩
  exact ((qtN w nq).fr _).then (mv_fr _ g _)
theorem en_err {α : Type} (c : Nat) : en (.error c : Except Nat α) = c + 1 := rfl
theorem en_ok {α : Type} (a : α) : en (.ok a : Except Nat α) = 0 := rfl
theorem ux_err (c : Nat) : Pk.ux (.error c) = 0 := rfl
theorem udE {α : Type} (c : Nat) : Pk.ud (.error c : Except Nat (α × Nat)) = 0 := rfl
theorem uxO (x n : Nat) : Pk.ux (.ok (x, n)) = x := rfl
theorem udO {α : Type} (x : α) (n : Nat) : Pk.ud (.ok (x, n)) = n := rfl
theorem upr_e (most : Int) (c : Nat) : upr most (.error c) = .error c := rfl
set_option maxRecDepth 100000 in
set_option maxHeartbeats 1000000 in
theorem tupto_c (R : Nat → Prop) (g k K : Nat) (most : Int) (bs : List Nat) (w : World) (h : Rr R w g bs k) (hK : K ≤ bs.length) (hm : most ≤ 9223372036854775807) :
    Calls Tryd.prog 84 #[.pointer (some ⟨g, 0, none⟩), .int .i64 (K : Int), .int .i64 most] w fun e w' => e = .returned (.tuple #[.int .i64 (Pk.ux (upr most (Pk.rv 0 0 (bs.drop K))) : Nat), .int .i64 ((K + Pk.ud (upr most (Pk.rv 0 0 (bs.drop K))) : Nat) : Int), .int .i64 (en (upr most (Pk.rv 0 0 (bs.drop K))) : Nat)]) ∧ w = w' := by
  obtain ⟨v, h⟩ := h
  obtain ⟨n, ao, cap, rfl, hn⟩ := h.slice
  have hc0 := h.c0
  have hnum : Hid (Calls Tryd.prog 83 #[.slice ao n cap, .int .i64 (K : Int)] w fun e w' => e = .returned (.tuple #[.int .u64 (Pk.ux (Pk.rv 0 0 (bs.drop K)) : Nat), .int .i64 ((K + Pk.ud (Pk.rv 0 0 (bs.drop K)) : Nat) : Int), .int .i64 (en (Pk.rv 0 0 (bs.drop K)) : Nat)]) ∧ w' = w) := number_q h hn.out (by rw [hn.out]; exact hK) (Qt.refl w)
  have hub := (Pk.rv_bd h.byt K hK).1
  clear h
  cases hr : Pk.rv 0 0 (bs.drop K) with
  | error c =>
    rw [hr, ux_err, udE, en_err, Nat.add_zero] at hnum
    rw [upr_e, ux_err, udE, en_err, Nat.add_zero]
    obtain ⟨E, hE⟩ : ∃ E, E = c + 1 := ⟨_, rfl⟩
    rw [← hE] at hnum ⊢
    have e1 : ((E : Int) == 0) = false := beq_eq_false_iff_ne.2 (by omega)
    have e2 : ((E : Int) != 0) = true := by simp [bne, e1]
    clear hE hr hub
    go_enter Tryd.func84, Tryd.ntmps84
    go_wp2_with fail
    refine hnum.out.mono ?_
    rintro e w' ⟨rfl, rfl⟩
    go_wp2
    go_ret3
    exact ⟨rfl, rfl⟩
  | ok p =>
    obtain ⟨x, j⟩ := p
    rw [hr, uxO, udO, en_ok] at hnum
    rw [hr, uxO] at hub
    by_cases hm0 : most < 0
    · rw [upr_lim (.inl hm0), ux_err, udE, en_err, Nat.add_zero]
      clear hr hub hm
      go_enter Tryd.func84, Tryd.ntmps84
      go_wp2_with fail
      refine hnum.out.mono ?_
      rintro e w' ⟨rfl, rfl⟩
      go_wp2
      go_ret3
      exact ⟨rfl, rfl⟩
    · have hm1 : decide (most < 0) = false := decide_eq_false hm0
      obtain ⟨M, rfl⟩ : ∃ M : Nat, most = (M : Int) := ⟨most.toNat, by omega⟩
      have hwM : IntKind.u64.wrap (M : Int) = (M : Int) := wrapId _ (by omega)
      by_cases hgt : M < x
      · rw [upr_lim (.inr (by omega)), ux_err, udE, en_err, Nat.add_zero]
        have hgt' : (M : Int) < (x : Int) := by omega
        clear hr hub hm
        go_enter Tryd.func84, Tryd.ntmps84
        go_wp2_with fail
        refine hnum.out.mono ?_
        rintro e w' ⟨rfl, rfl⟩
        go_wp2
        go_ret3
        exact ⟨rfl, rfl⟩
      · rw [upr_most (by omega), uxO, udO, en_ok]
        have hgt' : decide ((M : Int) < (x : Int)) = false := decide_eq_false (by omega)
        have hwx : IntKind.i64.wrap (x : Int) = (x : Int) := by rw [IntKind.wrap_i64]; omega
        clear hr hub hm
        go_enter Tryd.func84, Tryd.ntmps84
        go_wp2_with fail
        refine hnum.out.mono ?_
        rintro e w' ⟨rfl, rfl⟩
        go_wp2
        go_ret3
        exact ⟨rfl, rfl⟩
set_option maxRecDepth 100000 in
set_option maxHeartbeats 1000000 in
theorem tupto2_c (R : Nat → Prop) (g k : Nat) (most : Int) (bs : List Nat) (w : World) (h : Rr R w g bs k) (hm : most ≤ 9223372036854775807) :
    Calls Tryd.prog 51 #[.pointer (some ⟨g, 0, none⟩), .int .i64 most] w fun e w' => e = .returned (.tuple #[.int .i64 (Pk.ux (upr most (Pk.rv 0 0 (bs.drop k))) : Nat), .int .i64 (en (upr most (Pk.rv 0 0 (bs.drop k))) : Nat)]) ∧ Rr R w' g bs (k + Pk.ud (upr most (Pk.rv 0 0 (bs.drop k)))) ∧ Fr (fun j => j = g) w w' := by
  have hu := tupto_c R g k k most bs w h h.le hm
  have hbd : Hid (k + Pk.ud (upr most (Pk.rv 0 0 (bs.drop k))) ≤ bs.length) := upr_bd h.byt k h.le most
  obtain ⟨v, h⟩ := h
  have hH : Hid (RrV R w g v bs k) := h
  have hc1 := h.c1
  have hfz := h.free
  obtain ⟨X, hX⟩ : ∃ X, Hid (X = Pk.ux (upr most (Pk.rv 0 0 (bs.drop k)))) := ⟨_, rfl⟩
  obtain ⟨J, hJ⟩ : ∃ J, Hid (J = k + Pk.ud (upr most (Pk.rv 0 0 (bs.drop k)))) := ⟨_, rfl⟩
  obtain ⟨E, hE⟩ : ∃ E, Hid (E = en (upr most (Pk.rv 0 0 (bs.drop k)))) := ⟨_, rfl⟩
  rw [← hX.out, ← hJ.out, ← hE.out] at hu ⊢
  rw [← hJ.out] at hbd
  have huH : Hid (Calls Tryd.prog 84 #[.pointer (some ⟨g, 0, none⟩), .int .i64 (k : Int), .int .i64 most] w fun e w' => e = .returned (.tuple #[.int .i64 (X : Int), .int .i64 (J : Int), .int .i64 (E : Int)]) ∧ w = w') := hu
  clear h hu
  go_enter Tryd.func51, Tryd.ntmps51
  go_wp2_with fail
  refine huH.out.mono ?_
  rintro e w' ⟨rfl, rfl⟩
  go_wp2
  go_ret2
  exact ⟨rfl, ⟨_, hH.out.move hbd.out⟩, mv_fr _ g _⟩
theorem zz_odd {x : Nat} (h : x % 2 = 1) : zz x = -1 - ((x / 2 : Nat) : Int) := if_pos h
theorem zz_even {x : Nat} (h : ¬ x % 2 = 1) : zz x = ((x / 2 : Nat) : Int) := if_neg h
set_option maxRecDepth 100000 in
set_option maxHeartbeats 1000000 in
theorem tint_c (R : Nat → Prop) (g k : Nat) (bs : List Nat) (w : World) (h : Rr R w g bs k) :
    Calls Tryd.prog 53 #[.pointer (some ⟨g, 0, none⟩)] w fun e w' => e = .returned (.tuple #[.int .i64 (zz (Pk.ux (Pk.rv 0 0 (bs.drop k)))), .int .i64 (en (Pk.rv 0 0 (bs.drop k)) : Nat)]) ∧ Rr R w' g bs (k + Pk.ud (Pk.rv 0 0 (bs.drop k))) ∧ Fr (fun j => j = g) w w' := by
  have hu := tuint_c R g k bs w h
  have hb := (Pk.rv_bd h.byt k h.le).1
  obtain ⟨X, hX⟩ : ∃ X, X = Pk.ux (Pk.rv 0 0 (bs.drop k)) := ⟨_, rfl⟩
  obtain ⟨E, hE⟩ : ∃ E, E = en (Pk.rv 0 0 (bs.drop k)) := ⟨_, rfl⟩
  rw [← hX] at hb
  rw [← hX, ← hE] at hu ⊢
  clear hX hE h
  obtain ⟨H, hHe⟩ : ∃ H, H = X / 2 := ⟨_, rfl⟩
  have hH2 : (X : Int) / 2 = (H : Int) := by omega
  have hwH : wrap64 (H : Int) = (H : Int) := by unfold wrap64; omega
  have hwH2 : IntKind.u64.wrap (H : Int) = (H : Int) := wrapId _ (by omega)
  by_cases ho : X % 2 = 1
  · have ho' : ((X : Int) % 2 == 1) = true := beq_iff_eq.2 (by omega)
    obtain ⟨Y, hY⟩ : ∃ Y : Int, Y = -1 - (H : Int) := ⟨_, rfl⟩
    have hY2 : -1 - (H : Int) = Y := hY.symm
    have hwY : wrap64 Y = Y := by clear hwH hwH2; unfold wrap64; omega
    have hz : Hid (zz X = Y) := by rw [hY, hHe]; exact zz_odd ho
    rw [hz.out]
    clear hY hHe ho hb
    go_enter Tryd.func53, Tryd.ntmps53
    go_wp2_with fail
    refine hu.mono ?_
    rintro e w2 ⟨rfl, h1, h2⟩
    have h1H : Hid (Rr R w2 g bs (k + Pk.ud (Pk.rv 0 0 (bs.drop k)))) := h1
    have h2H : Hid (Fr (fun j => j = g) w w2) := h2
    clear h1 h2
    go_wp2
    go_ret2
    refine ⟨?_, h1H.out, h2H.out⟩
    show Ending.returned (.tuple #[.int .i64 (wrap64 Y), .int .i64 (E : Int)]) = _
    rw [hwY]
  · have ho' : ((X : Int) % 2 == 1) = false := beq_eq_false_iff_ne.2 (by omega)
    have hz : Hid (zz X = (H : Int)) := by rw [hHe]; exact zz_even ho
    rw [hz.out]
    clear hHe ho hb
    go_enter Tryd.func53, Tryd.ntmps53
    go_wp2_with fail
    refine hu.mono ?_
    rintro e w2 ⟨rfl, h1, h2⟩
    have h1H : Hid (Rr R w2 g bs (k + Pk.ud (Pk.rv 0 0 (bs.drop k)))) := h1
    have h2H : Hid (Fr (fun j => j = g) w w2) := h2
    clear h1 h2
    go_wp2
    go_ret2
    refine ⟨?_, h1H.out, h2H.out⟩
    show Ending.returned (.tuple #[.int .i64 (wrap64 (H : Int)), .int .i64 (E : Int)]) = _
    rw [hwH]
/-- what Done answers -/
def dnn (k n : Nat) : Nat := if k < n then 4 else 0
set_option maxHeartbeats 1000000 in
theorem tdone_c (R : Nat → Prop) (g k : Nat) (bs : List Nat) (w : World) (h : Rr R w g bs k) :
    Calls Tryd.prog 18 #[.pointer (some ⟨g, 0, none⟩)] w fun e w' => e = .returned (.int .i64 (dnn k bs.length : Nat)) ∧ Qt w w' := by
  obtain ⟨v, h⟩ := h
  obtain ⟨n, ao, cap, rfl, hn⟩ := h.slice
  have hc0 := h.c0
  have hc1 := h.c1
  clear h
  by_cases hk : k < n
  · have hif : Hid (dnn k bs.length = 4) := if_pos (by rw [← hn.out]; exact hk)
    have hk' : (k : Int) < (n : Int) := by omega
    rw [hif.out]
    go_enter Tryd.func18, Tryd.ntmps18
    go_wp2
    go_region
    all_goals (
      go_wp2
      go_ret
      exact ⟨rfl, Qt.drew w⟩)
  · have hif : Hid (dnn k bs.length = 0) := if_neg (by rw [← hn.out]; exact hk)
    have hk' : decide ((k : Int) < (n : Int)) = false := decide_eq_false (by omega)
    rw [hif.out]
    go_enter Tryd.func18, Tryd.ntmps18
    go_wp2
    go_region
    all_goals (
      go_wp2
      go_ret
      exact ⟨rfl, Qt.drew w⟩)
end Go.Proofs.YtjckgcjcpmnhhaaDoor
/-
  timbreref04, what is read: fixedAt, floatAt, float32At.
-/
namespace Go.Proofs.YtjckgcjcpmnhhaaDoor
open Flo Go.RowKit
theorem nf_front {bs : List Nat} {p m : Nat} (h : p < bs.length) : nf bs p (m + 1) = nf bs (p + 1) m * 256 + bs.getD p 0 := by
  unfold nf
  rw [drop_at h, List.take_succ_cons]
  show _ + 256 * _ = _
  omega
set_option maxRecDepth 100000 in
set_option maxHeartbeats 1000000 in
theorem tfixed_c (R : Nat → Prop) (g k p m : Nat) (bs : List Nat) (w : World) (h : Rr R w g bs k) (hm : m ≤ 8) (hpm : p + m ≤ bs.length) :
    Calls Tryd.prog 94 #[.pointer (some ⟨g, 0, none⟩), .int .i64 (p : Int), .int .i64 (m : Int)] w fun e w' => e = .returned (.int .u64 (nf bs p m : Nat)) ∧ w = w' := by
  obtain ⟨v, h⟩ := h
  obtain ⟨n, ao, cap, rfl, hn⟩ := h.slice
  have hH : Hid (RrV R w g (.slice ao n cap) bs k) := h
  have hc0 := h.c0
  have hnb : n ≤ 140737488355328 := by rw [hn.out]; exact h.big
  have hpn : p + m ≤ n := by rw [hn.out]; exact hpm
  clear h
  go_enter Tryd.func94, Tryd.ntmps94
  go_wp2
  go_loop [7, 8] (fun sx si => ∃ X i : Nat, ∃ I : Int, sx = .int .u64 (X : Int) ∧ si = .int .i64 I ∧ i ≤ m ∧ I = (m : Int) - 1 - (i : Int) ∧ Hid (X = nf bs (p + (m - i)) i)) (fun _ si => (intOf si + 1).toNat)
  case atStart => exact ⟨0, 0, (m : Int) - 1, rfl, by first | rfl | (rw [IntKind.wrap_i64]; congr 1; omega) | go_num, Nat.zero_le _, by omega, by simp [Hid, nf, Pk.un]⟩
  case round =>
    obtain ⟨X, i, I, rfl, rfl, hi, hI, hX⟩ := hrel
    by_cases hlt : i < m
    · obtain ⟨J, hJ⟩ : ∃ J : Nat, J = m - i - 1 := ⟨_, rfl⟩
      obtain rfl : I = (J : Int) := by omega
      have hlt' : (0 : Int) ≤ (J : Int) := by omega
      obtain ⟨Q, hQ⟩ : ∃ Q : Nat, Q = p + J := ⟨_, rfl⟩
      have hQi : (p : Int) + (J : Int) = (Q : Int) := by omega
      have hQn : (Q : Int) < (n : Int) := by omega
      have hQn2 : Q < n := by omega
      have hQb : Q < bs.length := by have := hn.out; omega
      obtain ⟨q, hq, hcap, hcells⟩ := rowB hH.out.own (fun hh => by rw [hh] at hQb; exact absurd hQb (Nat.not_lt_zero _))
      subst hq
      have hcell := hcells Q hQb
      have hb := hH.out.byt _ (getD_mem hQb)
      have hnx : Hid (X * 256 + bs.getD Q 0 = nf bs (p + (m - (i + 1))) (i + 1)) := by
        show _ = _
        rw [show p + (m - (i + 1)) = Q by omega, nf_front hQb, hX.out, show p + (m - i) = Q + 1 by omega]
      generalize bs.getD Q 0 = b at hcell hb hnx
      have hXl : X < 256 ^ i := by rw [hX.out]; exact nf_lt hH.out.byt (by have := hn.out; omega)
      have h7 : 256 ^ i ≤ 256 ^ 7 := Nat.pow_le_pow_right (by decide) (by omega)
      have e7 : (256 : Nat) ^ 7 = 72057594037927936 := by decide
      obtain ⟨Z, hZ⟩ : ∃ Z : Nat, Z = X * 256 := ⟨_, rfl⟩
      have hZ1 : (X : Int) * 256 = (Z : Int) := by omega
      have hZ2 : IntKind.u64.wrap (Z : Int) = (Z : Int) := wrapId _ (by omega)
      obtain ⟨Y, hY⟩ : ∃ Y : Nat, Y = Z + b := ⟨_, rfl⟩
      have hY1 : (Z : Int) + (b : Int) = (Y : Int) := by omega
      have hY2 : IntKind.u64.wrap (Y : Int) = (Y : Int) := wrapId _ (by omega)
      have hnx2 : Hid (Y = nf bs (p + (m - (i + 1))) (i + 1)) := by show _ = _; rw [← hnx.out, hY, hZ]
      have hnew : Hid ((J : Int) - 1 = (m : Int) - 1 - ((i + 1 : Nat) : Int)) := by show _ = _; omega
      have hJb : (J : Int) ≤ 8 := by omega
      clear hcells hcap hX hnx hXl h7 e7 hZ hY hQ hJ hI
      go_wp2
      go_round
      case rel => exact ⟨Y, i + 1, (J : Int) - 1, rfl, by go_num, by omega, hnew.out, hnx2⟩
      case measure => simp [intOf]
    · have hIm : I = -1 := by omega
      subst hIm
      have hfin : Hid (X = nf bs p m) := by have h8 := hX.out; rw [show i = m by omega, Nat.sub_self, Nat.add_zero] at h8; exact h8
      clear hX
      go_wp2
      go_ret
      exact ⟨ret_int (congrArg Nat.cast hfin.out), rfl⟩
theorem frombits_n (b : Nat) (w : World) : (callFunc 76 #[.int .u64 (b : Int)]).run Tryd.prog w = .ok (.value (.float .f64 b)) w := by
  have := run_frombits (b : Int) w
  rw [Int.toNat_natCast] at this
  exact this
set_option maxHeartbeats 1000000 in
theorem tfloatAt_c (R : Nat → Prop) (g k p : Nat) (bs : List Nat) (w : World) (h : Rr R w g bs k) (hpm : p + 8 ≤ bs.length) :
    Calls Tryd.prog 86 #[.pointer (some ⟨g, 0, none⟩), .int .i64 (p : Int)] w fun e w' => e = .returned (.tuple #[.float .f64 (nf bs p 8), .bool ((bt (nf bs p 8) : Int) == (nf bs p 8 : Int))]) ∧ w = w' := by
  have hf := tfixed_c R g k p 8 bs w h (by decide) hpm
  have hl : nf bs p 8 < 18446744073709551616 := nf_8 h.byt hpm
  have hb := frombits_n
  clear h
  generalize nf bs p 8 = F at hf hl ⊢
  go_enter Tryd.func86, Tryd.ntmps86
  go_wp2_with fail
  refine hf.mono ?_
  rintro e w' ⟨rfl, rfl⟩
  go_wp2_with fail
  refine (rbits_c F w hl).mono ?_
  rintro e w' ⟨rfl, rfl⟩
  go_wp2
  go_ret2
  exact ⟨rfl, rfl⟩
theorem f32of_n (b : Nat) (w : World) : (callFunc 80 #[.int .u32 (b : Int)]).run Tryd.prog w = .ok (.value (.float .f32 b)) w := by
  have := run_f32of (b : Int) w
  rw [Int.toNat_natCast] at this
  exact this
set_option maxHeartbeats 1000000 in
theorem tfloat32At_c (R : Nat → Prop) (g k p : Nat) (bs : List Nat) (w : World) (h : Rr R w g bs k) (hpm : p + 4 ≤ bs.length) :
    Calls Tryd.prog 88 #[.pointer (some ⟨g, 0, none⟩), .int .i64 (p : Int)] w fun e w' => e = .returned (.tuple #[.float .f32 (nf bs p 4), .bool ((bt32 (nf bs p 4) : Int) == (nf bs p 4 : Int))]) ∧ w = w' := by
  have hf := tfixed_c R g k p 4 bs w h (by decide) hpm
  have hl : nf bs p 4 < 4294967296 := nf_4 h.byt hpm
  have hb := f32of_n
  clear h
  generalize nf bs p 4 = F at hf hl ⊢
  have hw : IntKind.u32.wrap (F : Int) = (F : Int) := by rw [IntKind.wrap_u32]; omega
  have hw2 : (F : Int) % 4294967296 = (F : Int) := by omega
  go_enter Tryd.func88, Tryd.ntmps88
  go_wp2_with fail
  refine hf.mono ?_
  rintro e w' ⟨rfl, rfl⟩
  go_wp2_with fail
  refine (pbits_c F w hl).mono ?_
  rintro e w' ⟨rfl, rfl⟩
  go_wp2
  go_ret2
  exact ⟨rfl, rfl⟩
end Go.Proofs.YtjckgcjcpmnhhaaDoor
/-
  timbreref04, what is read: Float, Complex, Narrow, Text.
-/
namespace Go.Proofs.YtjckgcjcpmnhhaaDoor
open Flo Go.RowKit
theorem beqT {a b : Nat} (h : a = b) : ((a : Int) == (b : Int)) = true := beq_iff_eq.2 (by rw [h])
theorem beqF {a b : Nat} (h : ¬ a = b) : ((a : Int) == (b : Int)) = false := beq_eq_false_iff_ne.2 (by omega)
set_option maxRecDepth 100000 in
set_option maxHeartbeats 2000000 in
theorem tfloat_c (R : Nat → Prop) (g k : Nat) (bs : List Nat) (w : World) (h : Rr R w g bs k) :
    Calls Tryd.prog 54 #[.pointer (some ⟨g, 0, none⟩)] w fun e w' => e = .returned (.tuple #[.float .f64 (Pk.ux (rfl_ bs k)), .int .i64 (en (rfl_ bs k) : Nat)]) ∧ Rr R w' g bs (k + Pk.ud (rfl_ bs k)) ∧ Fr (fun j => j = g) w w' := by
  have hRH : Hid (Rr R w g bs k) := h
  have hle := h.le
  have hbig := h.big
  obtain ⟨v, h⟩ := h
  obtain ⟨n, ao, cap, rfl, hn⟩ := h.slice
  have hH : Hid (RrV R w g (.slice ao n cap) bs k) := h
  have hc0 := h.c0
  have hc1 := h.c1
  have hfz := h.free
  clear h
  obtain ⟨D, hD⟩ : ∃ D : Nat, D = n - k := ⟨_, rfl⟩
  have hDi : (n : Int) - (k : Int) = (D : Int) := by have := hn.out; omega
  have hDb : (D : Int) ≤ 140737488355328 := by have := hn.out; omega
  by_cases hs : D < 8
  · have hr : rfl_ bs k = .error 0 := if_pos (by rw [← hn.out, ← hD]; exact hs)
    rw [hr]
    have hs' : (D : Int) < 8 := by omega
    have hkb : Hid (k ≤ bs.length) := hle
    clear hr hD hle hbig
    go_enter Tryd.func54, Tryd.ntmps54
    go_wp2
    go_region
    all_goals (
      go_wp2
      go_ret2
      exact ⟨rfl, ⟨_, hH.out.qt (Qt.drew w)⟩, (Qt.drew w).fr _⟩)
  · have hs' : decide ((D : Int) < 8) = false := decide_eq_false (by omega)
    have hlen : Hid (k + 8 ≤ bs.length) := by have := hn.out; show _ ≤ _; omega
    have hkl : (k : Int) ≤ 140737488355328 := by omega
    have hRd : Hid (Rr R w.drew g bs k) := hRH.out.qt (Qt.drew w)
    have hno : ¬ bs.length - k < 8 := by have := hlen.out; omega
    have hf0 : Hid (Calls Tryd.prog 86 #[.pointer (some ⟨g, 0, none⟩), .int .i64 ((k : Nat) : Int)] w.drew fun e w' => e = .returned (.tuple #[.float .f64 (nf bs k 8), .bool ((bt (nf bs k 8) : Int) == (nf bs k 8 : Int))]) ∧ w.drew = w') := tfloatAt_c R g k k bs w.drew hRd.out (by have := hlen.out; omega)
    have hrd : rfl_ bs k = if bt (nf bs k 8) = nf bs k 8 then .ok (nf bs k 8, 8) else .error 12 := if_neg hno
    rw [hrd]
    clear hrd hle hbig hno hD
    generalize nf bs k 8 = F0 at hf0 ⊢
    by_cases h0 : bt F0 = F0
    · rw [if_pos h0]
      have b0 := beqT h0
      rw [b0] at hf0
      have hKS : Hid ((k : Int) + 8 = ((k + 8 : Nat) : Int)) := by show _ = _; omega
      clear h0 b0
      go_enter Tryd.func54, Tryd.ntmps54
      go_wp2
      go_region
      all_goals (
        go_wp2_with fail
        refine hf0.out.mono ?_
        rintro e w' ⟨rfl, rfl⟩
        go_wp2
        go_ret2
        refine ⟨rfl, ⟨.slice ao n cap, ?_⟩, ?_⟩
        · have h8 := (hH.out.qt (Qt.drew w)).move (j := k + 8) hlen.out
          first | exact h8 | (rw [hKS.out]; exact h8) | (rw [← hKS.out] at h8; exact h8)
        · exact ((Qt.drew w).fr _).then (mv_fr w.drew g _))
    · rw [if_neg h0]
      have b0 := beqF h0
      rw [b0] at hf0
      clear h0 b0
      go_enter Tryd.func54, Tryd.ntmps54
      go_wp2
      go_region
      all_goals (
        go_wp2_with fail
        refine hf0.out.mono ?_
        rintro e w' ⟨rfl, rfl⟩
        go_wp2
        go_ret2
        exact ⟨rfl, ⟨_, hH.out.qt (Qt.drew w)⟩, (Qt.drew w).fr _⟩)
set_option maxRecDepth 100000 in
set_option maxHeartbeats 2000000 in
theorem tcomplex_c (R : Nat → Prop) (g k : Nat) (bs : List Nat) (w : World) (h : Rr R w g bs k) :
    Calls Tryd.prog 57 #[.pointer (some ⟨g, 0, none⟩)] w fun e w' => e = .returned (.tuple #[cxv (rcx bs k), .int .i64 (en (rcx bs k) : Nat)]) ∧ Rr R w' g bs (k + Pk.ud (rcx bs k)) ∧ Fr (fun j => j = g) w w' := by
  have hRH : Hid (Rr R w g bs k) := h
  have hle := h.le
  have hbig := h.big
  obtain ⟨v, h⟩ := h
  obtain ⟨n, ao, cap, rfl, hn⟩ := h.slice
  have hH : Hid (RrV R w g (.slice ao n cap) bs k) := h
  have hc0 := h.c0
  have hc1 := h.c1
  have hfz := h.free
  clear h
  obtain ⟨D, hD⟩ : ∃ D : Nat, D = n - k := ⟨_, rfl⟩
  have hDi : (n : Int) - (k : Int) = (D : Int) := by have := hn.out; omega
  have hDb : (D : Int) ≤ 140737488355328 := by have := hn.out; omega
  by_cases hs : D < 16
  · have hr : rcx bs k = .error 0 := if_pos (by rw [← hn.out, ← hD]; exact hs)
    rw [hr]
    have hs' : (D : Int) < 16 := by omega
    have hkb : Hid (k ≤ bs.length) := hle
    clear hr hD hle hbig
    go_enter Tryd.func57, Tryd.ntmps57
    go_wp2
    go_region
    all_goals (
      go_wp2
      go_ret2
      exact ⟨rfl, ⟨_, hH.out.qt (Qt.drew w)⟩, (Qt.drew w).fr _⟩)
  · have hs' : decide ((D : Int) < 16) = false := decide_eq_false (by omega)
    have hlen : Hid (k + 16 ≤ bs.length) := by have := hn.out; show _ ≤ _; omega
    have hkl : (k : Int) ≤ 140737488355328 := by omega
    have hRd : Hid (Rr R w.drew g bs k) := hRH.out.qt (Qt.drew w)
    have hno : ¬ bs.length - k < 16 := by have := hlen.out; omega
    have hf0 : Hid (Calls Tryd.prog 86 #[.pointer (some ⟨g, 0, none⟩), .int .i64 ((k : Nat) : Int)] w.drew fun e w' => e = .returned (.tuple #[.float .f64 (nf bs k 8), .bool ((bt (nf bs k 8) : Int) == (nf bs k 8 : Int))]) ∧ w.drew = w') := tfloatAt_c R g k k bs w.drew hRd.out (by have := hlen.out; omega)
    have hf1 : Hid (Calls Tryd.prog 86 #[.pointer (some ⟨g, 0, none⟩), .int .i64 (((k + 8) : Nat) : Int)] w.drew fun e w' => e = .returned (.tuple #[.float .f64 (nf bs (k + 8) 8), .bool ((bt (nf bs (k + 8) 8) : Int) == (nf bs (k + 8) 8 : Int))]) ∧ w.drew = w') := tfloatAt_c R g k (k + 8) bs w.drew hRd.out (by have := hlen.out; omega)
    obtain ⟨J1, hJ1⟩ : ∃ J1 : Nat, J1 = k + 8 := ⟨_, rfl⟩
    have hJi1 : (k : Int) + 8 = (J1 : Int) := by omega
    have hrd : rcx bs k = if bt (nf bs k 8) = nf bs k 8 ∧ bt (nf bs (k + 8) 8) = nf bs (k + 8) 8 then .ok ((nf bs k 8, nf bs (k + 8) 8), 16) else .error 12 := if_neg hno
    rw [← hJ1] at hf1 hrd
    clear hJ1
    rw [hrd]
    clear hrd hle hbig hno hD
    generalize nf bs k 8 = F0 at hf0 ⊢
    generalize nf bs J1 8 = F1 at hf1 ⊢
    by_cases h0 : bt F0 = F0
    · have b0 := beqT h0
      rw [b0] at hf0
      by_cases h1 : bt F1 = F1
      · rw [if_pos ⟨h0, h1⟩]
        have b1 := beqT h1
        rw [b1] at hf1
        have hKS : Hid ((k : Int) + 16 = ((k + 16 : Nat) : Int)) := by show _ = _; omega
        clear h0 h1 b0 b1
        go_enter Tryd.func57, Tryd.ntmps57
        go_wp2
        go_region
        all_goals (
          go_wp2_with fail
          refine hf0.out.mono ?_
          rintro e w' ⟨rfl, rfl⟩
          go_wp2_with fail
          refine hf1.out.mono ?_
          rintro e w' ⟨rfl, rfl⟩
          go_wp2
          go_ret2
          refine ⟨rfl, ⟨.slice ao n cap, ?_⟩, ?_⟩
          · have h8 := (hH.out.qt (Qt.drew w)).move (j := k + 16) hlen.out
            first | exact h8 | (rw [hKS.out]; exact h8) | (rw [← hKS.out] at h8; exact h8)
          · exact ((Qt.drew w).fr _).then (mv_fr w.drew g _))
      · rw [if_neg fun hh => h1 hh.2]
        have b1 := beqF h1
        rw [b1] at hf1
        clear h0 h1 b0 b1
        go_enter Tryd.func57, Tryd.ntmps57
        go_wp2
        go_region
        all_goals (
          go_wp2_with fail
          refine hf0.out.mono ?_
          rintro e w' ⟨rfl, rfl⟩
          go_wp2_with fail
          refine hf1.out.mono ?_
          rintro e w' ⟨rfl, rfl⟩
          go_wp2
          go_ret2
          exact ⟨rfl, ⟨_, hH.out.qt (Qt.drew w)⟩, (Qt.drew w).fr _⟩)
    · rw [if_neg fun hh => h0 hh.1]
      have b0 := beqF h0
      rw [b0] at hf0
      generalize ((bt F1 : Int) == (F1 : Int)) = B1 at hf1
      clear h0 b0
      go_enter Tryd.func57, Tryd.ntmps57
      go_wp2
      go_region
      all_goals (
        go_wp2_with fail
        refine hf0.out.mono ?_
        rintro e w' ⟨rfl, rfl⟩
        go_wp2_with fail
        refine hf1.out.mono ?_
        rintro e w' ⟨rfl, rfl⟩
        go_wp2
        go_ret2
        exact ⟨rfl, ⟨_, hH.out.qt (Qt.drew w)⟩, (Qt.drew w).fr _⟩)
set_option maxRecDepth 100000 in
set_option maxHeartbeats 2000000 in
theorem tnarrow_c (R : Nat → Prop) (g k : Nat) (bs : List Nat) (w : World) (h : Rr R w g bs k) :
    Calls Tryd.prog 60 #[.pointer (some ⟨g, 0, none⟩)] w fun e w' => e = .returned (.tuple #[nwv (rnw bs k), .int .i64 (en (rnw bs k) : Nat)]) ∧ Rr R w' g bs (k + Pk.ud (rnw bs k)) ∧ Fr (fun j => j = g) w w' := by
  have hRH : Hid (Rr R w g bs k) := h
  have hle := h.le
  have hbig := h.big
  obtain ⟨v, h⟩ := h
  obtain ⟨n, ao, cap, rfl, hn⟩ := h.slice
  have hH : Hid (RrV R w g (.slice ao n cap) bs k) := h
  have hc0 := h.c0
  have hc1 := h.c1
  have hfz := h.free
  clear h
  obtain ⟨D, hD⟩ : ∃ D : Nat, D = n - k := ⟨_, rfl⟩
  have hDi : (n : Int) - (k : Int) = (D : Int) := by have := hn.out; omega
  have hDb : (D : Int) ≤ 140737488355328 := by have := hn.out; omega
  by_cases hs : D < 8
  · have hr : rnw bs k = .error 0 := if_pos (by rw [← hn.out, ← hD]; exact hs)
    rw [hr]
    have hs' : (D : Int) < 8 := by omega
    have hkb : Hid (k ≤ bs.length) := hle
    clear hr hD hle hbig
    go_enter Tryd.func60, Tryd.ntmps60
    go_wp2
    go_region
    all_goals (
      go_wp2
      go_ret2
      exact ⟨rfl, ⟨_, hH.out.qt (Qt.drew w)⟩, (Qt.drew w).fr _⟩)
  · have hs' : decide ((D : Int) < 8) = false := decide_eq_false (by omega)
    have hlen : Hid (k + 8 ≤ bs.length) := by have := hn.out; show _ ≤ _; omega
    have hkl : (k : Int) ≤ 140737488355328 := by omega
    have hRd : Hid (Rr R w.drew g bs k) := hRH.out.qt (Qt.drew w)
    have hno : ¬ bs.length - k < 8 := by have := hlen.out; omega
    have hf0 : Hid (Calls Tryd.prog 88 #[.pointer (some ⟨g, 0, none⟩), .int .i64 ((k : Nat) : Int)] w.drew fun e w' => e = .returned (.tuple #[.float .f32 (nf bs k 4), .bool ((bt32 (nf bs k 4) : Int) == (nf bs k 4 : Int))]) ∧ w.drew = w') := tfloat32At_c R g k k bs w.drew hRd.out (by have := hlen.out; omega)
    have hf1 : Hid (Calls Tryd.prog 88 #[.pointer (some ⟨g, 0, none⟩), .int .i64 (((k + 4) : Nat) : Int)] w.drew fun e w' => e = .returned (.tuple #[.float .f32 (nf bs (k + 4) 4), .bool ((bt32 (nf bs (k + 4) 4) : Int) == (nf bs (k + 4) 4 : Int))]) ∧ w.drew = w') := tfloat32At_c R g k (k + 4) bs w.drew hRd.out (by have := hlen.out; omega)
    obtain ⟨J1, hJ1⟩ : ∃ J1 : Nat, J1 = k + 4 := ⟨_, rfl⟩
    have hJi1 : (k : Int) + 4 = (J1 : Int) := by omega
    have hrd : rnw bs k = if bt32 (nf bs k 4) = nf bs k 4 ∧ bt32 (nf bs (k + 4) 4) = nf bs (k + 4) 4 then .ok ((nf bs k 4, nf bs (k + 4) 4), 8) else .error 12 := if_neg hno
    rw [← hJ1] at hf1 hrd
    clear hJ1
    rw [hrd]
    clear hrd hle hbig hno hD
    generalize nf bs k 4 = F0 at hf0 ⊢
    generalize nf bs J1 4 = F1 at hf1 ⊢
    by_cases h0 : bt32 F0 = F0
    · have b0 := beqT h0
      rw [b0] at hf0
      by_cases h1 : bt32 F1 = F1
      · rw [if_pos ⟨h0, h1⟩]
        have b1 := beqT h1
        rw [b1] at hf1
        have hKS : Hid ((k : Int) + 8 = ((k + 8 : Nat) : Int)) := by show _ = _; omega
        clear h0 h1 b0 b1
        go_enter Tryd.func60, Tryd.ntmps60
        go_wp2
        go_region
        all_goals (
          go_wp2_with fail
          refine hf0.out.mono ?_
          rintro e w' ⟨rfl, rfl⟩
          go_wp2_with fail
          refine hf1.out.mono ?_
          rintro e w' ⟨rfl, rfl⟩
          go_wp2
          go_ret2
          refine ⟨rfl, ⟨.slice ao n cap, ?_⟩, ?_⟩
          · have h8 := (hH.out.qt (Qt.drew w)).move (j := k + 8) hlen.out
            first | exact h8 | (rw [hKS.out]; exact h8) | (rw [← hKS.out] at h8; exact h8)
          · exact ((Qt.drew w).fr _).then (mv_fr w.drew g _))
      · rw [if_neg fun hh => h1 hh.2]
        have b1 := beqF h1
        rw [b1] at hf1
        clear h0 h1 b0 b1
        go_enter Tryd.func60, Tryd.ntmps60
        go_wp2
        go_region
        all_goals (
          go_wp2_with fail
          refine hf0.out.mono ?_
          rintro e w' ⟨rfl, rfl⟩
          go_wp2_with fail
          refine hf1.out.mono ?_
          rintro e w' ⟨rfl, rfl⟩
          go_wp2
          go_ret2
          exact ⟨rfl, ⟨_, hH.out.qt (Qt.drew w)⟩, (Qt.drew w).fr _⟩)
    · rw [if_neg fun hh => h0 hh.1]
      have b0 := beqF h0
      rw [b0] at hf0
      generalize ((bt32 F1 : Int) == (F1 : Int)) = B1 at hf1
      clear h0 b0
      go_enter Tryd.func60, Tryd.ntmps60
      go_wp2
      go_region
      all_goals (
        go_wp2_with fail
        refine hf0.out.mono ?_
        rintro e w' ⟨rfl, rfl⟩
        go_wp2_with fail
        refine hf1.out.mono ?_
        rintro e w' ⟨rfl, rfl⟩
        go_wp2
        go_ret2
        exact ⟨rfl, ⟨_, hH.out.qt (Qt.drew w)⟩, (Qt.drew w).fr _⟩)
end Go.Proofs.YtjckgcjcpmnhhaaDoor
/-
  timbreref04, what is read: Text.
-/
namespace Go.Proofs.YtjckgcjcpmnhhaaDoor
open Flo Go.RowKit
theorem lxE {α : Type} (c : Nat) : lx (.error c : Except Nat (List α × Nat)) = [] := rfl
theorem lxO {α : Type} (xs : List α) (n : Nat) : lx (.ok (xs, n)) = xs := rfl
theorem upr_cases (most : Int) (hm : most ≤ 9223372036854775807) {bs : List Nat} (hb : ∀ b ∈ bs, b < 256) {k : Nat} (hk : k ≤ bs.length) {c j : Nat} (h : upr most (Pk.rv 0 0 (bs.drop k)) = .ok (c, j)) : (c : Int) ≤ most ∧ c ≤ 9223372036854775807 ∧ k + j ≤ bs.length := by
  have h1 := upr_bd hb k hk most
  rw [h] at h1
  obtain ⟨_, h2⟩ := upr_inv h
  exact ⟨h2, by omega, h1⟩
/-- a piece of a row, as a slice of it stands -/
def pcv (q K D cap : Nat) : Value := .slice (if cap = K then some ⟨q, 0, none⟩ else some ⟨q, K, none⟩) (D - K) (cap - K)
theorem pcv_conv {w : World} {q n K D cap c : Nat} {bs : List Nat} (h : OwB w (.slice (some ⟨q, 0, none⟩) n cap) bs) (hn : n = bs.length) (hb : ∀ b ∈ bs, b < 256) (hD : D = K + c) (hDn : D ≤ n) :
    (convert 26 9 (pcv q K D cap)).run Tryd.prog w = .ok (.string (mkS ((bs.drop K).take c))) w := by
  unfold pcv
  have hby : ∀ b ∈ (bs.drop K).take c, b < 256 := fun b hh => hb b (List.mem_of_mem_drop (List.mem_of_mem_take hh))
  have hDK : D - K = c := by omega
  by_cases hc : c = 0
  · subst hc
    rw [hDK]
    have e : (bs.drop K).take 0 = [] := rfl
    rw [e]
    by_cases hcK : cap = K
    · rw [if_pos hcK]
      exact conv_src (ys := []) (.inr ⟨⟨q, 0, none⟩, cap - K, rfl, fun j u hj => by simp [bc] at hj⟩) (fun b hb => by cases hb)
    · rw [if_neg hcK]
      exact conv_src (ys := []) (.inr ⟨⟨q, K, none⟩, cap - K, rfl, fun j u hj => by simp [bc] at hj⟩) (fun b hb => by cases hb)
  · have hne : bs ≠ [] := fun hh => by rw [hh] at hn; simp at hn; omega
    obtain ⟨q', h1, h2, h3⟩ := rowB h hne
    have hqq : q = q' := by injection h1 with h1; injection h1
    subst hqq
    have hcK : ¬ cap = K := by omega
    rw [if_neg hcK, hDK]
    refine conv_src ?_ hby
    have h7 := piece_srcO (w := w) (q := q) (o := 0) (K := K) (c := c) (cap := cap - K) (bs := bs) (fun i hi => by rw [Nat.zero_add]; exact h3 i hi) (by omega)
    rw [Nat.zero_add] at h7
    exact h7
set_option maxRecDepth 100000 in
set_option maxHeartbeats 2000000 in
theorem ttext_c (R : Nat → Prop) (g k : Nat) (most : Int) (bs : List Nat) (w : World) (h : Rr R w g bs k) (hm : most ≤ 9223372036854775807) :
    Calls Tryd.prog 62 #[.pointer (some ⟨g, 0, none⟩), .int .i64 most] w fun e w' => e = .returned (.tuple #[.string (mkS (lx (rtx most bs k))), .int .i64 (en (rtx most bs k) : Nat)]) ∧ Rr R w' g bs (k + Pk.ud (rtx most bs k)) ∧ Fr (fun j => j = g) w w' := by
  have hu := tupto_c R g k k most bs w h h.le hm
  have hRH : Hid (Rr R w g bs k) := h
  have hle := h.le
  have hbig := h.big
  have hby : Hid (∀ b ∈ bs, b < 256) := h.byt
  obtain ⟨v, h⟩ := h
  obtain ⟨n, ao, cap, rfl, hn⟩ := h.slice
  have hH : Hid (RrV R w g (.slice ao n cap) bs k) := h
  have hc0 := h.c0
  have hc1 := h.c1
  have hfz := h.free
  clear h
  cases hr : upr most (Pk.rv 0 0 (bs.drop k)) with
  | error c =>
    rw [hr, ux_err, udE, en_err, Nat.add_zero] at hu
    rw [rtx_e hr, lxE, en_err, udE, Nat.add_zero]
    obtain ⟨E, hE⟩ : ∃ E, E = c + 1 := ⟨_, rfl⟩
    rw [← hE] at hu ⊢
    have e1 : ((E : Int) == 0) = false := beq_eq_false_iff_ne.2 (by omega)
    have e2 : ((E : Int) != 0) = true := by simp [bne, e1]
    have huH : Hid (Calls Tryd.prog 84 #[.pointer (some ⟨g, 0, none⟩), .int .i64 (k : Int), .int .i64 most] w fun e w' => e = .returned (.tuple #[.int .i64 ((0 : Nat) : Int), .int .i64 (k : Int), .int .i64 (E : Int)]) ∧ w = w') := hu
    clear hE hr hle hbig hu
    go_enter Tryd.func62, Tryd.ntmps62
    go_wp2_with fail
    refine huH.out.mono ?_
    rintro e w' ⟨rfl, rfl⟩
    go_wp2
    go_ret2
    exact ⟨rfl, hRH.out, Fr.refl _ _⟩
  | ok p =>
    obtain ⟨c, j⟩ := p
    obtain ⟨hc1', hc2, hc3⟩ := upr_cases most hm hby.out hle hr
    rw [hr, uxO, udO, en_ok] at hu
    obtain ⟨K, hK⟩ : ∃ K, K = k + j := ⟨_, rfl⟩
    rw [← hK] at hu
    have hKn : K ≤ n := by have := hn.out; omega
    obtain ⟨L, hL⟩ : ∃ L : Nat, L = n - K := ⟨_, rfl⟩
    have hLi : (n : Int) - (K : Int) = (L : Int) := by omega
    have hLb : (L : Int) ≤ 140737488355328 := by have := hn.out; omega
    have huH : Hid (Calls Tryd.prog 84 #[.pointer (some ⟨g, 0, none⟩), .int .i64 (k : Int), .int .i64 most] w fun e w' => e = .returned (.tuple #[.int .i64 (c : Int), .int .i64 (K : Int), .int .i64 ((0 : Nat) : Int)]) ∧ w = w') := hu
    by_cases hs : L < c
    · have hrt : rtx most bs k = .error 0 := rtx_s hr (by rw [← hK, ← hn.out, ← hL]; exact hs)
      rw [hrt, lxE, en_err, udE, Nat.add_zero]
      have hs' : (L : Int) < (c : Int) := by omega
      clear hrt hr hle hbig hu hK hL hc1' hc2 hc3
      go_enter Tryd.func62, Tryd.ntmps62
      go_wp2_with fail
      refine huH.out.mono ?_
      rintro e w' ⟨rfl, rfl⟩
      go_wp2
      go_ret2
      exact ⟨rfl, hRH.out, Fr.refl _ _⟩
    · have hrt : rtx most bs k = .ok ((bs.drop K).take c, j + c) := by rw [hK]; exact rtx_ok hr (by rw [← hK, ← hn.out, ← hL]; exact hs)
      rw [hrt, lxO, en_ok, udO]
      have hs' : decide ((L : Int) < (c : Int)) = false := decide_eq_false (by omega)
      obtain ⟨D, hD⟩ : ∃ D, D = K + c := ⟨_, rfl⟩
      have hDi : (K : Int) + (c : Int) = (D : Int) := by omega
      have hDn : D ≤ n := by omega
      have hDk : Hid (k + (j + c) = D) := by show _ = _; omega
      have hDb : (D : Int) ≤ 140737488355328 := by have := hn.out; omega
      have hmv : Hid (RrV R (w.setCell ⟨g, 1, none⟩ (.int .i64 (D : Int))) g (.slice ao n cap) bs D) := hH.out.move (by rw [← hn.out]; exact hDn)
      have hc0' := hmv.out.c0
      rw [hDk.out]
      have hrow : OwB w (.slice ao n cap) bs := hH.out.own
      have hh : w.ownsRow 0 5 1 (.slice ao n cap) bs.length (bc bs) := hrow
      rcases hh.2 with ⟨hnil, hl0⟩ | ⟨q, cap', cur, he, hbg, hg', hnc, hcm, hcs, htake⟩
      · injection hnil with e1 e2 e3
        subst e1; subst e2; subst e3
        obtain rfl : D = 0 := by omega
        obtain rfl : K = 0 := by omega
        obtain rfl : c = 0 := by omega
        have hcv2 : (convert 26 9 (.slice none 0 0)).run Tryd.prog (w.setCell ⟨g, 1, none⟩ (.int .i64 0)) = .ok (.string (mkS ((bs.drop 0).take 0))) (w.setCell ⟨g, 1, none⟩ (.int .i64 0)) := conv_src (ys := []) (.inl ⟨rfl, rfl⟩) (fun b hb => by cases hb)
        have hu0 : Hid (Calls Tryd.prog 84 #[.pointer (some ⟨g, 0, none⟩), .int .i64 (k : Int), .int .i64 most] w fun e w' => e = .returned (.tuple #[.int .i64 0, .int .i64 0, .int .i64 0]) ∧ w = w') := huH.out
        have hc00 : (w.setCell ⟨g, 1, none⟩ (.int .i64 0)).cell? ⟨g, 0, none⟩ = some (.slice none 0 0) := hc0'
        have hfrr : Hid (Fr (fun j => j = g) w (w.setCell ⟨g, 1, none⟩ (.int .i64 ((0 : Nat) : Int)))) := mv_fr _ g _
        clear hrt hr hle hbig hu hK hL hc1' hc2 hc3 hD hh hrow hl0 huH hc0' hLi hLb hDi hDn hDb hs hs' hKn
        go_enter Tryd.func62, Tryd.ntmps62
        go_wp2_with fail
        refine hu0.out.mono ?_
        rintro e w' ⟨rfl, rfl⟩
        go_wp2
        go_ret2
        exact ⟨rfl, ⟨_, hmv.out⟩, hfrr.out⟩
      · injection he with e1 e2 e3
        subst e1
        have hcap : n ≤ cap := by rw [e3, e2]; exact hnc
        clear hh hrow hbg hg' hnc hcm hcs htake e2 e3
        have hcv : Hid (∀ W, OwB W (.slice (some ⟨q, 0, none⟩) n cap) bs → (convert 26 9 (pcv q K D cap)).run Tryd.prog W = .ok (.string (mkS ((bs.drop K).take c))) W) := fun W hW => pcv_conv hW hn.out hby.out hD hDn
        have hcv2 := hcv.out _ hmv.out.own
        unfold pcv at hcv2
        have k3 : (K : Int) ≤ (D : Int) := by omega
        have hfrr : Hid (Fr (fun j => j = g) w (w.setCell ⟨g, 1, none⟩ (.int .i64 (D : Int)))) := mv_fr _ g _
        have k4 : (D : Int) ≤ (cap : Int) := by omega
        have k6 : D ≤ cap := by omega
        have k7 : K ≤ D := by omega
        clear hrt hr hle hbig hu hK hL hc1' hc2 hc3 hD hcv hcap
        go_enter Tryd.func62, Tryd.ntmps62
        go_wp2_with fail
        refine huH.out.mono ?_
        rintro e w' ⟨rfl, rfl⟩
        go_wp2
        all_goals (
          go_ret2
          exact ⟨rfl, ⟨_, hmv.out⟩, hfrr.out⟩)
end Go.Proofs.YtjckgcjcpmnhhaaDoor
/-
  timbreref04, what is read: List, Floats.
-/
namespace Go.Proofs.YtjckgcjcpmnhhaaDoor
open Flo Go.RowKit
theorem rli_err {α : Type} {rd : Nat → Except Nat (α × Nat)} {bs : List Nat} {k c : Nat} (h : upr 1048576 (Pk.rv 0 0 (bs.drop k)) = .error c) : rli rd bs k = .error c := by
  unfold rli; rw [h]; rfl
theorem rli_ge {α : Type} {rd : Nat → Except Nat (α × Nat)} {bs : List Nat} {k c j e : Nat} (h : upr 1048576 (Pk.rv 0 0 (bs.drop k)) = .ok (c, j)) (h2 : go_ rd c (k + j) [] = .error e) : rli rd bs k = .error e := by
  unfold rli rlo rl2; rw [h]; simp only; rw [h2]
theorem rli_gk {α : Type} {rd : Nat → Except Nat (α × Nat)} {bs : List Nat} {k c j p : Nat} {xs : List α} (h : upr 1048576 (Pk.rv 0 0 (bs.drop k)) = .ok (c, j)) (h2 : go_ rd c (k + j) [] = .ok (xs, p)) : rli rd bs k = .ok (xs, p - k) := by
  unfold rli rlo rl2; rw [h]; simp only; rw [h2]
/-- the blocks of the Reader within -/
def Rs (R : Nat → Prop) (w : World) : Nat → Prop := fun b => (R b ∧ b < w.heap.size) ∨ b = w.heap.size
theorem inner {R : Nat → Prop} {w : World} {g k K : Nat} {v : Value} {bs : List Nat} (h : RrV R w g v bs k) (hK : K ≤ bs.length) (t : TypeId) : RrV (Rs R w) (w.alloc (.cells #[v, .int .i64 (K : Int)] t)) w.heap.size v bs K :=
  ⟨by simp, by simp, by simp, owns_block h.own fun b hb => Below.heap_alloc _ _ _ (World.ownsRow.lt h.own b hb).2, fun e => absurd (World.ownsRow.lt h.own _ e).2 (Nat.lt_irrefl _), .inr rfl, fun b hb => .inl ⟨h.rv b hb, (World.ownsRow.lt h.own b hb).2⟩, hK, h.big, h.byt⟩
set_option maxRecDepth 100000 in
set_option maxHeartbeats 4000000 in
theorem tlist_c (R : Nat → Prop) (g k : Nat) (bs : List Nat) (w : World) (h : Rr R w g bs k) :
    Calls Tryd.prog 63 #[.pointer (some ⟨g, 0, none⟩)] w fun e w' => ∃ v', e = .returned (.tuple #[v', .int .i64 (en (rli (rcx bs) bs k) : Nat)]) ∧ NewU 54 w w' v' (ccs (lx (rli (rcx bs) bs k))) ∧ Rr R w' g bs (k + Pk.ud (rli (rcx bs) bs k)) ∧ Fr (fun j => j = g) w w' := by
  have hu := tupto_c R g k k 1048576 bs w h h.le (by decide)
  have hRH : Hid (Rr R w g bs k) := h
  have hle := h.le
  have hby : Hid (∀ b ∈ bs, b < 256) := h.byt
  have hgl : Hid (g < w.heap.size) := h.lt
  obtain ⟨v, h⟩ := h
  obtain ⟨n, ao, cap, rfl, hn⟩ := h.slice
  have hH : Hid (RrV R w g (.slice ao n cap) bs k) := h
  have hc0 := h.c0
  have hc1 := h.c1
  have hfz := h.free
  clear h
  cases hr : upr 1048576 (Pk.rv 0 0 (bs.drop k)) with
  | error c =>
    rw [hr, ux_err, udE, en_err, Nat.add_zero] at hu
    rw [rli_err hr, lxE, en_err, udE, Nat.add_zero]
    obtain ⟨E, hE⟩ : ∃ E, E = c + 1 := ⟨_, rfl⟩
    rw [← hE] at hu ⊢
    have e1 : ((E : Int) == 0) = false := beq_eq_false_iff_ne.2 (by omega)
    have e2 : ((E : Int) != 0) = true := by simp [bne, e1]
    have huH : Hid (Calls Tryd.prog 84 #[.pointer (some ⟨g, 0, none⟩), .int .i64 (k : Int), .int .i64 1048576] w fun e w' => e = .returned (.tuple #[.int .i64 0, .int .i64 (k : Int), .int .i64 (E : Int)]) ∧ w = w') := hu
    clear hE hr hle hu
    go_enter Tryd.func63, Tryd.ntmps63
    go_wp2_with fail
    refine huH.out.mono ?_
    rintro e w' ⟨rfl, rfl⟩
    go_wp2
    refine wp_loop_rounds 1 ?_
    rw [rounds_succ]
    go_wp2
    go_ret2
    exact ⟨_, rfl, newU_nil _ _ _, hRH.out.under (Fr.of_below (S := fun _ => False) (((Below.refl _ _).alloc (Nat.le_refl _) _).alloc (by simp) _) fun j hj hj2 => by omega) fun _ _ hh => hh.elim, ((Fr.refl _ w).alloc _).alloc _⟩
  | ok p0 =>
    obtain ⟨c, j⟩ := p0
    obtain ⟨hcm, _, hc3⟩ := upr_cases 1048576 (by decide) hby.out hle hr
    have hcb : c ≤ 1048576 := by omega
    rw [hr, uxO, udO, en_ok] at hu
    obtain ⟨K, hK⟩ : ∃ K, K = k + j := ⟨_, rfl⟩
    rw [← hK] at hu hc3
    have q1 : Hid (∀ e, go_ (rcx bs) c K [] = .error e → rli (rcx bs) bs k = .error e) := by rw [hK]; exact fun e hh => rli_ge hr hh
    have q2 : Hid (∀ xs p, go_ (rcx bs) c K [] = .ok (xs, p) → rli (rcx bs) bs k = .ok (xs, p - k)) := by rw [hK]; exact fun xs p hh => rli_gk hr hh
    have hkK : Hid (k ≤ K) := by show _ ≤ _; omega
    have huH : Hid (Calls Tryd.prog 84 #[.pointer (some ⟨g, 0, none⟩), .int .i64 (k : Int), .int .i64 1048576] w fun e w' => e = .returned (.tuple #[.int .i64 (c : Int), .int .i64 (K : Int), .int .i64 0]) ∧ w = w') := hu
    have hin : Hid (RrV (Rs R w) (w.alloc (.cells #[.slice ao n cap, .int .i64 (K : Int)] 40)) w.heap.size (.slice ao n cap) bs K) := inner hH.out hc3 _
    clear hr hle hu hK hcm
    generalize rli (rcx bs) bs k = rr at q1 q2 ⊢
    go_enter Tryd.func63, Tryd.ntmps63
    go_wp2_with fail
    refine huH.out.mono ?_
    rintro e w' ⟨rfl, rfl⟩
    go_wp2
    go_loopg [6, 8, 9] c (fun gk se so si wl => ∃ i E p : Nat, ∃ acc : List (Nat × Nat), si = .int .i64 (i : Int) ∧ se = .int .i64 (E : Int) ∧ gk + i = c ∧ Hid (Rr (Rs R w) wl w.heap.size bs p) ∧ Hid (Below w.heap.size w wl) ∧ ((E = 0 ∧ Hid (OwU 54 wl so (ccs acc) ∧ acc.length = i ∧ ∀ b, so.ownBlock = some b → w.heap.size < b) ∧ Hid (go_ (rcx bs) c K [] = go_ (rcx bs) (c - i) p acc)) ∨ (E ≠ 0 ∧ Hid (rr = .error (E - 1)))))
    case atStart =>
      refine ⟨0, 0, K, [], rfl, rfl, rfl, ⟨_, hin.out.under ((Fr.refl (fun _ => False) _).alloc _) fun _ _ hh => hh.elim⟩, ((Below.refl _ _).alloc (Nat.le_refl _) _).alloc (by simp) _, .inl ⟨rfl, ⟨?_, rfl, fun b hb => ?_⟩, rfl⟩⟩
      · have := World.ownsRow_made (base := 0) (e := 54) (size := 1) (w.alloc (.cells #[.slice ao n cap, .int .i64 (K : Int)] 40)) #[] 0 (Nat.zero_le _) (by decide) rfl
        simpa [OwU, ccs] using this
      · cases hb; simp
    case round =>
      obtain ⟨i, E, p, acc, rfl, rfl, hi, hRl, hBl, hst⟩ := hrel
      rcases hst with ⟨rfl, hout, hgo⟩ | ⟨hE, hrr⟩
      · by_cases hlt : i < c
        · have hlt' : (i : Int) < (c : Int) := by omega
          have hacc : Hid ((ccs acc).length + 1 ≤ 1048577) := by show _ ≤ _; rw [ccs_len, hout.out.2.1]; omega
          have hstep := tcomplex_c (Rs R w) w.heap.size p bs wr hRl.out
          cases hrd : rcx bs p with
          | error c' =>
            rw [hrd, en_err, udE, Nat.add_zero] at hstep
            have hfin : Hid (rr = .error c') := q1.out c' (by rw [hgo.out]; exact go_err hrd (by omega))
            obtain ⟨E, hE⟩ : ∃ E, E = c' + 1 := ⟨_, rfl⟩
            rw [← hE] at hstep
            have hEH : Hid (E ≠ 0 ∧ rr = .error (E - 1)) := ⟨by omega, by rw [hE, Nat.add_sub_cancel]; exact hfin.out⟩
            have hstH : Hid (Calls Tryd.prog 57 #[.pointer (some ⟨w.heap.size, 0, none⟩)] wr fun e w' => e = .returned (.tuple #[.complex .f64 0 0, .int .i64 (E : Int)]) ∧ Rr (Rs R w) w' w.heap.size bs p ∧ Fr (fun j => j = w.heap.size) wr w') := hstep
            clear hstep hrd hE hfin
            go_wp2_with fail
            refine hstH.out.mono ?_
            rintro e w2 ⟨rfl, h1, h2⟩
            have hR2 : Hid (Rr (Rs R w) w2 w.heap.size bs p) := h1
            have hB2 : Hid (Below w.heap.size w w2) := h2.below hBl.out hBl.out.size fun j _ hj => by have h7 : j = w.heap.size := hj; omega
            have hO2 : Hid (OwU 54 w2 u8 (ccs acc)) := Fr.owns h2 hout.out.1 fun b hb hh => by have h7 : b = w.heap.size := hh; have h8 := hout.out.2.2 b hb; omega
            clear h1 h2
            go_wp2_with (first | (at_builtin; refine appU _ rfl _ _ 52 54 (.complex .f64 0 0) 16 rfl Tryd.underlying52 infoC rfl (ccs acc) (.complex .f64 0 0) rfl w2.heap.size u8 rfl rfl (World.ownsRow.alloc hO2.out _) (by simp) hacc.out (by decide) ?_) | fail)
            intro v3 w3 ho hgr hn3
            have hS3 : Hid (Fr (fun j => u8.ownBlock = some j) w2 w3) := ((Fr.refl _ w2).alloc _).grown hgr fun k hk => hk
            have hR3 : Hid (Rr (Rs R w) w3 w.heap.size bs p) := hR2.out.under hS3.out fun j _ hj hR => by
              have h8 := hout.out.2.2 j hj
              rcases hR with h9 | h9 <;> omega
            have hB3 : Hid (Below w.heap.size w w3) := hS3.out.below hB2.out hB2.out.size fun j _ hj => by have h8 := hout.out.2.2 j hj; omega
            clear ho hgr hn3
            go_wp2_with fail
            go_roundg (gk - 1)
            case measure => omega
            case rel => exact ⟨i + 1, E, p, acc, by go_num, rfl, by omega, hR3, hB3, .inr ⟨hEH.out.1, hEH.out.2⟩⟩
          | ok pp =>
            obtain ⟨⟨za, zb⟩, m⟩ := pp
            rw [hrd, en_ok, udO] at hstep
            have hnx : Hid (go_ (rcx bs) c K [] = go_ (rcx bs) (c - (i + 1)) (p + m) (acc ++ [(za, zb)])) := by
              show _ = _
              rw [hgo.out, go_ok hrd (by omega), Nat.sub_sub]
            have hstH : Hid (Calls Tryd.prog 57 #[.pointer (some ⟨w.heap.size, 0, none⟩)] wr fun e w' => e = .returned (.tuple #[.complex .f64 za zb, .int .i64 0]) ∧ Rr (Rs R w) w' w.heap.size bs (p + m) ∧ Fr (fun j => j = w.heap.size) wr w') := hstep
            clear hstep hrd
            go_wp2_with fail
            refine hstH.out.mono ?_
            rintro e w2 ⟨rfl, h1, h2⟩
            have hR2 : Hid (Rr (Rs R w) w2 w.heap.size bs (p + m)) := h1
            have hB2 : Hid (Below w.heap.size w w2) := h2.below hBl.out hBl.out.size fun j _ hj => by have h7 : j = w.heap.size := hj; omega
            have hO2 : Hid (OwU 54 w2 u8 (ccs acc)) := Fr.owns h2 hout.out.1 fun b hb hh => by have h7 : b = w.heap.size := hh; have h8 := hout.out.2.2 b hb; omega
            have hs2 : Hid (w.heap.size < w2.heap.size) := hR2.out.lt
            clear h1 h2
            go_wp2_with (first | (at_builtin; refine appU _ rfl _ _ 52 54 (.complex .f64 0 0) 16 rfl Tryd.underlying52 infoC rfl (ccs acc) (.complex .f64 za zb) rfl w2.heap.size u8 rfl rfl (World.ownsRow.alloc hO2.out _) (by simp) hacc.out (by decide) ?_) | fail)
            intro v3 w3 ho hgr hn3
            have hS3 : Hid (Fr (fun j => u8.ownBlock = some j) w2 w3) := ((Fr.refl _ w2).alloc _).grown hgr fun k hk => hk
            have hR3 : Hid (Rr (Rs R w) w3 w.heap.size bs (p + m)) := hR2.out.under hS3.out fun j _ hj hR => by
              have h8 := hout.out.2.2 j hj
              rcases hR with h9 | h9 <;> omega
            have hB3 : Hid (Below w.heap.size w w3) := hS3.out.below hB2.out hB2.out.size fun j _ hj => by have h8 := hout.out.2.2 j hj; omega
            have hO3 : Hid (OwU 54 w3 v3 (ccs (acc ++ [(za, zb)])) ∧ (acc ++ [(za, zb)]).length = i + 1 ∧ ∀ b, v3.ownBlock = some b → w.heap.size < b) := by
              refine ⟨?_, by rw [List.length_append, hout.out.2.1]; rfl, fun b hb => ?_⟩
              · unfold ccs
                rw [List.map_append]
                exact ho
              · rcases hn3 b hb with h8 | h8
                · exact hout.out.2.2 b h8
                · have h9 := hs2.out; have h10 : w2.heap.size ≤ b := Nat.le_trans (by simp) h8; omega
            clear ho hgr hn3
            go_wp2_with fail
            go_roundg (gk - 1)
            case measure => omega
            case rel => exact ⟨i + 1, 0, p + m, _, by go_num, rfl, by omega, hR3, hB3, .inl ⟨rfl, hO3.out, hnx⟩⟩
        · have hlt' : decide ((i : Int) < (c : Int)) = false := decide_eq_false (by omega)
          have hfin : Hid (rr = .ok (acc, p - k)) := q2.out acc p (by rw [hgo.out, show c - i = 0 by omega]; rfl)
          have hRV := hRl.out
          obtain ⟨vv, hRV⟩ := hRV
          have hsc := hRV.c1
          have hpl : Hid (p ≤ bs.length) := hRV.le
          have hmain : Hid (RrV R wr g (.slice ao n cap) bs k) := hH.out.under (Fr.of_below (S := fun _ => False) hBl.out fun j hj hj2 => by omega) fun _ _ hh => hh.elim
          have hm1 := hmain.out.c1
          have hm2 := hmain.out.free
          have hmv : Hid (RrV R (wr.setCell ⟨g, 1, none⟩ (.int .i64 (p : Int))) g (.slice ao n cap) bs p) := hmain.out.move hpl.out
          have hkp : Hid (k + (p - k) = p) := by
            have h8 : go_ (rcx bs) c K [] = .ok (acc, p) := by rw [hgo.out, show c - i = 0 by omega]; rfl
            have h9 := go_ge _ _ _ _ _ _ h8
            have h10 := hkK.out
            show _ = _
            omega
          have hO4 : Hid (NewU 54 w (wr.setCell ⟨g, 1, none⟩ (.int .i64 (p : Int))) u8 (ccs acc)) := ⟨owns_block hout.out.1 fun b hb => Below.heap_setCell _ _ _ _ fun e => by
            have h8 := hout.out.2.2 b hb; have h9 := hgl.out; have h10 : b = g := e; omega, fun b hb => Nat.le_of_lt (hout.out.2.2 b hb)⟩
          have hfr4 : Hid (Fr (fun j => j = g) w (wr.setCell ⟨g, 1, none⟩ (.int .i64 (p : Int)))) := (Fr.of_below hBl.out fun j hj hj2 => by omega).then (mv_fr wr g _)
          obtain ⟨n8, a8, c8, rfl, hn8⟩ := hout.out.1.slice
          clear hRV hout hgo q1 q2
          go_wp2
          go_ret2
          rw [hfin.out]
          refine ⟨_, rfl, hO4.out, ?_, hfr4.out⟩
          rw [udO, hkp.out]
          exact ⟨_, hmv.out⟩
      · have e1 : ((E : Int) == 0) = false := beq_eq_false_iff_ne.2 (by omega)
        have e2 : ((E : Int) != 0) = true := by simp [bne, e1]
        have hEe : Hid ((E : Int) = ((en rr : Nat) : Int)) := by show _ = _; rw [hrr.out, en_err]; omega
        have hRw : Hid (Rr R wr g bs k) := hRH.out.under (Fr.of_below (S := fun _ => False) hBl.out fun j hj hj2 => by omega) fun _ _ hh => hh.elim
        have hfr4 : Hid (Fr (fun j => j = g) w wr) := Fr.of_below hBl.out fun j hj hj2 => by omega
        clear hE q1 q2
        by_cases hlt : i < c
        · have hlt' : (i : Int) < (c : Int) := by omega
          go_wp2
          go_ret2
          rw [← hEe.out]
          refine ⟨_, rfl, ?_, ?_, hfr4.out⟩
          · rw [hrr.out, lxE]; exact newU_nil _ _ _
          · rw [hrr.out, udE, Nat.add_zero]; exact hRw.out
        · have hlt' : decide ((i : Int) < (c : Int)) = false := decide_eq_false (by omega)
          go_wp2
          go_ret2
          rw [← hEe.out]
          refine ⟨_, rfl, ?_, ?_, hfr4.out⟩
          · rw [hrr.out, lxE]; exact newU_nil _ _ _
          · rw [hrr.out, udE, Nat.add_zero]; exact hRw.out
set_option maxRecDepth 100000 in
set_option maxHeartbeats 4000000 in
theorem tfloats_c (R : Nat → Prop) (g k : Nat) (bs : List Nat) (w : World) (h : Rr R w g bs k) :
    Calls Tryd.prog 65 #[.pointer (some ⟨g, 0, none⟩)] w fun e w' => ∃ v', e = .returned (.tuple #[v', .int .i64 (en (rli (rfl_ bs) bs k) : Nat)]) ∧ NewU 61 w w' v' (fcs (lx (rli (rfl_ bs) bs k))) ∧ Rr R w' g bs (k + Pk.ud (rli (rfl_ bs) bs k)) ∧ Fr (fun j => j = g) w w' := by
  have hu := tupto_c R g k k 1048576 bs w h h.le (by decide)
  have hRH : Hid (Rr R w g bs k) := h
  have hle := h.le
  have hby : Hid (∀ b ∈ bs, b < 256) := h.byt
  have hgl : Hid (g < w.heap.size) := h.lt
  obtain ⟨v, h⟩ := h
  obtain ⟨n, ao, cap, rfl, hn⟩ := h.slice
  have hH : Hid (RrV R w g (.slice ao n cap) bs k) := h
  have hc0 := h.c0
  have hc1 := h.c1
  have hfz := h.free
  clear h
  cases hr : upr 1048576 (Pk.rv 0 0 (bs.drop k)) with
  | error c =>
    rw [hr, ux_err, udE, en_err, Nat.add_zero] at hu
    rw [rli_err hr, lxE, en_err, udE, Nat.add_zero]
    obtain ⟨E, hE⟩ : ∃ E, E = c + 1 := ⟨_, rfl⟩
    rw [← hE] at hu ⊢
    have e1 : ((E : Int) == 0) = false := beq_eq_false_iff_ne.2 (by omega)
    have e2 : ((E : Int) != 0) = true := by simp [bne, e1]
    have huH : Hid (Calls Tryd.prog 84 #[.pointer (some ⟨g, 0, none⟩), .int .i64 (k : Int), .int .i64 1048576] w fun e w' => e = .returned (.tuple #[.int .i64 0, .int .i64 (k : Int), .int .i64 (E : Int)]) ∧ w = w') := hu
    clear hE hr hle hu
    go_enter Tryd.func65, Tryd.ntmps65
    go_wp2_with fail
    refine huH.out.mono ?_
    rintro e w' ⟨rfl, rfl⟩
    go_wp2
    refine wp_loop_rounds 1 ?_
    rw [rounds_succ]
    go_wp2
    go_ret2
    exact ⟨_, rfl, newU_nil _ _ _, hRH.out.under (Fr.of_below (S := fun _ => False) (((Below.refl _ _).alloc (Nat.le_refl _) _).alloc (by simp) _) fun j hj hj2 => by omega) fun _ _ hh => hh.elim, ((Fr.refl _ w).alloc _).alloc _⟩
  | ok p0 =>
    obtain ⟨c, j⟩ := p0
    obtain ⟨hcm, _, hc3⟩ := upr_cases 1048576 (by decide) hby.out hle hr
    have hcb : c ≤ 1048576 := by omega
    rw [hr, uxO, udO, en_ok] at hu
    obtain ⟨K, hK⟩ : ∃ K, K = k + j := ⟨_, rfl⟩
    rw [← hK] at hu hc3
    have q1 : Hid (∀ e, go_ (rfl_ bs) c K [] = .error e → rli (rfl_ bs) bs k = .error e) := by rw [hK]; exact fun e hh => rli_ge hr hh
    have q2 : Hid (∀ xs p, go_ (rfl_ bs) c K [] = .ok (xs, p) → rli (rfl_ bs) bs k = .ok (xs, p - k)) := by rw [hK]; exact fun xs p hh => rli_gk hr hh
    have hkK : Hid (k ≤ K) := by show _ ≤ _; omega
    have huH : Hid (Calls Tryd.prog 84 #[.pointer (some ⟨g, 0, none⟩), .int .i64 (k : Int), .int .i64 1048576] w fun e w' => e = .returned (.tuple #[.int .i64 (c : Int), .int .i64 (K : Int), .int .i64 0]) ∧ w = w') := hu
    have hin : Hid (RrV (Rs R w) (w.alloc (.cells #[.slice ao n cap, .int .i64 (K : Int)] 40)) w.heap.size (.slice ao n cap) bs K) := inner hH.out hc3 _
    clear hr hle hu hK hcm
    generalize rli (rfl_ bs) bs k = rr at q1 q2 ⊢
    go_enter Tryd.func65, Tryd.ntmps65
    go_wp2_with fail
    refine huH.out.mono ?_
    rintro e w' ⟨rfl, rfl⟩
    go_wp2
    go_loopg [6, 8, 9] c (fun gk se so si wl => ∃ i E p : Nat, ∃ acc : List Nat, si = .int .i64 (i : Int) ∧ se = .int .i64 (E : Int) ∧ gk + i = c ∧ Hid (Rr (Rs R w) wl w.heap.size bs p) ∧ Hid (Below w.heap.size w wl) ∧ ((E = 0 ∧ Hid (OwU 61 wl so (fcs acc) ∧ acc.length = i ∧ ∀ b, so.ownBlock = some b → w.heap.size < b) ∧ Hid (go_ (rfl_ bs) c K [] = go_ (rfl_ bs) (c - i) p acc)) ∨ (E ≠ 0 ∧ Hid (rr = .error (E - 1)))))
    case atStart =>
      refine ⟨0, 0, K, [], rfl, rfl, rfl, ⟨_, hin.out.under ((Fr.refl (fun _ => False) _).alloc _) fun _ _ hh => hh.elim⟩, ((Below.refl _ _).alloc (Nat.le_refl _) _).alloc (by simp) _, .inl ⟨rfl, ⟨?_, rfl, fun b hb => ?_⟩, rfl⟩⟩
      · have := World.ownsRow_made (base := 0) (e := 61) (size := 1) (w.alloc (.cells #[.slice ao n cap, .int .i64 (K : Int)] 40)) #[] 0 (Nat.zero_le _) (by decide) rfl
        simpa [OwU, fcs] using this
      · cases hb; simp
    case round =>
      obtain ⟨i, E, p, acc, rfl, rfl, hi, hRl, hBl, hst⟩ := hrel
      rcases hst with ⟨rfl, hout, hgo⟩ | ⟨hE, hrr⟩
      · by_cases hlt : i < c
        · have hlt' : (i : Int) < (c : Int) := by omega
          have hacc : Hid ((fcs acc).length + 1 ≤ 1048577) := by show _ ≤ _; rw [fcs_len, hout.out.2.1]; omega
          have hstep := tfloat_c (Rs R w) w.heap.size p bs wr hRl.out
          cases hrd : rfl_ bs p with
          | error c' =>
            rw [hrd, en_err, udE, Nat.add_zero] at hstep
            have hfin : Hid (rr = .error c') := q1.out c' (by rw [hgo.out]; exact go_err hrd (by omega))
            obtain ⟨E, hE⟩ : ∃ E, E = c' + 1 := ⟨_, rfl⟩
            rw [← hE] at hstep
            have hEH : Hid (E ≠ 0 ∧ rr = .error (E - 1)) := ⟨by omega, by rw [hE, Nat.add_sub_cancel]; exact hfin.out⟩
            have hstH : Hid (Calls Tryd.prog 54 #[.pointer (some ⟨w.heap.size, 0, none⟩)] wr fun e w' => e = .returned (.tuple #[.float .f64 0, .int .i64 (E : Int)]) ∧ Rr (Rs R w) w' w.heap.size bs p ∧ Fr (fun j => j = w.heap.size) wr w') := hstep
            clear hstep hrd hE hfin
            go_wp2_with fail
            refine hstH.out.mono ?_
            rintro e w2 ⟨rfl, h1, h2⟩
            have hR2 : Hid (Rr (Rs R w) w2 w.heap.size bs p) := h1
            have hB2 : Hid (Below w.heap.size w w2) := h2.below hBl.out hBl.out.size fun j _ hj => by have h7 : j = w.heap.size := hj; omega
            have hO2 : Hid (OwU 61 w2 u8 (fcs acc)) := Fr.owns h2 hout.out.1 fun b hb hh => by have h7 : b = w.heap.size := hh; have h8 := hout.out.2.2 b hb; omega
            clear h1 h2
            go_wp2_with (first | (at_builtin; refine appU _ rfl _ _ 87 61 (.float .f64 0) 8 rfl Tryd.underlying87 infoF rfl (fcs acc) (.float .f64 0) rfl w2.heap.size u8 rfl rfl (World.ownsRow.alloc hO2.out _) (by simp) hacc.out (by decide) ?_) | fail)
            intro v3 w3 ho hgr hn3
            have hS3 : Hid (Fr (fun j => u8.ownBlock = some j) w2 w3) := ((Fr.refl _ w2).alloc _).grown hgr fun k hk => hk
            have hR3 : Hid (Rr (Rs R w) w3 w.heap.size bs p) := hR2.out.under hS3.out fun j _ hj hR => by
              have h8 := hout.out.2.2 j hj
              rcases hR with h9 | h9 <;> omega
            have hB3 : Hid (Below w.heap.size w w3) := hS3.out.below hB2.out hB2.out.size fun j _ hj => by have h8 := hout.out.2.2 j hj; omega
            clear ho hgr hn3
            go_wp2_with fail
            go_roundg (gk - 1)
            case measure => omega
            case rel => exact ⟨i + 1, E, p, acc, by go_num, rfl, by omega, hR3, hB3, .inr ⟨hEH.out.1, hEH.out.2⟩⟩
          | ok pp =>
            obtain ⟨za, m⟩ := pp
            rw [hrd, en_ok, udO] at hstep
            have hnx : Hid (go_ (rfl_ bs) c K [] = go_ (rfl_ bs) (c - (i + 1)) (p + m) (acc ++ [za])) := by
              show _ = _
              rw [hgo.out, go_ok hrd (by omega), Nat.sub_sub]
            have hstH : Hid (Calls Tryd.prog 54 #[.pointer (some ⟨w.heap.size, 0, none⟩)] wr fun e w' => e = .returned (.tuple #[.float .f64 za, .int .i64 0]) ∧ Rr (Rs R w) w' w.heap.size bs (p + m) ∧ Fr (fun j => j = w.heap.size) wr w') := hstep
            clear hstep hrd
            go_wp2_with fail
            refine hstH.out.mono ?_
            rintro e w2 ⟨rfl, h1, h2⟩
            have hR2 : Hid (Rr (Rs R w) w2 w.heap.size bs (p + m)) := h1
            have hB2 : Hid (Below w.heap.size w w2) := h2.below hBl.out hBl.out.size fun j _ hj => by have h7 : j = w.heap.size := hj; omega
            have hO2 : Hid (OwU 61 w2 u8 (fcs acc)) := Fr.owns h2 hout.out.1 fun b hb hh => by have h7 : b = w.heap.size := hh; have h8 := hout.out.2.2 b hb; omega
            have hs2 : Hid (w.heap.size < w2.heap.size) := hR2.out.lt
            clear h1 h2
            go_wp2_with (first | (at_builtin; refine appU _ rfl _ _ 87 61 (.float .f64 0) 8 rfl Tryd.underlying87 infoF rfl (fcs acc) (.float .f64 za) rfl w2.heap.size u8 rfl rfl (World.ownsRow.alloc hO2.out _) (by simp) hacc.out (by decide) ?_) | fail)
            intro v3 w3 ho hgr hn3
            have hS3 : Hid (Fr (fun j => u8.ownBlock = some j) w2 w3) := ((Fr.refl _ w2).alloc _).grown hgr fun k hk => hk
            have hR3 : Hid (Rr (Rs R w) w3 w.heap.size bs (p + m)) := hR2.out.under hS3.out fun j _ hj hR => by
              have h8 := hout.out.2.2 j hj
              rcases hR with h9 | h9 <;> omega
            have hB3 : Hid (Below w.heap.size w w3) := hS3.out.below hB2.out hB2.out.size fun j _ hj => by have h8 := hout.out.2.2 j hj; omega
            have hO3 : Hid (OwU 61 w3 v3 (fcs (acc ++ [za])) ∧ (acc ++ [za]).length = i + 1 ∧ ∀ b, v3.ownBlock = some b → w.heap.size < b) := by
              refine ⟨?_, by rw [List.length_append, hout.out.2.1]; rfl, fun b hb => ?_⟩
              · unfold fcs
                rw [List.map_append]
                exact ho
              · rcases hn3 b hb with h8 | h8
                · exact hout.out.2.2 b h8
                · have h9 := hs2.out; have h10 : w2.heap.size ≤ b := Nat.le_trans (by simp) h8; omega
            clear ho hgr hn3
            go_wp2_with fail
            go_roundg (gk - 1)
            case measure => omega
            case rel => exact ⟨i + 1, 0, p + m, _, by go_num, rfl, by omega, hR3, hB3, .inl ⟨rfl, hO3.out, hnx⟩⟩
        · have hlt' : decide ((i : Int) < (c : Int)) = false := decide_eq_false (by omega)
          have hfin : Hid (rr = .ok (acc, p - k)) := q2.out acc p (by rw [hgo.out, show c - i = 0 by omega]; rfl)
          have hRV := hRl.out
          obtain ⟨vv, hRV⟩ := hRV
          have hsc := hRV.c1
          have hpl : Hid (p ≤ bs.length) := hRV.le
          have hmain : Hid (RrV R wr g (.slice ao n cap) bs k) := hH.out.under (Fr.of_below (S := fun _ => False) hBl.out fun j hj hj2 => by omega) fun _ _ hh => hh.elim
          have hm1 := hmain.out.c1
          have hm2 := hmain.out.free
          have hmv : Hid (RrV R (wr.setCell ⟨g, 1, none⟩ (.int .i64 (p : Int))) g (.slice ao n cap) bs p) := hmain.out.move hpl.out
          have hkp : Hid (k + (p - k) = p) := by
            have h8 : go_ (rfl_ bs) c K [] = .ok (acc, p) := by rw [hgo.out, show c - i = 0 by omega]; rfl
            have h9 := go_ge _ _ _ _ _ _ h8
            have h10 := hkK.out
            show _ = _
            omega
          have hO4 : Hid (NewU 61 w (wr.setCell ⟨g, 1, none⟩ (.int .i64 (p : Int))) u8 (fcs acc)) := ⟨owns_block hout.out.1 fun b hb => Below.heap_setCell _ _ _ _ fun e => by
            have h8 := hout.out.2.2 b hb; have h9 := hgl.out; have h10 : b = g := e; omega, fun b hb => Nat.le_of_lt (hout.out.2.2 b hb)⟩
          have hfr4 : Hid (Fr (fun j => j = g) w (wr.setCell ⟨g, 1, none⟩ (.int .i64 (p : Int)))) := (Fr.of_below hBl.out fun j hj hj2 => by omega).then (mv_fr wr g _)
          obtain ⟨n8, a8, c8, rfl, hn8⟩ := hout.out.1.slice
          clear hRV hout hgo q1 q2
          go_wp2
          go_ret2
          rw [hfin.out]
          refine ⟨_, rfl, hO4.out, ?_, hfr4.out⟩
          rw [udO, hkp.out]
          exact ⟨_, hmv.out⟩
      · have e1 : ((E : Int) == 0) = false := beq_eq_false_iff_ne.2 (by omega)
        have e2 : ((E : Int) != 0) = true := by simp [bne, e1]
        have hEe : Hid ((E : Int) = ((en rr : Nat) : Int)) := by show _ = _; rw [hrr.out, en_err]; omega
        have hRw : Hid (Rr R wr g bs k) := hRH.out.under (Fr.of_below (S := fun _ => False) hBl.out fun j hj hj2 => by omega) fun _ _ hh => hh.elim
        have hfr4 : Hid (Fr (fun j => j = g) w wr) := Fr.of_below hBl.out fun j hj hj2 => by omega
        clear hE q1 q2
        by_cases hlt : i < c
        · have hlt' : (i : Int) < (c : Int) := by omega
          go_wp2
          go_ret2
          rw [← hEe.out]
          refine ⟨_, rfl, ?_, ?_, hfr4.out⟩
          · rw [hrr.out, lxE]; exact newU_nil _ _ _
          · rw [hrr.out, udE, Nat.add_zero]; exact hRw.out
        · have hlt' : decide ((i : Int) < (c : Int)) = false := decide_eq_false (by omega)
          go_wp2
          go_ret2
          rw [← hEe.out]
          refine ⟨_, rfl, ?_, ?_, hfr4.out⟩
          · rw [hrr.out, lxE]; exact newU_nil _ _ _
          · rw [hrr.out, udE, Nat.add_zero]; exact hRw.out
end Go.Proofs.YtjckgcjcpmnhhaaDoor
