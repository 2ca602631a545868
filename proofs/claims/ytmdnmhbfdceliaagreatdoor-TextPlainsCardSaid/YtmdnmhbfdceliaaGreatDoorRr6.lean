/-
  The document's exact, decimal, zeros, up.
-/
import Derived.Test.YtmdnmhbfdceliaaGreatDoorNb3
import Derived.Test.YtmdnmhbfdceliaaGreatDoorNb4
import Derived.Test.YtmdnmhbfdceliaaGreatDoorQi
namespace Go.Proofs.YtmdnmhbfdceliaaGreatDoor
open Flo Go.RowKit
theorem dtx_pos {N : Nat} (h : 0 < N) : dtx N = Lib.decDigits N := by unfold dtx; rw [if_neg (by omega)]
theorem nw2 {n b K : Nat} (h : n < 2 ^ b) (hb : b ≤ 32 * K) : Wd.nw W32 n ≤ K := nw_bit32 (Nat.lt_of_lt_of_le h (Nat.pow_le_pow_right (by decide) hb))
theorem pow5_lt (i : Nat) : 5 ^ i ≤ 2 ^ (3 * i) := by rw [Nat.pow_mul]; exact Nat.pow_le_pow_left (by decide) i
theorem m5_lt {m i : Nat} (h : m < 9007199254740992) : m * 5 ^ i < 2 ^ (53 + 3 * i) := by
  rw [Nat.pow_add]
  exact Nat.lt_of_lt_of_le (Nat.mul_lt_mul_of_pos_right (show m < 2 ^ 53 from h) (Nat.pow_pos (by decide))) (Nat.mul_le_mul_left _ (pow5_lt i))
set_option maxRecDepth 100000 in
set_option maxHeartbeats 1000000 in
theorem rexact_c (s E m : Nat) (w : World) (hs : Hid (s = E * 4503599627370496 + m)) (h0 : 0 < m) (h1 : m < 9007199254740992) (h2 : Hid ((E = 0) ∨ 4503599627370496 ≤ m)) (hE : E ≤ 2045) :
    Calls Tryz.prog 29 #[.int .u64 s] w fun e w' => e = .returned (.tuple #[.string (B (Lib.decDigits (Rd.exA m ((E : Int) - 1074)))), .int .i64 (Rd.exX ((E : Int) - 1074))]) ∧ Below w.heap.size w w' := by
  have hpt : Hid (Calls Tryz.prog 55 #[.int .u64 s] w fun e w' => e = .returned (.tuple #[.int .u64 (m : Nat), .int .i64 ((E : Int) - 1074)]) ∧ w = w') := nparts_c s E m w hs.out h1 h2.out hE
  clear hs h2
  by_cases hc : 1074 ≤ E
  · obtain ⟨c, rfl⟩ : ∃ c, E = 1074 + c := ⟨E - 1074, by omega⟩
    have hA : Hid (Rd.exA m (((1074 + c : Nat) : Int) - 1074) = m * 2 ^ c ∧ Rd.exX (((1074 + c : Nat) : Int) - 1074) = 0) := by
      unfold Rd.exA Rd.exX
      refine ⟨?_, ?_⟩
      · rw [if_pos (by omega), show (((1074 + c : Nat) : Int) - 1074).toNat = c by omega]
      · rw [if_pos (by omega)]
    have hcI : ((1074 + c : Nat) : Int) - 1074 = (c : Int) := by omega
    have hn1 : Wd.nw W32 m ≤ 10 := nw2 (b := 53) h1 (by omega)
    have hn2 : Hid (Wd.nw W32 (m * 2 ^ c) ≤ 10000) := by
      refine Nat.le_trans (nw2 (b := 53 + c) (K := 100) ?_ (by omega)) (by decide)
      rw [Nat.pow_add]; exact Nat.mul_lt_mul_of_pos_right h1 (Nat.two_pow_pos c)
    have hp : Hid (0 < m * 2 ^ c) := Nat.mul_pos h0 (Nat.two_pow_pos c)
    rw [hA.out.1, hA.out.2]
    rw [hcI] at hpt
    clear hA hcI
    go_enter Tryz.func29, Tryz.ntmps29
    go_wp2_with fail
    refine hpt.out.mono ?_
    rintro e w' ⟨rfl, rfl⟩
    clear hpt
    go_wp2_with fail
    refine (nof_c m w (by omega)).mono ?_
    rintro e w1 ⟨v, rfl, hv, hb⟩
    have hvH : Hid (Nm w1 0 v m) := hv.mono (Nat.zero_le _)
    have hbH : Hid (Below w.heap.size w w1) := hb
    have hsz := hb.size
    clear hv hb
    go_wp2_with fail
    refine (nshift_c 0 m c v w1 hvH.out (by omega) (by omega)).mono ?_
    rintro e w2 ⟨v2, rfl, hv2, hb2⟩
    have hv2H : Hid (Nm w2 0 v2 (m * 2 ^ c)) := hv2.mono (Nat.zero_le _)
    have hb2H : Hid (Below w.heap.size w w2) := hbH.out.trans (hb2.mono hsz)
    have hs2 := hb2H.out.size
    clear hv2 hb2 hbH hvH
    go_wp2_with fail
    refine (ndec_c (m * 2 ^ c) v2 w2 hv2H hn2).mono ?_
    rintro e w3 ⟨rfl, hb3⟩
    have hb3H : Hid (Below w.heap.size w w3) := hb2H.out.trans (hb3.mono hs2)
    rw [dtx_pos hp.out]
    clear hb3 hb2H hv2H hp hn2
    go_wp2
    go_ret2
    exact ⟨rfl, hb3H.out⟩
  · obtain ⟨c, hcE⟩ : ∃ c, E + c = 1074 := ⟨1074 - E, by omega⟩
    have hcI : (E : Int) - 1074 = -(c : Int) := by omega
    have hA : Hid (Rd.exA m ((E : Int) - 1074) = m * 5 ^ c ∧ Rd.exX ((E : Int) - 1074) = -(c : Int)) := by
      unfold Rd.exA Rd.exX
      refine ⟨?_, ?_⟩
      · rw [if_neg (by omega), show (-((E : Int) - 1074)).toNat = c by omega]
      · rw [if_neg (by omega)]; omega
    have hc0 : 0 < c := by omega
    have hcl : c ≤ 1074 := by omega
    have hneg : -(c : Int) < 0 := by omega
    have hcn : decide (c = 0) = false := decide_eq_false (by omega)
    rw [hA.out.1, hA.out.2]
    rw [hcI] at hpt
    clear hA hcI hcE hc
    go_enter Tryz.func29, Tryz.ntmps29
    go_wp2_with fail
    refine hpt.out.mono ?_
    rintro e w' ⟨rfl, rfl⟩
    clear hpt
    go_wp2_with fail
    refine (nof_c m w (by omega)).mono ?_
    rintro e w1 ⟨v, rfl, hv, hb⟩
    have hvH : Hid (Nm w1 0 v m) := hv.mono (Nat.zero_le _)
    have hbH : Hid (Below w.heap.size w w1) := hb
    have hsz := hb.size
    clear hv hb
    go_wp2
    go_loopw [6, 7] (fun sv si wr => ∃ i : Nat, i ≤ c ∧ si = .int .i64 i ∧ Hid (Nm wr 0 sv (m * 5 ^ i)) ∧ Hid (Below w.heap.size w wr)) (fun _ si _ => c - (intOf si).toNat)
    case atStart => exact ⟨0, Nat.zero_le _, rfl, by rw [Nat.pow_zero, Nat.mul_one]; exact hvH, hbH⟩
    case round =>
      clear hvH hbH
      obtain ⟨i, hi, rfl, hrow, hbx⟩ := hrel
      have hsx := hbx.out.size
      have hnw : Wd.nw W32 (m * 5 ^ i) ≤ 110 := nw2 (m5_lt h1) (by omega)
      by_cases hlt : i < c
      · have hlt' : (i : Int) < (c : Int) := by omega
        go_wp2_with fail
        refine (nmul_c 0 5 0 (m * 5 ^ i) _ wr hrow.out (by omega) (by decide) (by decide)).mono ?_
        rintro e w2 ⟨v2, rfl, hv2, hb2⟩
        have hv2H : Hid (Nm w2 0 v2 (m * 5 ^ (i + 1))) := by rw [Nat.pow_succ, ← Nat.mul_assoc]; exact hv2.mono (Nat.zero_le _)
        have hb2H : Hid (Below w.heap.size w w2) := hbx.out.trans (hb2.mono hsx)
        clear hv2 hb2 hrow hbx hnw
        go_wp2
        go_roundw
        case rel => exact ⟨i + 1, by omega, by go_num, hv2H, hb2H⟩
        case measure => simp [intOf]; omega
      · have hlt' : ¬ ((i : Int) < (c : Int)) := by omega
        have hic : i = c := by omega
        subst hic
        have hp : Hid (0 < m * 5 ^ i) := Nat.mul_pos h0 (Nat.pow_pos (by decide))
        have hnwH : Hid (Wd.nw W32 (m * 5 ^ i) ≤ 10000) := Nat.le_trans hnw (by decide)
        clear hnw
        go_wp2_with fail
        refine (ndec_c (m * 5 ^ i) _ wr hrow hnwH).mono ?_
        rintro e w3 ⟨rfl, hb3⟩
        have hb3H : Hid (Below w.heap.size w w3) := hbx.out.trans (hb3.mono hsx)
        rw [dtx_pos hp.out]
        clear hb3 hbx hrow hp hnwH
        go_wp2
        go_ret2
        exact ⟨rfl, hb3H.out⟩
set_option maxRecDepth 100000 in
set_option maxHeartbeats 1000000 in
theorem rdecimal_c (n : Nat) (w : World) (hn : n ≤ 100000) :
    Calls Tryz.prog 16 #[.int .i64 n] w fun e w' => e = .returned (.string (B (Lib.decDigits n))) ∧ Below w.heap.size w w' := by
  go_enter Tryz.func16, Tryz.ntmps16
  go_wp2_with fail
  refine (nof_c n w (by omega)).mono ?_
  rintro e w1 ⟨v, rfl, hv, hb⟩
  have hvH : Hid (Nm w1 0 v n) := hv.mono (Nat.zero_le _)
  have hbH : Hid (Below w.heap.size w w1) := hb
  have hsz := hb.size
  clear hv hb
  go_wp2_with fail
  refine (ndec_c n v w1 hvH (nw2 (b := 32) (by omega) (by omega))).mono ?_
  rintro e w2 ⟨rfl, hb2⟩
  have hb2H : Hid (Below w.heap.size w w2) := hbH.out.trans (hb2.mono hsz)
  clear hb2 hbH hvH
  by_cases h0 : n = 0
  · subst h0
    have hz : (B (dtx 0)).toList.isEmpty = true := by rw [B_toList]; rfl
    go_wp2
    go_ret
    exact ⟨by rw [Dg.dd_small (by decide)]; rfl, hb2H.out⟩
  · rw [dtx_pos (by omega)]
    have hne := Dg.dd_ne n
    have hz : (B (Lib.decDigits n)).toList.isEmpty = false := by rw [B_toList]; cases h : Lib.decDigits n with | nil => exact absurd h hne | cons x l => rfl
    go_wp2
    go_ret
    exact ⟨rfl, hb2H.out⟩
set_option maxRecDepth 100000 in
set_option maxHeartbeats 1000000 in
theorem rzeros_c (l : List UInt8) (w : World) (hl : l.length ≤ 100000) :
    Calls Tryz.prog 32 #[.string (B l)] w fun e w' => e = .returned (.bool (l.all fun b => b.toNat == 48)) ∧ w = w' := by
  have hsz : (B l).size = l.length := B_size l
  obtain ⟨R, hR⟩ : ∃ R, B l = R := ⟨_, rfl⟩
  have hget : Hid (∀ i (h : i < R.size), l[i]? = some R[i]) := fun i h => by subst hR; exact ba_get (B l) i h
  obtain ⟨z, hz⟩ : ∃ z, Hid ((l.all fun b => b.toNat == 48) = z) := ⟨_, rfl⟩
  rw [hz.out]
  rw [hR] at hsz ⊢
  clear hR
  go_enter Tryz.func32, Tryz.ntmps32
  go_wp2
  go_loop [3] (fun s => ∃ i : Nat, i ≤ l.length ∧ s = .int .i64 i ∧ Hid ((l.take i).all (fun b => b.toNat == 48) = true)) (fun s => l.length - (intOf s).toNat)
  case atStart => exact ⟨0, Nat.zero_le _, rfl, rfl⟩
  case round =>
    obtain ⟨i, hi, rfl, ha⟩ := hrel
    by_cases hlt : i < R.size
    · have hlt' : (i : Int) < (R.size : Int) := by omega
      have hg := hget.out i hlt
      by_cases h48 : R[i].toNat = 48
      · have hn : Hid ((l.take (i + 1)).all (fun b => b.toNat == 48) = true) := by
          show _ = _
          rw [Dg.take_snoc hg, List.all_append, ha.out]
          simp [h48]
        have h48' : ((R[i].toNat : Int) != 48) = false := by simp; omega
        clear hg
        go_wp2
        go_round
        case rel => exact ⟨i + 1, by omega, by go_num, hn⟩
        case measure => simp [intOf]; omega
      · have hzf : z = false := by
          rw [← hz.out, List.all_eq_false]
          exact ⟨R[i], List.mem_of_getElem? hg, by simp [h48]⟩
        have h48' : ((R[i].toNat : Int) != 48) = true := by simp; omega
        subst hzf
        clear hg
        go_wp2
        go_ret
        exact ⟨rfl, rfl⟩
    · have hlt' : ¬ ((i : Int) < (R.size : Int)) := by omega
      have hzt : z = true := by
        have := ha.out
        rw [List.take_of_length_le (by omega), hz.out] at this
        exact this
      subst hzt
      go_wp2
      go_ret
      exact ⟨rfl, rfl⟩
set_option maxRecDepth 100000 in
set_option maxHeartbeats 1000000 in
theorem rup_c (ds : ByteArray) (D : Nat) (w : World) (hs : ds.size ≤ 400) (hDv : Hid (Dg.dv ds.data.toList = D)) (hd : Hid (∀ b ∈ ds.data.toList, Dg.isD b = true)) (hD : Hid (0 < D)) :
    Calls Tryz.prog 30 #[.string ds] w fun e w' => e = .returned (.string (B (Lib.decDigits (D + 1)))) ∧ Below w.heap.size w w' := by
  have hmade : Hid (Nm (w.alloc (.cells #[] 87)) 0 (.slice (some ⟨w.heap.size, 0, none⟩) 0 0) 0) := by
    show Row _ _ _ _ _ _ _
    rw [Wd.nw_zero]
    exact World.ownsRow_made w #[] 0 (Nat.zero_le _) (by decide) rfl
  go_enter Tryz.func30, Tryz.ntmps30
  go_wp2
  go_loopw [3, 4] (fun sv si wr => ∃ i : Nat, i ≤ ds.size ∧ si = .int .i64 i ∧ Hid (Nm wr 0 sv (Dg.dv (ds.data.toList.take i))) ∧ Hid (Below w.heap.size w wr)) (fun _ si _ => ds.size - (intOf si).toNat)
  case atStart => exact ⟨0, by omega, rfl, hmade, (Below.refl _ _).alloc (Nat.le_refl _) _⟩
  case round =>
    clear hmade
    obtain ⟨i, hi, rfl, hv, hbl⟩ := hrel
    have hsz := hbl.out.size
    by_cases hlt : i < ds.size
    · have hlt' : (i : Int) < (ds.size : Int) := by omega
      have hb := ba_get ds i hlt
      have hdi : Dg.isD ds[i] = true := hd.out _ (List.mem_of_getElem? hb)
      have hsn : Hid (Dg.dv (ds.data.toList.take (i + 1)) = Dg.dv (ds.data.toList.take i) * 10 + (ds[i].toNat - 48)) := by
        show _ = _
        rw [Dg.take_snoc hb, Dg.dv_snoc]
      have hnw : Hid (Wd.nw W32 (Dg.dv (ds.data.toList.take i)) ≤ 100) := by
        refine nw10 (k := i) (K := 100) ?_ (by omega)
        have h1 := Dg.dv_lt (ds.data.toList.take i) (fun b h => hd.out b (List.mem_of_mem_take h))
        have h2 : (ds.data.toList.take i).length ≤ i := by simp; omega
        exact Nat.lt_of_lt_of_le h1 (Nat.pow_le_pow_right (by decide) h2)
      simp [Dg.isD] at hdi
      have hy1 : 48 ≤ ds[i].toNat := hdi.1
      have hy2 : ds[i].toNat ≤ 57 := hdi.2
      have hyI : ((ds[i].toNat : Int) - 48) = ((ds[i].toNat - 48 : Nat) : Int) := by omega
      obtain ⟨y, hy⟩ : ∃ y : Nat, ds[i].toNat - 48 = y := ⟨_, rfl⟩
      have hy3 : y ≤ 9 := by omega
      rw [hy] at hsn hyI
      clear hb hdi hy
      go_wp2_with fail
      refine (nmul_c 0 10 y (Dg.dv (ds.data.toList.take i)) u3 wr hv.out (by have := hnw.out; omega) (by decide) (by omega)).mono ?_
      rintro e w' ⟨v', rfl, hv', hb'⟩
      have hvn : Hid (Nm w' 0 v' (Dg.dv (ds.data.toList.take (i + 1)))) := by rw [hsn.out]; exact hv'.mono (Nat.zero_le _)
      have hbn : Hid (Below w.heap.size w w') := hbl.out.trans (hb'.mono hsz)
      clear hv' hb' hv hbl hsn hnw hyI
      go_wp2
      go_roundw
      case rel => exact ⟨i + 1, by omega, by go_num, hvn, hbn⟩
      case measure => simp [intOf]; omega
    · have hlt' : ¬ ((i : Int) < (ds.size : Int)) := by omega
      have hik : i = ds.size := by omega
      have hDl : Hid (D < 10 ^ ds.size) := by rw [← hDv.out]; exact Dg.dv_lt _ hd.out
      have hv2 : Hid (Nm wr 0 u3 D) := by
        have h := hv.out
        rw [List.take_of_length_le (by rw [hik]; exact Nat.le_refl _), hDv.out] at h
        exact h
      have hnD : Hid (Wd.nw W32 D ≤ 50) := nw10 hDl.out (by omega)
      have hnD1 : Hid (Wd.nw W32 (D + 1) ≤ 10000) := Nat.le_trans (nw10 (k := ds.size + 1) (K := 51) (by have := hDl.out; rw [Nat.pow_succ]; omega) (by omega)) (by decide)
      clear hv hik hDl hDv hd
      go_wp2_with fail
      refine (nof_c 1 wr (by decide)).mono ?_
      rintro e w1 ⟨v1, rfl, hv1, hb1⟩
      have hv1H : Hid (Nm w1 0 v1 1) := hv1.mono (Nat.zero_le _)
      have hv3 : Hid (Nm w1 0 u3 D) := hv2.out.under hb1
      have hb1H : Hid (Below w.heap.size w w1) := hbl.out.trans (hb1.mono hsz)
      have hs1 := hb1H.out.size
      clear hv1 hb1 hv2 hbl
      go_wp2_with fail
      refine (nadd_c 0 0 D 1 u3 v1 w1 hv3.out hv1H.out (by have := hnD.out; omega) hD.out).mono ?_
      rintro e w2 ⟨v2, rfl, hv2, hb2⟩
      have hv2H : Hid (Nm w2 0 v2 (D + 1)) := hv2.mono (Nat.zero_le _)
      have hb2H : Hid (Below w.heap.size w w2) := hb1H.out.trans (hb2.mono hs1)
      have hs2 := hb2H.out.size
      clear hv2 hb2 hb1H hv3 hv1H
      go_wp2_with fail
      refine (ndec_c (D + 1) v2 w2 hv2H hnD1).mono ?_
      rintro e w3 ⟨rfl, hb3⟩
      have hb3H : Hid (Below w.heap.size w w3) := hb2H.out.trans (hb3.mono hs2)
      rw [dtx_pos (Nat.succ_pos D)]
      clear hb3 hb2H hv2H
      go_wp2
      go_ret
      exact ⟨rfl, hb3H.out⟩
end Go.Proofs.YtmdnmhbfdceliaaGreatDoor
