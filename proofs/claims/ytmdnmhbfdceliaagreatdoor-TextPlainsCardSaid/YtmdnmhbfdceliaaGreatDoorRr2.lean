/-
  The document's reading: power, read.
-/
import Derived.Test.YtmdnmhbfdceliaaGreatDoorRr1
import Derived.Test.YtmdnmhbfdceliaaGreatDoorSiz
namespace Go.Proofs.YtmdnmhbfdceliaaGreatDoor
open Flo Go.RowKit
theorem nw10 {n k K : Nat} (h : n < 10 ^ k) (hk : 4 * k ≤ 32 * K) : Wd.nw W32 n ≤ K := by
  apply nw_bit32
  refine Nat.lt_of_lt_of_le h ?_
  refine Nat.le_trans (Nat.pow_le_pow_left (show 10 ≤ 16 by decide) k) ?_
  rw [show (16 : Nat) = 2 ^ 4 from rfl, ← Nat.pow_mul]
  exact Nat.pow_le_pow_right (by decide) hk
set_option maxRecDepth 100000 in
set_option maxHeartbeats 1000000 in
theorem rpower_c (a k : Nat) (v : Value) (w : World) (hr : Hid (Nm w 0 v a)) (hkk : k ≤ 2000) (hk : Hid (Wd.nw W32 (a * 10 ^ k) ≤ 1000)) :
    Calls Tryz.prog 60 #[v, .int .i64 k] w fun e w' => ∃ v', e = .returned v' ∧ Nm w' 0 v' (a * 10 ^ k) ∧ Below w.heap.size w w' := by
  go_enter Tryz.func60, Tryz.ntmps60
  go_wp2
  go_loopw [0, 1] (fun sv sk wr => ∃ (j : Nat), j ≤ k ∧ sk = .int .i64 j ∧ Hid (∃ q, a * 10 ^ k = q * 10 ^ j ∧ Nm wr 0 sv q) ∧ Hid (Below w.heap.size w wr)) (fun _ sk _ => (intOf sk).toNat)
  case atStart => exact ⟨k, Nat.le_refl _, rfl, ⟨a, rfl, hr.out⟩, Below.refl _ _⟩
  case round =>
    obtain ⟨j, hj, rfl, hq, hb⟩ := hrel
    obtain ⟨q, hqe, hrow⟩ := hq.out
    have hsz := hb.out.size
    have hqw : Hid (Wd.nw W32 q ≤ 1000) := by
      refine Nat.le_trans (Wd.nw_mono W32_2 ?_) hk.out
      rw [hqe]; exact Nat.le_mul_of_pos_right _ (Nat.pow_pos (by decide))
    have hqeH : Hid (a * 10 ^ k = q * 10 ^ j) := hqe
    have hrowH : Hid (Nm wr 0 u0 q) := hrow
    clear hqe hrow hq
    by_cases h : 9 ≤ j
    · have h' : (9 : Int) ≤ (j : Int) := by omega
      obtain ⟨i, rfl⟩ : ∃ i, j = i + 9 := ⟨j - 9, by omega⟩
      go_wp2_with fail
      refine (nmul_c 0 1000000000 0 q u0 wr hrowH.out (by have := hqw.out; omega) (by decide) (by decide)).mono ?_
      rintro e w' ⟨v', rfl, hv, hb2⟩
      have hvH : Hid (∃ q, a * 10 ^ k = q * 10 ^ i ∧ Nm w' 0 v' q) := ⟨_, by rw [hqeH.out, Nat.pow_add, Nat.add_zero, Nat.mul_assoc, Nat.mul_comm (10 ^ i)], hv.mono (Nat.zero_le _)⟩
      have hbH : Hid (Below w.heap.size w w') := hb.out.trans (hb2.mono hsz)
      clear hv hb2 hb hrowH hqeH
      go_wp2
      go_roundw
      case rel => exact ⟨i, by omega, by go_num, hvH, hbH⟩
      case measure => simp [intOf]; omega
    · have h' : ¬ ((9 : Int) ≤ (j : Int)) := by omega
      have hj9 : j ≤ 8 := by omega
      have hst : Hid (∃ q, a * 10 ^ k = q * 10 ^ j ∧ Nm wr 0 u0 q) := ⟨q, hqeH.out, hrowH.out⟩
      have hbw := hb
      clear hqeH hrowH hqw hb
      go_wp2
      go_loopw [0, 1] (fun sv sk wx => ∃ (j : Nat), j ≤ 8 ∧ sk = .int .i64 j ∧ Hid (∃ q, a * 10 ^ k = q * 10 ^ j ∧ Nm wx 0 sv q) ∧ Hid (Below w.heap.size w wx)) (fun _ sk _ => (intOf sk).toNat)
      case atStart => exact ⟨j, hj9, rfl, hst, hbw⟩
      case round =>
        clear hst hbw
        obtain ⟨i, hi, rfl, hq, hb⟩ := hrel
        obtain ⟨q, hqe, hrow⟩ := hq.out
        have hsz := hb.out.size
        have hqw : Hid (Wd.nw W32 q ≤ 1000) := by
          refine Nat.le_trans (Wd.nw_mono W32_2 ?_) hk.out
          rw [hqe]; exact Nat.le_mul_of_pos_right _ (Nat.pow_pos (by decide))
        have hqeH : Hid (a * 10 ^ k = q * 10 ^ i) := hqe
        have hrowH : Hid (Nm wr 0 u0 q) := hrow
        clear hqe hrow hq
        by_cases h0 : i = 0
        · subst h0
          have hfin : Hid (Nm wr 0 u0 (a * 10 ^ k)) := by rw [hqeH.out, Nat.pow_zero, Nat.mul_one]; exact hrowH.out
          clear hqeH hrowH
          go_wp2
          go_ret
          exact ⟨_, rfl, hfin.out, hb.out⟩
        · have h' : (0 : Int) < (i : Int) := by omega
          obtain ⟨t, rfl⟩ : ∃ t, i = t + 1 := ⟨i - 1, by omega⟩
          go_wp2_with fail
          refine (nmul_c 0 10 0 q u0 wr hrowH.out (by have := hqw.out; omega) (by decide) (by decide)).mono ?_
          rintro e w' ⟨v', rfl, hv, hb2⟩
          have hvH : Hid (∃ q, a * 10 ^ k = q * 10 ^ t ∧ Nm w' 0 v' q) := ⟨_, by rw [hqeH.out, Nat.pow_add, Nat.add_zero, Nat.mul_assoc, Nat.mul_comm (10 ^ t)], hv.mono (Nat.zero_le _)⟩
          have hbH : Hid (Below w.heap.size w w') := hb.out.trans (hb2.mono hsz)
          clear hv hb2 hb hrowH hqeH
          go_wp2
          go_roundw
          case rel => exact ⟨t, by omega, by go_num, hvH, hbH⟩
          case measure => simp [intOf]
/-- what read answers -/
def rdr (D : Nat) (x : Int) (v : Value) : Prop := ∃ (b s : Nat) (o : Bool), v = .tuple #[.int .u64 (b : Int), .bool o] ∧ Rd.Sp D x s ∧ (o = true ↔ Rd.inf ≤ s) ∧ (o = false → b = s)
theorem rdr_near {D s : Nat} {x : Int} (h0 : 0 < D) (h : Rd.Near (Rd.num D x) (Rd.den x) s) : rdr D x (nres s) := by
  unfold nres
  split
  · exact ⟨s, s, false, rfl, Rd.sp_near h0 h, by simp; omega, fun _ => rfl⟩
  · exact ⟨9218868437227405312, s, true, rfl, Rd.sp_near h0 h, by simp; omega, fun h => by cases h⟩
theorem nm_len {w : World} {B D : Nat} {v : Value} (h : Nm w B v D) : ∃ ao cap, v = .slice ao (Wd.nw W32 D) cap := Row.slice h
set_option maxRecDepth 100000 in
set_option maxHeartbeats 1000000 in
theorem rread_c (ds : ByteArray) (D : Nat) (x : Int) (w : World) (hs : ds.size ≤ 400) (hDv : Hid (Dg.dv ds.data.toList = D)) (hd : Hid (∀ b ∈ ds.data.toList, Dg.isD b = true)) (hx1 : -1000000 ≤ x) (hx2 : x ≤ 1000000) :
    Calls Tryz.prog 31 #[.string ds, .int .i64 x] w fun e w' => ∃ v, e = .returned v ∧ rdr D x v ∧ Below w.heap.size w w' := by
  have hmade : Hid (Nm (w.alloc (.cells #[] 87)) 0 (.slice (some ⟨w.heap.size, 0, none⟩) 0 0) 0) := by
    show Row _ _ _ _ _ _ _
    rw [Wd.nw_zero]
    exact World.ownsRow_made w #[] 0 (Nat.zero_le _) (by decide) rfl
  go_enter Tryz.func31, Tryz.ntmps31
  go_wp2
  go_loopw [6, 7] (fun sv si wr => ∃ i : Nat, i ≤ ds.size ∧ si = .int .i64 i ∧ Hid (Nm wr 0 sv (Dg.dv (ds.data.toList.take i))) ∧ Hid (Below w.heap.size w wr)) (fun _ si _ => ds.size - (intOf si).toNat)
  case atStart => exact ⟨0, by omega, rfl, hmade, (Below.refl _ _).alloc (Nat.le_refl _) _⟩
  case round =>
    clear hmade
    obtain ⟨i, hi, rfl, hv, hbl⟩ := hrel
    have hsz := hbl.out.size
    by_cases hlt : i < ds.size
    · have hlt' : (i : Int) < (ds.size : Int) := by omega
      have hb := ba_get ds i hlt
      have hdi : Dg.isD ds[i] = true := hd.out _ (List.mem_of_getElem? hb)
      have hsn : Hid (Dg.dv (ds.data.toList.take (i + 1)) = Dg.dv (ds.data.toList.take i) * 10 + (ds[i].toNat - 48)) := by
        show _ = _
        rw [Dg.take_snoc hb, Dg.dv_snoc]
      have hnw : Hid (Wd.nw W32 (Dg.dv (ds.data.toList.take i)) ≤ 100) := by
        refine nw10 (k := i) (K := 100) ?_ (by omega)
        have h1 := Dg.dv_lt (ds.data.toList.take i) (fun b h => hd.out b (List.mem_of_mem_take h))
        have h2 : (ds.data.toList.take i).length ≤ i := by simp; omega
        exact Nat.lt_of_lt_of_le h1 (Nat.pow_le_pow_right (by decide) h2)
      simp [Dg.isD] at hdi
      have hy1 : 48 ≤ ds[i].toNat := hdi.1
      have hy2 : ds[i].toNat ≤ 57 := hdi.2
      have hyI : ((ds[i].toNat : Int) - 48) = ((ds[i].toNat - 48 : Nat) : Int) := by omega
      obtain ⟨y, hy⟩ : ∃ y : Nat, ds[i].toNat - 48 = y := ⟨_, rfl⟩
      have hy3 : y ≤ 9 := by omega
      rw [hy] at hsn hyI
      clear hb hdi hy
      go_wp2_with fail
      refine (nmul_c 0 10 y (Dg.dv (ds.data.toList.take i)) u6 wr hv.out (by have := hnw.out; omega) (by decide) (by omega)).mono ?_
      rintro e w' ⟨v', rfl, hv', hb'⟩
      have hvn : Hid (Nm w' 0 v' (Dg.dv (ds.data.toList.take (i + 1)))) := by rw [hsn.out]; exact hv'.mono (Nat.zero_le _)
      have hbn : Hid (Below w.heap.size w w') := hbl.out.trans (hb'.mono hsz)
      clear hv' hb' hv hbl hsn hnw hyI
      go_wp2
      go_roundw
      case rel => exact ⟨i + 1, by omega, by go_num, hvn, hbn⟩
      case measure => simp [intOf]; omega
    · have hlt' : ¬ ((i : Int) < (ds.size : Int)) := by omega
      have hik : i = ds.size := by omega
      have hv2 : Hid (Nm wr 0 u6 (Dg.dv ds.data.toList)) := by
        have h := hv.out
        rw [List.take_of_length_le (by rw [hik]; exact Nat.le_refl _)] at h
        exact h
      have hDl : Hid (Dg.dv ds.data.toList < 10 ^ ds.size) := Dg.dv_lt _ hd.out
      clear hv hik
      rw [hDv.out] at hv2 hDl
      clear hDv hd
      obtain ⟨ao, cap, hsl⟩ := nm_len hv2.out
      subst hsl
      have hnwD : Hid (Wd.nw W32 D ≤ 50) := nw10 hDl.out (by omega)
      by_cases hD0 : D = 0
      · subst hD0
        rw [Wd.nw_zero]
        go_wp2
        go_ret2
        exact ⟨_, rfl, ⟨0, 0, false, rfl, .inl ⟨rfl, rfl⟩, by decide, fun _ => rfl⟩, hbl.out⟩
      · have hDp : Hid (0 < D) := (by omega : 0 < D)
        obtain ⟨K, hK⟩ : ∃ K, Hid (Wd.nw W32 D = K) := ⟨_, rfl⟩
        have hK0 : ((K : Int) == 0) = false := beq_eq_false_iff_ne.2 (by have := hK.out; have := nw_pos' hDp.out; omega)
        rw [hK.out] at hv2 ⊢
        clear hD0
        rcases Int.lt_or_le 400 x with c1 | c1
        · have hfin : Hid (rdr D x (.tuple #[.int .u64 0, .bool true])) := ⟨0, Rd.inf, true, rfl, Rd.sp_big (L := 0) (by have := hDp.out; omega) (by omega) (Nat.le_refl _), by simp, fun h => by cases h⟩
          go_wp2
          go_ret2
          exact ⟨_, rfl, hfin.out, hbl.out⟩
        · rcases Int.lt_or_le x (-1500) with c2 | c2
          · have hfin : Hid (rdr D x (.tuple #[.int .u64 0, .bool false])) := ⟨0, 0, false, rfl, Rd.sp_tiny (L := ds.size) hDp.out hDl.out (by omega), by decide, fun _ => rfl⟩
            go_wp2
            go_ret2
            exact ⟨_, rfl, hfin.out, hbl.out⟩
          · rcases Int.lt_or_le x 0 with c3 | c3
            · obtain ⟨X, hX⟩ : ∃ X : Nat, Hid (x = -(X : Int)) := ⟨(-x).toNat, (by omega : x = -((-x).toNat : Int))⟩
              have hXl : X ≤ 1500 := by have := hX.out; omega
              have hXI : -x = (X : Int) := by have := hX.out; omega
              have hXw : wrap64 (-x) = (X : Int) := by have := hX.out; unfold wrap64; omega
              go_wp2_with fail
              refine (nof_c 1 wr (by decide)).mono ?_
              rintro e w1 ⟨v1, rfl, hv1, hb1⟩
              have hv1H : Hid (Nm w1 0 v1 1) := hv1.mono (Nat.zero_le _)
              have hb1H : Hid (Below w.heap.size w w1) := hbl.out.trans (hb1.mono hsz)
              have hv2' : Hid (Nm w1 0 (.slice ao K cap) D) := hv2.out.under hb1
              have hs1 := hb1H.out.size
              clear hv1 hb1 hv2
              go_wp2_with fail
              refine (rpower_c 1 X v1 w1 hv1H (by omega) (nw10 (k := X + 1) (by rw [Nat.one_mul]; exact Nat.pow_lt_pow_right (by decide) (by omega)) (by omega))).mono ?_
              rintro e w2 ⟨v2, rfl, hv3, hb2⟩
              have hv3H : Hid (Nm w2 0 v2 (10 ^ X)) := by rw [Nat.one_mul] at hv3; exact hv3
              have hb2H : Hid (Below w.heap.size w w2) := hb1H.out.trans (hb2.mono hs1)
              have hv4 : Hid (Nm w2 0 (.slice ao K cap) D) := hv2'.out.under hb2
              have hs2 := hb2H.out.size
              clear hv3 hb2 hv2' hv1H hb1H
              go_wp2_with fail
              refine (nnear_c 0 0 D (10 ^ X) (.slice ao K cap) v2 w2 hv4.out hv3H.out hDp.out (Nat.pow_pos (by decide)) (by have := hnwD.out; omega) (nw10 (k := X + 1) (Nat.pow_lt_pow_right (by decide) (by omega)) (by omega))).mono ?_
              rintro e w3 ⟨s, rfl, hs3, hb3⟩
              have hfin : Hid (rdr D x (nres s)) := rdr_near hDp.out (by
                unfold Rd.num Rd.den
                have e1 : x.toNat = 0 := by have := hX.out; omega
                have e2 : (-x).toNat = X := by omega
                rw [e1, e2, Nat.pow_zero, Nat.mul_one]
                exact hs3)
              have hb3H : Hid (Below w.heap.size w w3) := hb2H.out.trans (hb3.mono hs2)
              obtain ⟨x', b', hab⟩ := nres_tup s
              rw [hab] at hfin ⊢
              clear hs3 hb3 hab hv3H hv4 hb2H
              go_wp2
              go_ret2
              exact ⟨_, rfl, hfin.out, hb3H.out⟩
            · obtain ⟨X, hX⟩ : ∃ X : Nat, x = (X : Int) := ⟨x.toNat, by omega⟩
              subst hX
              have hXl : X ≤ 400 := by omega
              have hpn : Hid (Wd.nw W32 (D * 10 ^ X) ≤ 1000) := nw10 (k := ds.size + X) (by rw [Nat.pow_add]; exact Nat.mul_lt_mul_of_pos_right hDl.out (Nat.pow_pos (by decide))) (by omega)
              go_wp2_with fail
              refine (rpower_c D X (.slice ao K cap) wr hv2 (by omega) hpn).mono ?_
              rintro e w2 ⟨v2, rfl, hv3, hb2⟩
              have hv3H : Hid (Nm w2 0 v2 (D * 10 ^ X)) := hv3
              have hb2H : Hid (Below w.heap.size w w2) := hbl.out.trans (hb2.mono hsz)
              have hs2 := hb2H.out.size
              clear hv3 hb2 hv2
              go_wp2_with fail
              refine (nof_c 1 w2 (by decide)).mono ?_
              rintro e w1 ⟨v1, rfl, hv1, hb1⟩
              have hv1H : Hid (Nm w1 0 v1 1) := hv1.mono (Nat.zero_le _)
              have hb1H : Hid (Below w.heap.size w w1) := hb2H.out.trans (hb1.mono hs2)
              have hv4 : Hid (Nm w1 0 v2 (D * 10 ^ X)) := hv3H.out.under hb1
              have hs1 := hb1H.out.size
              clear hv1 hb1 hv3H hb2H
              go_wp2_with fail
              refine (nnear_c 0 0 (D * 10 ^ X) 1 v2 v1 w1 hv4.out hv1H.out (Nat.mul_pos hDp.out (Nat.pow_pos (by decide))) (by decide) hpn.out (nw10 (k := 1) (by decide) (by omega))).mono ?_
              rintro e w3 ⟨s, rfl, hs3, hb3⟩
              have hfin : Hid (rdr D (X : Int) (nres s)) := rdr_near hDp.out (by
                unfold Rd.num Rd.den
                have e1 : ((X : Int)).toNat = X := by omega
                have e2 : (-(X : Int)).toNat = 0 := by omega
                rw [e1, e2, Nat.pow_zero]
                exact hs3)
              have hb3H : Hid (Below w.heap.size w w3) := hb1H.out.trans (hb3.mono hs1)
              obtain ⟨x', b', hab⟩ := nres_tup s
              rw [hab] at hfin ⊢
              clear hs3 hb3 hab hv1H hv4 hb1H
              go_wp2
              go_ret2
              exact ⟨_, rfl, hfin.out, hb3H.out⟩
end Go.Proofs.YtmdnmhbfdceliaaGreatDoor
