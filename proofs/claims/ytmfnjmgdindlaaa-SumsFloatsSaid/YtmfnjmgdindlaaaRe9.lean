/-
  The document's exact sum.
-/
import Derived.Test.YtmfnjmgdindlaaaNb5
import Derived.Test.YtmfnjmgdindlaaaNb1
import Derived.Test.YtmfnjmgdindlaaaLw9
import Derived.Test.YtmfnjmgdindlaaaNo9
import Derived.Test.YtmfnjmgdindlaaaRef
namespace Go.Proofs.Ytmfnjmgdindlaaa
open Flo Go.RowKit Ieee
/-- those that are no infinities -/
def fo (l : List Nat) : List Nat := l.filter (fun x => !(x == 9218868437227405312) && !(x == 18442240474082181120))
theorem fo_snoc (l : List Nat) (x : Nat) : fo (l ++ [x]) = fo l ++ (if (!(x == 9218868437227405312) && !(x == 18442240474082181120)) = true then [x] else []) := by
  unfold fo; rw [List.filter_append]; simp [List.filter_cons]
theorem fo_all {l : List Nat} (h1 : Sm.anyI l = false) (h2 : Sm.anyJ l = false) : fo l = l := by
  unfold fo
  apply List.filter_eq_self.2
  intro x hx
  have a := List.any_eq_false.1 h1 x hx
  have b := List.any_eq_false.1 h2 x hx
  simp only [Bool.not_eq_true] at a b
  rw [a, b]; rfl
def mz (n : Nat) (l : List Nat) : Bool := decide (0 < n) && (fo l).all (· == 9223372036854775808)
theorem mz_snoc (n : Nat) (l : List Nat) (x : Nat) (h : (!(x == 9218868437227405312) && !(x == 18442240474082181120)) = true) : mz n (l ++ [x]) = (mz n l && (x == 9223372036854775808)) := by
  unfold mz; rw [fo_snoc, if_pos h, List.all_append]; simp [Bool.and_assoc]
theorem mz_all {l : List Nat} (h : fo l = l) : mz l.length l = Sm.allZ l := by
  unfold mz Sm.allZ
  rw [h]
  congr 1
  cases l <;> simp
theorem fo_fin {l : List Nat} (hl : ∀ x ∈ l, x < 18446744073709551616) (hn : Sm.anyN l = false) : ∀ x ∈ fo l, Ari.fin x := fun x hx => by
  unfold fo at hx
  obtain ⟨h1, h2⟩ := List.mem_filter.1 hx
  have a := List.any_eq_false.1 hn x h1
  have d := hl x h1
  unfold nanB at a
  simp only [decide_eq_true_eq] at a
  simp only [Bool.and_eq_true, Bool.not_eq_true', beq_eq_false_iff_ne] at h2
  exact ⟨d, by omega⟩
theorem fo_len (l : List Nat) : (fo l).length ≤ l.length := List.length_filter_le _ _
theorem nw_bigK {N K : Nat} (h : N < W64 ^ K) : Wd.nw W32 N ≤ 2 * K := nw_bit32 (by
  rw [show 32 * (2 * K) = 64 * K by omega, ← W64_pow]
  exact h)
theorem nw_big {N : Nat} (h : N < W64 ^ 34) : Wd.nw W32 N ≤ 68 := nw_bigK h
theorem pow_U {t : Nat} (ht : t = 1074) : 2 ^ t = Rd.U := by
  have h := Rd.U_add 0
  rw [← show t = 0 + 1074 by omega] at h
  rw [h, Nat.pow_zero, Nat.one_mul]
theorem and_size (x : Nat) (h : x < 18446744073709551616) : bits .and .u64 (x : Int) 9223372036854775807 = ((x % 9223372036854775808 : Nat) : Int) := by
  have := u64_and_nat x 9223372036854775807 h (by decide)
  exact this.trans (congrArg _ (Nat.and_two_pow_sub_one_eq_mod _ 63))
/-- a float's own number -/
theorem parts_c9 (s : Nat) (w : World) (h : s < 9218868437227405312) :
    Calls Try.prog 33 #[.int .u64 (s : Int)] w fun e w' => e = .returned (.tuple #[.int .u64 ((Flo.mg s : Nat) : Int), .int .i64 ((Flo.ex s : Int) - 1074)]) ∧ w = w' :=
  nparts_c s (Flo.ex s) (Flo.mg s) w (by have := Flo.mg_eq s; omega) (Flo.mg_lt s) (by
    rcases Nat.eq_zero_or_pos (Flo.ex s) with h | h
    · exact .inl h
    · exact .inr (Flo.mg_ge s h)) (by unfold Flo.ex; omega)
theorem unit_c (v : Value) (w : World) (B : Nat) (hv : Nm w B v 1) :
    Calls Try.prog 34 #[v, .int .i64 1074] w fun e w' => ∃ v', e = .returned v' ∧ Nm w' w.heap.size v' Rd.U ∧ Below w.heap.size w w' := by
  obtain ⟨t, ht⟩ : ∃ t : Nat, t = 1074 := ⟨_, rfl⟩
  have := nshift_c B 1 t v w hv (by decide) (by omega)
  have e : 1 * 2 ^ t = Rd.U := by rw [Nat.one_mul, pow_U ht]
  rw [e, show (t : Int) = 1074 by omega] at this
  exact this
theorem nw_U : Wd.nw W32 Rd.U ≤ 1000 := by
  obtain ⟨t, ht⟩ : ∃ t : Nat, t = 1074 := ⟨_, rfl⟩
  obtain ⟨k, hk⟩ : ∃ k : Nat, k = 34 := ⟨_, rfl⟩
  apply Nat.le_trans (nw_bit32 (k := k) ?_) (by omega)
  rw [← pow_U ht]
  exact Nat.pow_lt_pow_right (by decide) (by omega)
theorem near_c9 (B C n : Nat) (u v : Value) (w : World) (hu : Nm w B u n) (hv : Nm w C v Rd.U) (hn : 0 < n) (hk : Wd.nw W32 n ≤ 1000) :
    Calls Try.prog 39 #[u, v] w fun e w' => ∃ b, e = .returned (.tuple #[.int .u64 ((Sm.rd n : Nat) : Int), .bool b]) ∧ Below w.heap.size w w' := by
  refine (nnear_c B C n Rd.U u v w hu hv hn Rd.U_pos hk nw_U).mono ?_
  rintro e w' ⟨s, rfl, h1, h2⟩
  have := Sm.near_rd h1
  rw [this]
  unfold nres
  by_cases c : s < Rd.inf
  · rw [if_pos c, if_pos c]; exact ⟨_, rfl, h2⟩
  · rw [if_neg c, if_neg c]; exact ⟨_, rfl, h2⟩
theorem nm_zero (w : World) : Nm (w.alloc (.cells #[] 64)) w.heap.size (.slice (some ⟨w.heap.size, 0, none⟩) 0 0) 0 := by
  show Row _ _ _ _ _ (Wd.nw W32 0) _
  rw [Wd.nw_zero]
  exact World.ownsRow_made w #[] 0 (Nat.le_refl _) (by decide) rfl
set_option maxHeartbeats 400000 in
theorem nanNum_c (w : World) : Calls Try.prog 37 #[] w fun e w' => e = .returned (.float .f64 9221120237041090560) ∧ w = w' := by
  have hc : Hid (∀ W, Calls Try.prog 22 #[.int .u64 9221120237041090560] W fun e w' => e = .returned (.float .f64 9221120237041090560) ∧ W = w') := fun W => natFl_c 9221120237041090560 W (by decide)
  go_enter Try.func37, Try.ntmps37
  go_wp2_with fail
  refine (hc.out _).mono ?_
  rintro e w' ⟨rfl, rfl⟩
  go_wp2_with fail
  go_ret
  exact ⟨rfl, rfl⟩
theorem Nm.lt {w : World} {B n : Nat} {v : Value} (h : Nm w B v n) : ∀ b, v.ownBlock = some b → B ≤ b ∧ b < w.heap.size := Row.lt h
set_option maxRecDepth 100000 in
set_option maxHeartbeats 4000000 in
theorem rexact_n (ao : Option Addr) (n cap : Nat) (xs : List Nat) (w : World) (hn : Hid (xs.length = n)) (hn2 : n ≤ 8192) (hc : Hid (∀ i, i < n → ∃ b off, ao = some ⟨b, off, none⟩ ∧ b < w.heap.size ∧ w.cell? ⟨b, off + i, none⟩ = some (.float .f64 (xs.getD i 0)))) (hl : Hid (∀ x ∈ xs, x < 18446744073709551616)) :
    Calls Try.prog 18 #[.slice ao n cap] w (RFb w (Sm.exB xs)) := by
  have hend : Hid (∀ x W, x < 18446744073709551616 → bt x = Sm.exB xs → Below w.heap.size w W → RFb w (Sm.exB xs) (.returned (.float .f64 x)) W) := fun x W h1 h2 h3 => ⟨x, rfl, h1, h2, h3⟩
  have r1 : Hid (Nm ((w.alloc (.cells #[] 64)).alloc (.cells #[] 64)) w.heap.size (.slice (some ⟨w.heap.size, 0, none⟩) 0 0) 0) := Row.allocs (nm_zero w) _
  have r2 : Hid (Nm ((w.alloc (.cells #[] 64)).alloc (.cells #[] 64)) w.heap.size (.slice (some ⟨w.heap.size + 1, 0, none⟩) 0 0) 0) := by
    have := nm_zero (w.alloc (.cells #[] 64))
    rw [show (w.alloc (.cells #[] 64)).heap.size = w.heap.size + 1 by simp] at this
    exact Nm.mono this (by omega)
  have b0 : Hid (Below w.heap.size w ((w.alloc (.cells #[] 64)).alloc (.cells #[] 64))) := ((Below.refl _ _).alloc (Nat.le_refl _) _).alloc (by simp) _
  obtain ⟨n0, hn0⟩ : ∃ b : Bool, Hid (decide (0 < n) = b) := ⟨_, (rfl : _ = _)⟩
  have hn0' : decide ((n : Int) > 0) = n0 := by rw [← hn0.out]; exact decide_eq_decide.2 (by omega)
  go_enter Try.func18, Try.ntmps18
  go_wp2_with fail
  generalize (w.alloc (.cells #[] 64)).alloc (.cells #[] 64) = w0 at *
  have hm0 : Hid (n0 = mz n (xs.take 0)) := by show _ = _; unfold mz fo; simp [← hn0.out]
  go_loopw [3, 4, 5, 6, 7, 27] (fun sI sJ sm pu pd si wr => ∃ (i : Nat) (BI BJ BM : Bool) (U D : Nat), i ≤ n ∧ si = .int .i64 (i : Int) ∧ sI = .bool BI ∧ sJ = .bool BJ ∧ sm = .bool BM ∧ Hid (BI = Sm.anyI (xs.take i)) ∧ Hid (BJ = Sm.anyJ (xs.take i)) ∧ Hid (BM = mz n (xs.take i)) ∧ Hid (U = Sm.up (fo (xs.take i))) ∧ Hid (D = Sm.dn (fo (xs.take i))) ∧ Hid (Sm.anyN (xs.take i) = false) ∧ Hid (Nm wr w.heap.size pu U) ∧ Hid (Nm wr w.heap.size pd D) ∧ Hid (Below w.heap.size w wr)) (fun _ _ _ _ _ si _ => n - (RowKit.intOf si).toNat)
  case atStart => exact ⟨0, false, false, n0, 0, 0, Nat.zero_le _, rfl, rfl, rfl, by first | rfl | (rw [← hn0']; rfl) | (rw [← hn0']; simp) | (congr 1; rw [← hn0']), rfl, rfl, hm0, rfl, rfl, rfl, r1, r2, b0⟩
  case round =>
    obtain ⟨i, BI, BJ, BM, U, D, hin, rfl, rfl, rfl, rfl, hBI, hBJ, hBM, hU, hD, hN, P, L, Bi⟩ := hrel
    clear r1 r2 b0 hm0 hn0' hn0
    have hbd : Hid (Wd.nw W32 U ≤ 68 ∧ Wd.nw W32 D ≤ 68 ∧ U < W64 ^ 34 ∧ D < W64 ^ 34) := by
      have hf := fo_fin (l := xs.take i) (fun x hx => hl.out x (List.mem_of_mem_take hx)) hN.out
      have hll : (fo (xs.take i)).length ≤ 140737488355328 := by
        have h1 := fo_len (xs.take i)
        have h2 := hn.out
        rw [List.length_take] at h1
        omega
      rw [hU.out, hD.out]
      have a := big_bd (Sm.up_lt hf) hll
      have b := big_bd (Sm.dn_lt hf) hll
      exact ⟨nw_big a.2, nw_big b.2, a.2, b.2⟩
    by_cases hlt : i < n
    · have hlt' : (i : Int) < (n : Int) := by omega
      have hix : i < xs.length := by rw [hn.out]; exact hlt
      obtain ⟨b, off, rfl, hb, hcell⟩ := hc.out i hlt
      have c1 := (Bi.out.cell (p := ⟨b, off + i, none⟩) hb).trans hcell
      have htk : Hid (xs.take (i + 1) = xs.take i ++ [xs.getD i 0]) := by show _ = _; rw [List.take_succ_eq_append_getElem hix, getD_at hix]
      have hxm : Hid (xs.getD i 0 ∈ xs) := by rw [getD_at hix]; exact List.getElem_mem hix
      have hxl : Hid (xs.getD i 0 < 18446744073709551616) := hl.out _ hxm.out
      have hcall : Hid (∀ W, Calls Try.prog 31 #[.float .f64 (xs.getD i 0)] W fun e w' => e = .returned (.int .u64 (bt (xs.getD i 0) : Nat)) ∧ W = w') := fun W => rbits_c _ W hxl.out
      generalize xs.getD i 0 = x at c1 htk hxm hxl hcall
      clear hcell hix
      cases hnan : nanB x
      · rw [bt_fin hnan] at hcall
        have t1 : ((x : Int) == 9221120237041090560) = false := beq_eq_false_iff_ne.2 (fun e => by
          have : x = 9221120237041090560 := by omega
          rw [this] at hnan; revert hnan; decide)
        have hN1 : Hid (Sm.anyN (xs.take (i + 1)) = false) := by
          show _ = _
          rw [htk.out]; unfold Sm.anyN
          rw [List.any_append, show (xs.take i).any nanB = false from hN.out]; simp [hnan]
        by_cases x1 : x = 9218868437227405312
        · have t2 : ((x : Int) == 9218868437227405312) = true := beq_iff_eq.2 (by omega)
          have e1 : Hid (true = Sm.anyI (xs.take (i + 1))) := by show _ = _; rw [htk.out]; unfold Sm.anyI; rw [List.any_append, x1]; simp
          have e2 : Hid (BJ = Sm.anyJ (xs.take (i + 1))) := by show _ = _; rw [htk.out, hBJ.out]; unfold Sm.anyJ; rw [List.any_append, x1]; simp
          have ef : Hid (fo (xs.take (i + 1)) = fo (xs.take i)) := by show _ = _; rw [htk.out, fo_snoc, x1]; simp
          have e3 : Hid (BM = mz n (xs.take (i + 1))) := by show _ = _; rw [hBM.out]; unfold mz; rw [ef.out]
          have e4 : Hid (U = Sm.up (fo (xs.take (i + 1)))) := by show _ = _; rw [ef.out]; exact hU.out
          have e5 : Hid (D = Sm.dn (fo (xs.take (i + 1)))) := by show _ = _; rw [ef.out]; exact hD.out
          clear x1 hnan
          go_wp2_with fail
          refine (hcall.out _).mono ?_
          rintro e w' ⟨rfl, rfl⟩
          clear hcall
          go_wp2_with fail
          go_roundw
          case rel => exact ⟨i + 1, true, BJ, BM, U, D, by omega, by go_num, rfl, rfl, rfl, e1, e2, e3, e4, e5, hN1, P, L, Bi⟩
          case measure => simp [RowKit.intOf]; omega
        have t2 : ((x : Int) == 9218868437227405312) = false := beq_eq_false_iff_ne.2 (by omega)
        by_cases x2 : x = 18442240474082181120
        · have t3 : ((x : Int) == 18442240474082181120) = true := beq_iff_eq.2 (by omega)
          have e1 : Hid (BI = Sm.anyI (xs.take (i + 1))) := by show _ = _; rw [htk.out, hBI.out]; unfold Sm.anyI; rw [List.any_append, x2]; simp
          have e2 : Hid (true = Sm.anyJ (xs.take (i + 1))) := by show _ = _; rw [htk.out]; unfold Sm.anyJ; rw [List.any_append, x2]; simp
          have ef : Hid (fo (xs.take (i + 1)) = fo (xs.take i)) := by show _ = _; rw [htk.out, fo_snoc, x2]; simp
          have e3 : Hid (BM = mz n (xs.take (i + 1))) := by show _ = _; rw [hBM.out]; unfold mz; rw [ef.out]
          have e4 : Hid (U = Sm.up (fo (xs.take (i + 1)))) := by show _ = _; rw [ef.out]; exact hU.out
          have e5 : Hid (D = Sm.dn (fo (xs.take (i + 1)))) := by show _ = _; rw [ef.out]; exact hD.out
          clear x2 x1 hnan
          go_wp2_with fail
          refine (hcall.out _).mono ?_
          rintro e w' ⟨rfl, rfl⟩
          clear hcall
          go_wp2_with fail
          go_roundw
          case rel => exact ⟨i + 1, BI, true, BM, U, D, by omega, by go_num, rfl, rfl, rfl, e1, e2, e3, e4, e5, hN1, P, L, Bi⟩
          case measure => simp [RowKit.intOf]; omega
        have t3 : ((x : Int) == 18442240474082181120) = false := beq_eq_false_iff_ne.2 (by omega)
        have hkeep : (!(x == 9218868437227405312) && !(x == 18442240474082181120)) = true := by
          rw [beq_eq_false_iff_ne.2 x1, beq_eq_false_iff_ne.2 x2]; rfl
        have hsz : x % 9223372036854775808 < 9218868437227405312 := by
          have h0 := hxl.out
          unfold nanB at hnan
          simp only [decide_eq_false_iff_not] at hnan
          omega
        have e1 : Hid (BI = Sm.anyI (xs.take (i + 1))) := by show _ = _; rw [htk.out, hBI.out]; unfold Sm.anyI; rw [List.any_append]; simp [x1]
        have e2 : Hid (BJ = Sm.anyJ (xs.take (i + 1))) := by show _ = _; rw [htk.out, hBJ.out]; unfold Sm.anyJ; rw [List.any_append]; simp [x2]
        have ef : Hid (fo (xs.take (i + 1)) = fo (xs.take i) ++ [x]) := by show _ = _; rw [htk.out, fo_snoc, if_pos hkeep]
        have e3 : Hid ((BM && (x == 9223372036854775808)) = mz n (xs.take (i + 1))) := by show _ = _; rw [hBM.out, htk.out, mz_snoc n _ x hkeep]
        have hand := and_size x hxl.out
        have hparts : Hid (∀ W, Calls Try.prog 33 #[.int .u64 ((x % 9223372036854775808 : Nat) : Int)] W fun e w' => e = .returned (.tuple #[.int .u64 ((Flo.mg (x % 9223372036854775808) : Nat) : Int), .int .i64 ((Flo.ex (x % 9223372036854775808) : Int) - 1074)]) ∧ W = w') := fun W => parts_c9 _ W hsz
        have hml : Hid (Flo.mg (x % 9223372036854775808) < 18446744073709551616) := Nat.lt_trans (Flo.mg_lt _) (by decide)
        have hel : Flo.ex (x % 9223372036854775808) ≤ 2045 := by unfold Flo.ex; omega
        have hvr : Hid (Flo.mg (x % 9223372036854775808) * 2 ^ Flo.ex (x % 9223372036854775808) = Ari.vr (x % 9223372036854775808)) := rfl
        have hvl : Hid (Wd.nw W32 (Ari.vr (x % 9223372036854775808)) ≤ 68) := nw_big (big_bd (n := 1) (by have := Sm.vr_lt hsz; omega) (by decide)).2
        have hpos : Hid (x < 9223372036854775808 → Sm.uq x = Ari.vr (x % 9223372036854775808) ∧ Sm.dq x = 0) := fun h => by
          have := uq_pos h; rw [Nat.mod_eq_of_lt h]; exact this
        have hneg : Hid (¬ x < 9223372036854775808 → Sm.uq x = 0 ∧ Sm.dq x = Ari.vr (x % 9223372036854775808)) := fun h => uq_neg h
        obtain ⟨zb, hzb⟩ : ∃ zb : Bool, ((x : Int) == 9223372036854775808) = zb := ⟨_, rfl⟩
        have hzn : Hid ((x == 9223372036854775808) = zb) := by
          show _ = _
          rw [← hzb, Bool.eq_iff_iff]; simp; omega
        rw [hzn.out] at e3
        generalize Ari.vr (x % 9223372036854775808) = V at hvr hvl hpos hneg
        generalize Flo.mg (x % 9223372036854775808) = m at hparts hml hvr
        generalize Flo.ex (x % 9223372036854775808) = E at hparts hel hvr
        generalize x % 9223372036854775808 = y at hand hparts
        have hEE : (E : Int) - 1074 + 1074 = (E : Int) := by omega
        clear x1 x2 hkeep hsz hnan hzn
        go_wp2_with fail
        refine (hcall.out _).mono ?_
        rintro e w' ⟨rfl, rfl⟩
        clear hcall
        cases BM
        · have e3 : Hid (false = mz n (xs.take (i + 1))) := e3.out
          go_wp2_with fail
          refine (hparts.out _).mono ?_
          rintro e w' ⟨rfl, rfl⟩
          clear hparts
          go_wp2_with fail
          refine (nof_c m _ hml.out).mono ?_
          rintro e y1 ⟨vo, rfl, No, ko⟩
          have NoH : Hid (Nm y1 wr.heap.size vo m) := No
          have P1 : Hid (Nm y1 w.heap.size u6 U) := P.out.under ko
          have L1 : Hid (Nm y1 w.heap.size u7 D) := L.out.under ko
          have B1 : Hid (Below w.heap.size w y1) := Bi.out.trans (ko.mono Bi.out.size)
          clear No ko P L Bi
          have hmw : Hid (Wd.nw W32 m ≤ 100000) := Nat.le_trans (nw_bit32 (k := 2) hml.out) (by decide)
          go_wp2_with fail
          refine (nshift_c _ m E vo _ NoH.out hmw.out (by omega)).mono ?_
          rintro e y2 ⟨vs, rfl, Ns, ks⟩
          rw [hvr.out] at Ns
          have NsH : Hid (Nm y2 y1.heap.size vs V) := Ns
          have P2 : Hid (Nm y2 w.heap.size u6 U) := P1.out.under ks
          have L2 : Hid (Nm y2 w.heap.size u7 D) := L1.out.under ks
          have B2 : Hid (Below w.heap.size w y2) := B1.out.trans (ks.mono B1.out.size)
          clear Ns ks P1 L1 B1 NoH hmw
          by_cases hs : x < 9223372036854775808
          · have hs' : (x : Int) < 9223372036854775808 := by omega
            have f4 : Hid (U + V = Sm.up (fo (xs.take (i + 1)))) := by show _ = _; rw [ef.out, Sm.up_snoc, ← hU.out, (hpos.out hs).1]
            have f5 : Hid (D = Sm.dn (fo (xs.take (i + 1)))) := by show _ = _; rw [ef.out, Sm.dn_snoc, ← hD.out, (hpos.out hs).2]; rfl
            clear hs
            go_wp2_with fail
            refine (nadd_any _ _ U V u6 vs _ P2.out NsH.out (Nat.le_trans hbd.out.1 (by decide)) (Nat.le_trans hvl.out (by decide))).mono ?_
            rintro e y3 ⟨va, rfl, Na, ka⟩
            have P3 : Hid (Nm y3 w.heap.size va (U + V)) := Nm.mono Na B2.out.size
            have L3 : Hid (Nm y3 w.heap.size u7 D) := L2.out.under ka
            have B3 : Hid (Below w.heap.size w y3) := B2.out.trans (ka.mono B2.out.size)
            clear Na ka P2 L2 B2 NsH
            go_wp2_with fail
            go_roundw
            case rel => exact ⟨i + 1, BI, BJ, false, U + V, D, by omega, by go_num, rfl, rfl, rfl, e1, e2, e3, f4, f5, hN1, P3, L3, B3⟩
            case measure => simp [RowKit.intOf]; omega
          · have hs' : decide ((x : Int) < 9223372036854775808) = false := decide_eq_false (by omega)
            have f4 : Hid (U = Sm.up (fo (xs.take (i + 1)))) := by show _ = _; rw [ef.out, Sm.up_snoc, ← hU.out, (hneg.out hs).1]; rfl
            have f5 : Hid (D + V = Sm.dn (fo (xs.take (i + 1)))) := by show _ = _; rw [ef.out, Sm.dn_snoc, ← hD.out, (hneg.out hs).2]
            clear hs
            go_wp2_with fail
            refine (nadd_any _ _ D V u7 vs _ L2.out NsH.out (Nat.le_trans hbd.out.2.1 (by decide)) (Nat.le_trans hvl.out (by decide))).mono ?_
            rintro e y3 ⟨va, rfl, Na, ka⟩
            have L3 : Hid (Nm y3 w.heap.size va (D + V)) := Nm.mono Na B2.out.size
            have P3 : Hid (Nm y3 w.heap.size u6 U) := P2.out.under ka
            have B3 : Hid (Below w.heap.size w y3) := B2.out.trans (ka.mono B2.out.size)
            clear Na ka P2 L2 B2 NsH
            go_wp2_with fail
            go_roundw
            case rel => exact ⟨i + 1, BI, BJ, false, U, D + V, by omega, by go_num, rfl, rfl, rfl, e1, e2, e3, f4, f5, hN1, P3, L3, B3⟩
            case measure => simp [RowKit.intOf]; omega
        · have e3 : Hid (zb = mz n (xs.take (i + 1))) := e3.out
          go_wp2_with fail
          refine (hparts.out _).mono ?_
          rintro e w' ⟨rfl, rfl⟩
          clear hparts
          go_wp2_with fail
          refine (nof_c m _ hml.out).mono ?_
          rintro e y1 ⟨vo, rfl, No, ko⟩
          have NoH : Hid (Nm y1 wr.heap.size vo m) := No
          have P1 : Hid (Nm y1 w.heap.size u6 U) := P.out.under ko
          have L1 : Hid (Nm y1 w.heap.size u7 D) := L.out.under ko
          have B1 : Hid (Below w.heap.size w y1) := Bi.out.trans (ko.mono Bi.out.size)
          clear No ko P L Bi
          have hmw : Hid (Wd.nw W32 m ≤ 100000) := Nat.le_trans (nw_bit32 (k := 2) hml.out) (by decide)
          go_wp2_with fail
          refine (nshift_c _ m E vo _ NoH.out hmw.out (by omega)).mono ?_
          rintro e y2 ⟨vs, rfl, Ns, ks⟩
          rw [hvr.out] at Ns
          have NsH : Hid (Nm y2 y1.heap.size vs V) := Ns
          have P2 : Hid (Nm y2 w.heap.size u6 U) := P1.out.under ks
          have L2 : Hid (Nm y2 w.heap.size u7 D) := L1.out.under ks
          have B2 : Hid (Below w.heap.size w y2) := B1.out.trans (ks.mono B1.out.size)
          clear Ns ks P1 L1 B1 NoH hmw
          by_cases hs : x < 9223372036854775808
          · have hs' : (x : Int) < 9223372036854775808 := by omega
            have f4 : Hid (U + V = Sm.up (fo (xs.take (i + 1)))) := by show _ = _; rw [ef.out, Sm.up_snoc, ← hU.out, (hpos.out hs).1]
            have f5 : Hid (D = Sm.dn (fo (xs.take (i + 1)))) := by show _ = _; rw [ef.out, Sm.dn_snoc, ← hD.out, (hpos.out hs).2]; rfl
            clear hs
            go_wp2_with fail
            refine (nadd_any _ _ U V u6 vs _ P2.out NsH.out (Nat.le_trans hbd.out.1 (by decide)) (Nat.le_trans hvl.out (by decide))).mono ?_
            rintro e y3 ⟨va, rfl, Na, ka⟩
            have P3 : Hid (Nm y3 w.heap.size va (U + V)) := Nm.mono Na B2.out.size
            have L3 : Hid (Nm y3 w.heap.size u7 D) := L2.out.under ka
            have B3 : Hid (Below w.heap.size w y3) := B2.out.trans (ka.mono B2.out.size)
            clear Na ka P2 L2 B2 NsH
            go_wp2_with fail
            go_roundw
            case rel => exact ⟨i + 1, BI, BJ, zb, U + V, D, by omega, by go_num, rfl, rfl, rfl, e1, e2, e3, f4, f5, hN1, P3, L3, B3⟩
            case measure => simp [RowKit.intOf]; omega
          · have hs' : decide ((x : Int) < 9223372036854775808) = false := decide_eq_false (by omega)
            have f4 : Hid (U = Sm.up (fo (xs.take (i + 1)))) := by show _ = _; rw [ef.out, Sm.up_snoc, ← hU.out, (hneg.out hs).1]; rfl
            have f5 : Hid (D + V = Sm.dn (fo (xs.take (i + 1)))) := by show _ = _; rw [ef.out, Sm.dn_snoc, ← hD.out, (hneg.out hs).2]
            clear hs
            go_wp2_with fail
            refine (nadd_any _ _ D V u7 vs _ L2.out NsH.out (Nat.le_trans hbd.out.2.1 (by decide)) (Nat.le_trans hvl.out (by decide))).mono ?_
            rintro e y3 ⟨va, rfl, Na, ka⟩
            have L3 : Hid (Nm y3 w.heap.size va (D + V)) := Nm.mono Na B2.out.size
            have P3 : Hid (Nm y3 w.heap.size u6 U) := P2.out.under ka
            have B3 : Hid (Below w.heap.size w y3) := B2.out.trans (ka.mono B2.out.size)
            clear Na ka P2 L2 B2 NsH
            go_wp2_with fail
            go_roundw
            case rel => exact ⟨i + 1, BI, BJ, zb, U, D + V, by omega, by go_num, rfl, rfl, rfl, e1, e2, e3, f4, f5, hN1, P3, L3, B3⟩
            case measure => simp [RowKit.intOf]; omega
      · have hv : Hid (Sm.exB xs = 9221120237041090560) := by
          show _ = _
          unfold Sm.exB
          have : Sm.anyN xs = true := List.any_eq_true.2 ⟨x, hxm.out, hnan⟩
          rw [this]; rfl
        rw [bt_nan hnan] at hcall
        have hc9 : Hid (∀ W, Calls Try.prog 22 #[.int .u64 9221120237041090560] W fun e w' => e = .returned (.float .f64 9221120237041090560) ∧ W = w') := fun W => natFl_c 9221120237041090560 W (by decide)
        clear hnan
        go_wp2_with fail
        refine (hcall.out _).mono ?_
        rintro e w' ⟨rfl, rfl⟩
        go_wp2_with fail
        refine (hc9.out _).mono ?_
        rintro e w' ⟨rfl, rfl⟩
        go_wp2_with fail
        go_ret
        exact hend.out _ _ (by decide) (by rw [hv.out]; decide) Bi.out
    · have hlt' : decide ((i : Int) < (n : Int)) = false := decide_eq_false (by omega)
      rw [List.take_of_length_le (show xs.length ≤ i by rw [hn.out]; omega)] at hBI hBJ hBM hU hD hN
      have hfl : Hid (∀ (c : Nat) W, nanB c = false → c < 18446744073709551616 → Calls Try.prog 22 #[.int .u64 (c : Int)] W fun e w' => e = .returned (.float .f64 c) ∧ W = w') := fun c W h1 h2 => by
        have := natFl_c c W h2
        rw [bt_fin h1] at this; exact this
      have hEx : Hid (Sm.exB xs = if (BI && BJ) = true then 9221120237041090560 else if BI = true then 9218868437227405312 else if BJ = true then 18442240474082181120 else if Sm.allZ xs then 9223372036854775808 else Sm.exF (Sm.up xs) (Sm.dn xs)) := by
        show _ = _
        unfold Sm.exB
        rw [hN.out, hBI.out, hBJ.out, Bool.false_or]
      have hNN : Hid (Sm.anyN xs = false) := hN
      clear hc hN hbd
      cases BI
      · cases BJ
        · have hfo : fo xs = xs := fo_all hBI.out.symm hBJ.out.symm
          rw [hfo] at hU hD
          have hz : Hid (BM = Sm.allZ xs) := by show _ = _; rw [hBM.out, ← hn.out]; exact mz_all hfo
          have hEx2 : Hid (Sm.exB xs = if BM then 9223372036854775808 else Sm.exF U D) := by
            show _ = _
            rw [hEx.out, hU.out, hD.out, hz.out]; rfl
          have hUD : Hid (BM = true → U = 0 ∧ D = 0) := fun h => by rw [hU.out, hD.out]; exact Wn.allZ_ud (hz.out.symm.trans h)
          have hbU : Hid (Wd.nw W32 U ≤ 68 ∧ Wd.nw W32 D ≤ 68) := by
            have hf := Sm.Rel.refl xs
            have hff : ∀ x ∈ xs, Ari.fin x := fun x hx => by
              have := fo_fin (l := xs) hl.out hNN.out x (by rw [hfo]; exact hx)
              exact this
            have hll : xs.length ≤ 140737488355328 := by have := hn.out; omega
            rw [hU.out, hD.out]
            exact ⟨nw_big (big_bd (Sm.up_lt hff) hll).2, nw_big (big_bd (Sm.dn_lt hff) hll).2⟩
          clear hEx hBI hBJ hBM hU hD hz hfo
          have hcmpc : Hid (Calls Try.prog 38 #[u6, u7] wr fun e w' => e = .returned (.int .i64 (sgnOf U D)) ∧ ∃ q, w' = wr.drewN q) := ncmp_c _ _ U D u6 u7 wr P.out L.out (Nat.le_trans hbU.out.1 (by decide))
          by_cases heq : U = D
          · have hsg : sgnOf U D = 0 := by unfold sgnOf; rw [if_neg (by omega), if_neg (by omega)]
            rw [hsg] at hcmpc
            have hz0 : Hid (Sm.exF U D = 0) := by show _ = _; rw [heq]; unfold Sm.exF; rw [if_neg (by omega), Nat.sub_self]; exact Sm.rd_zero
            clear hsg heq hUD
            go_wp2_with fail
            refine hcmpc.out.mono ?_
            rintro e y1 ⟨rfl, q, hq⟩
            have B1 : Hid (Below w.heap.size w y1) := by rw [hq]; exact Bi.out.trans (below_drewN wr q)
            clear hq hcmpc
            cases BM
            · have hv : Hid (Sm.exB xs = 0) := by show _ = _; rw [hEx2.out]; exact hz0.out
              go_wp2_with fail
              go_ret
              exact hend.out _ _ (by decide) (by rw [hv.out]; decide) B1.out
            · have hv : Hid (Sm.exB xs = 9223372036854775808) := hEx2.out
              go_wp2_with fail
              refine (hfl.out 9223372036854775808 _ (by decide) (by decide)).mono ?_
              rintro e w' ⟨rfl, rfl⟩
              go_wp2_with fail
              go_ret
              exact hend.out _ _ (by decide) (by rw [hv.out]; decide) B1.out
          by_cases hcmp : U < D
          · have hfl9 := True.intro
            have hN0 : Hid (0 < D - U) := (by omega : 0 < D - U)
            have hle : Hid (U ≤ D) := (by omega : U ≤ D)
            have hBMf : BM = false := by
              cases e : BM
              · rfl
              · have := hUD.out e; omega
            subst hBMf
            have hV : Hid (Sm.exB xs = 9223372036854775808 + Sm.rd (D - U)) := by
              show _ = _
              rw [hEx2.out]
              show Sm.exF U D = _
              unfold Sm.exF
              rw [if_pos hcmp]
            have hsg : sgnOf U D = -1 := by unfold sgnOf; rw [if_pos (by omega)]
            rw [hsg] at hcmpc
            clear hsg hcmp hUD hEx2 heq
            go_wp2_with fail
            refine hcmpc.out.mono ?_
            rintro e y1 ⟨rfl, q, hq⟩
            have kq : Hid (Below wr.heap.size wr y1) := by rw [hq]; exact below_drewN wr q
            have P1 : Hid (Nm y1 w.heap.size u6 U) := P.out.under kq.out
            have L1 : Hid (Nm y1 w.heap.size u7 D) := L.out.under kq.out
            have B1 : Hid (Below w.heap.size w y1) := Bi.out.trans (kq.out.mono Bi.out.size)
            clear hq kq P L Bi hcmpc
            have ho1 : Hid (∀ W, Calls Try.prog 35 #[.int .u64 1] W fun e w' => ∃ v', e = .returned v' ∧ Nm w' W.heap.size v' 1 ∧ Below W.heap.size W w') := fun W => nof_c 1 W (by decide)
            go_wp2_with fail
            refine (ho1.out _).mono ?_
            rintro e y2 ⟨vo, rfl, No, ko⟩
            have NoH : Hid (Nm y2 y1.heap.size vo 1) := No
            have P2 : Hid (Nm y2 w.heap.size u6 U) := P1.out.under ko
            have L2 : Hid (Nm y2 w.heap.size u7 D) := L1.out.under ko
            have B2 : Hid (Below w.heap.size w y2) := B1.out.trans (ko.mono B1.out.size)
            clear No ko P1 L1 B1 ho1
            go_wp2_with fail
            refine (unit_c vo _ _ NoH.out).mono ?_
            rintro e y3 ⟨vu, rfl, Nu, ku⟩
            have NuH : Hid (Nm y3 y2.heap.size vu Rd.U) := Nu
            have P3 : Hid (Nm y3 w.heap.size u6 U) := P2.out.under ku
            have L3 : Hid (Nm y3 w.heap.size u7 D) := L2.out.under ku
            have B3 : Hid (Below w.heap.size w y3) := B2.out.trans (ku.mono B2.out.size)
            clear Nu ku P2 L2 B2 NoH
            go_wp2_with fail
            refine (nsub_c _ _ D U u7 u6 _ L3.out P3.out (Nat.le_trans hbU.out.2 (by decide)) hle.out).mono ?_
            rintro e y4 ⟨vd, rfl, Nd, kd⟩
            have NdH : Hid (Nm y4 y3.heap.size vd (D - U)) := Nd
            have Nu4 : Hid (Nm y4 y2.heap.size vu Rd.U) := NuH.out.under kd
            have B4 : Hid (Below w.heap.size w y4) := B3.out.trans (kd.mono B3.out.size)
            have hnw4 : Hid (Wd.nw W32 (D - U) ≤ 1000) := Nat.le_trans (Wd.nw_mono W32_2 (Nat.sub_le _ _)) (Nat.le_trans hbU.out.2 (by decide))
            clear Nd kd P3 L3 B3 NuH
            generalize D - U = N at *
            go_wp2_with fail
            refine (near_c9 _ _ N vd vu _ NdH.out Nu4.out hN0.out hnw4.out).mono ?_
            rintro e y5 ⟨b5, rfl, k5⟩
            have B5 : Hid (Below w.heap.size w y5) := B4.out.trans (k5.mono B4.out.size)
            have hrl : Hid (Sm.rd N ≤ 9218868437227405312) := Sm.rd_le N
            have hor := sign_or (Sm.rd N) (by have := Sm.rd_le N; omega)
            generalize Sm.rd N = R at *
            clear k5 B4 NdH Nu4
            go_wp2_with fail
            refine (hfl.out (9223372036854775808 + R) _ (by unfold nanB; rw [decide_eq_false_iff_not]; have := hrl.out; omega) (by have := hrl.out; omega)).mono ?_
            rintro e w' ⟨rfl, rfl⟩
            go_wp2_with fail
            go_ret
            exact hend.out _ _ (by have := hrl.out; omega) (by rw [hV.out]; exact bt_fin (by unfold nanB; rw [decide_eq_false_iff_not]; have := hrl.out; omega)) B5.out
          · have hfl9 := True.intro
            have hN0 : Hid (0 < U - D) := (by omega : 0 < U - D)
            have hle : Hid (D ≤ U) := (by omega : D ≤ U)
            have hBMf : BM = false := by
              cases e : BM
              · rfl
              · have := hUD.out e; omega
            subst hBMf
            have hV : Hid (Sm.exB xs = Sm.rd (U - D)) := by
              show _ = _
              rw [hEx2.out]
              show Sm.exF U D = _
              unfold Sm.exF
              rw [if_neg hcmp]
            have hsg : sgnOf U D = 1 := by unfold sgnOf; rw [if_neg (by omega), if_pos (by omega)]
            rw [hsg] at hcmpc
            clear hsg hcmp hUD hEx2 heq
            go_wp2_with fail
            refine hcmpc.out.mono ?_
            rintro e y1 ⟨rfl, q, hq⟩
            have kq : Hid (Below wr.heap.size wr y1) := by rw [hq]; exact below_drewN wr q
            have P1 : Hid (Nm y1 w.heap.size u6 U) := P.out.under kq.out
            have L1 : Hid (Nm y1 w.heap.size u7 D) := L.out.under kq.out
            have B1 : Hid (Below w.heap.size w y1) := Bi.out.trans (kq.out.mono Bi.out.size)
            clear hq kq P L Bi hcmpc
            have ho1 : Hid (∀ W, Calls Try.prog 35 #[.int .u64 1] W fun e w' => ∃ v', e = .returned v' ∧ Nm w' W.heap.size v' 1 ∧ Below W.heap.size W w') := fun W => nof_c 1 W (by decide)
            go_wp2_with fail
            refine (ho1.out _).mono ?_
            rintro e y2 ⟨vo, rfl, No, ko⟩
            have NoH : Hid (Nm y2 y1.heap.size vo 1) := No
            have P2 : Hid (Nm y2 w.heap.size u6 U) := P1.out.under ko
            have L2 : Hid (Nm y2 w.heap.size u7 D) := L1.out.under ko
            have B2 : Hid (Below w.heap.size w y2) := B1.out.trans (ko.mono B1.out.size)
            clear No ko P1 L1 B1 ho1
            go_wp2_with fail
            refine (unit_c vo _ _ NoH.out).mono ?_
            rintro e y3 ⟨vu, rfl, Nu, ku⟩
            have NuH : Hid (Nm y3 y2.heap.size vu Rd.U) := Nu
            have P3 : Hid (Nm y3 w.heap.size u6 U) := P2.out.under ku
            have L3 : Hid (Nm y3 w.heap.size u7 D) := L2.out.under ku
            have B3 : Hid (Below w.heap.size w y3) := B2.out.trans (ku.mono B2.out.size)
            clear Nu ku P2 L2 B2 NoH
            go_wp2_with fail
            refine (nsub_c _ _ U D u6 u7 _ P3.out L3.out (Nat.le_trans hbU.out.1 (by decide)) hle.out).mono ?_
            rintro e y4 ⟨vd, rfl, Nd, kd⟩
            have NdH : Hid (Nm y4 y3.heap.size vd (U - D)) := Nd
            have Nu4 : Hid (Nm y4 y2.heap.size vu Rd.U) := NuH.out.under kd
            have B4 : Hid (Below w.heap.size w y4) := B3.out.trans (kd.mono B3.out.size)
            have hnw4 : Hid (Wd.nw W32 (U - D) ≤ 1000) := Nat.le_trans (Wd.nw_mono W32_2 (Nat.sub_le _ _)) (Nat.le_trans hbU.out.1 (by decide))
            clear Nd kd P3 L3 B3 NuH
            generalize U - D = N at *
            go_wp2_with fail
            refine (near_c9 _ _ N vd vu _ NdH.out Nu4.out hN0.out hnw4.out).mono ?_
            rintro e y5 ⟨b5, rfl, k5⟩
            have B5 : Hid (Below w.heap.size w y5) := B4.out.trans (k5.mono B4.out.size)
            have hrl : Hid (Sm.rd N ≤ 9218868437227405312) := Sm.rd_le N
            generalize Sm.rd N = R at *
            clear k5 B4 NdH Nu4
            go_wp2_with fail
            refine (hfl.out (R) _ (by unfold nanB; rw [decide_eq_false_iff_not]; have := hrl.out; omega) (by have := hrl.out; omega)).mono ?_
            rintro e w' ⟨rfl, rfl⟩
            go_wp2_with fail
            go_ret
            exact hend.out _ _ (by have := hrl.out; omega) (by rw [hV.out]; exact bt_fin (by unfold nanB; rw [decide_eq_false_iff_not]; have := hrl.out; omega)) B5.out
        · have hv : Hid (Sm.exB xs = 18442240474082181120) := hEx.out
          clear hEx hBI hBJ hBM hU hD
          go_wp2_with fail
          refine (hfl.out 18442240474082181120 _ (by decide) (by decide)).mono ?_
          rintro e w' ⟨rfl, rfl⟩
          go_wp2_with fail
          go_ret
          exact hend.out _ _ (by decide) (by rw [hv.out]; decide) Bi.out
      · cases BJ
        · have hv : Hid (Sm.exB xs = 9218868437227405312) := hEx.out
          clear hEx hBI hBJ hBM hU hD
          go_wp2_with fail
          refine (hfl.out 9218868437227405312 _ (by decide) (by decide)).mono ?_
          rintro e w' ⟨rfl, rfl⟩
          go_wp2_with fail
          go_ret
          exact hend.out _ _ (by decide) (by rw [hv.out]; decide) Bi.out
        · have hv : Hid (Sm.exB xs = 9221120237041090560) := hEx.out
          clear hEx hBI hBJ hBM hU hD
          go_wp2_with fail
          refine (nanNum_c _).mono ?_
          rintro e w' ⟨rfl, rfl⟩
          go_wp2_with fail
          go_ret
          exact hend.out _ _ (by decide) (by rw [hv.out]; decide) Bi.out
theorem rexact_c (v : Value) (xs : List Nat) (w : World) (h : Fv w v xs) (hn : xs.length ≤ 8192) : Calls Try.prog 18 #[v] w (RFb w (Sm.exB xs)) := by
  obtain ⟨ao, cap, rfl, h1, h2⟩ := h.each
  exact rexact_n ao xs.length cap xs w rfl hn h2 h.lim
end Go.Proofs.Ytmfnjmgdindlaaa
