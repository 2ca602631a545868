/-
  DirectSpread: the whole walk.
-/
import Derived.Test.YtehaokdjdhejlaaDoorLa2
namespace Go.Proofs.YtehaokdjdhejlaaDoor
open Flo Go.RowKit
theorem nan10_c (w : World) : Calls Tryd.prog 24 #[] w fun e w' => e = .returned (.float .f64 9221120237041090561) ∧ w' = w := by
  have hf := run_frombits
  go_enter Tryd.func24, Tryd.ntmps24
  go_wp2
  go_ret
  exact ⟨rfl, rfl⟩
theorem inf10_c (w : World) : Calls Tryd.prog 25 #[.int .i64 1] w fun e w' => e = .returned (.float .f64 9218868437227405312) ∧ w' = w := by
  have hf := run_frombits
  go_enter Tryd.func25, Tryd.ntmps25
  go_wp2
  go_ret
  exact ⟨rfl, rfl⟩
/-- what q is by its place -/
def qv (K n : Nat) (i : Nat) : Int := if i = 0 then K else if i = 1 then (K : Int) + n else if i = 2 then (K : Int) - n else if i = 3 then 0 else (n : Int) - 1
theorem umod {a : Int} {m : Nat} (hm : 0 < m) : ∃ A : Nat, A < m ∧ (IntKind.u64.wrap a).tmod m = (A : Int) := by
  refine ⟨((IntKind.u64.wrap a).tmod m).toNat, ?_, ?_⟩
  all_goals
    rw [IntKind.wrap_u64, Int.tmod_eq_emod_of_nonneg (by omega)]
    have h1 := Int.emod_nonneg (a % 18446744073709551616) (b := (m : Int)) (by omega)
    have h2 := Int.emod_lt_of_pos (a % 18446744073709551616) (b := (m : Int)) (by omega)
    omega
/-- a list spread out, as far as its element j -/
structure Spr (w : World) (B g M P J j : Nat) (xs us : List (Nat × Nat)) : Prop where
  own : w.ownsRow B 37 1 (.slice (some ⟨g, 0, none⟩) M M) M (cz us)
  len : us.length = M
  lim : Lim us
  put : ∀ i, i < j → us.getD (P + i * J) (0, 0) = xs.getD i (0, 0)
theorem Spr.row {w : World} {B g M P J j : Nat} {xs us : List (Nat × Nat)} (h : Spr w B g M P J j xs us) : Row w B g M (fun k => us.getD k (0, 0)) M us := ⟨h.own, h.len, h.lim, fun _ _ => Lk.refl _⟩
theorem Spr.step {w : World} {B g M P J j Q : Nat} {xs us : List (Nat × Nat)} (h : Spr w B g M P J j xs us) (hJ : 1 ≤ J) {a b : Nat} (hx : xs.getD j (0, 0) = (a, b)) (ha : a < 18446744073709551616) (hb : b < 18446744073709551616) (hQ : Q = P + j * J) (hQM : Q < M) : Spr (w.setCell ⟨g, Q, none⟩ (.complex .f64 a b)) B g M P J (j + 1) xs (us.set Q (a, b)) := by
  have h1 := (h.own.stored Q (.complex .f64 a b)).1
  rw [cz_set us Q (a, b)] at h1
  refine ⟨h1, by rw [List.length_set, h.len], h.lim.set Q ha hb, fun i hi => ?_⟩
  by_cases c : i = j
  · subst c
    rw [← hQ, getD_set_eq _ (by rw [h.len]; exact hQM), hx]
  · have h2 : (i + 1) * J ≤ j * J := Nat.mul_le_mul_right J (by omega)
    rw [Nat.succ_mul] at h2
    rw [getD_set_ne _ (by omega)]
    exact h.put i (by omega)
set_option maxRecDepth 100000 in
set_option maxHeartbeats 4000000 in
theorem directSpread.walk (v : Value) (zs : List Nat) (p0 j0 k0 : Int) (w : World) (hin : InU w v zs) (hr : zs.length * 8 ≤ 140737488351232) :
    Calls Tryd.prog 5 #[v, .int .i64 p0, .int .i64 j0, .int .i64 k0] w fun e w' => e = .returned (.bool true) ∧ Below w.heap.size w w' := by
  have hinH : Hid (InU w v zs) := hin
  clear hin
  obtain ⟨P, hP, hPe⟩ := umod (a := p0) (m := 7) (by decide)
  obtain ⟨J', hJ', hJe⟩ := umod (a := j0) (m := 5) (by decide)
  go_enter Tryd.func5, Tryd.ntmps5
  go_wp2_with fail
  refine (lives10_c w).mono ?_
  rintro e w1 ⟨rfl, B1⟩
  have hB1 : Hid (Below w.heap.size w w1) := B1
  clear B1
  go_wp2_with fail
  refine (listOf_c v zs w1 (hinH.out.below hB1.out) hr).mono ?_
  rintro e w2 ⟨vx, rfl, hx, B2⟩
  have hB2 : Hid (Below w.heap.size w w2) := below_tr hB1.out B2
  obtain ⟨n, hn⟩ : ∃ n, Hid (zs.length / 2 = n) := ⟨_, (rfl : _ = _)⟩
  obtain ⟨xs, hxs⟩ : ∃ xs, Hid (prs zs = xs) := ⟨_, (rfl : _ = _)⟩
  have hxl : Hid (xs.length = n) := by show _ = _; rw [← hxs.out, prs_len, hn.out]
  have hlim : Hid (Lim xs) := by
    show Lim _
    rw [← hxs.out]
    obtain ⟨_, _, _, _, h3⟩ := hinH.out
    exact prs_lim h3
  have hX : Hid (RdC w2 vx xs) := by
    have h := hx
    rw [hn.out, hxs.out, ← hxl.out] at h
    exact RdC.of_own h
  have hnb : n ≤ 8796093022208 := by have := hn.out; omega
  obtain ⟨ax, cx, rfl⟩ := hX.out.slice hxl.out
  clear hx B2 hB1 hinH hr
  by_cases h0 : n = 0
  · subst h0
    go_wp2_with fail
    go_ret
    exact ⟨rfl, hB2.out⟩
  by_cases h200 : n > 200
  · have h0' : ((n : Int) == 0) = false := beq_eq_false_iff_ne.2 (by omega)
    have h2' : (n : Int) > 200 := by omega
    go_wp2_with fail
    go_ret
    exact ⟨rfl, hB2.out⟩
  have h0' : ((n : Int) == 0) = false := beq_eq_false_iff_ne.2 (by omega)
  have h2' : decide ((n : Int) > 200) = false := decide_eq_false (by omega)
  have hn0 : 0 < n := by omega
  have hn2 : n ≤ 200 := by omega
  clear h0 h200 hnb
  go_wp2_with fail
  refine (forwardOk_c _ xs n w2 hX.out hlim.out hxl.out hn0 (by omega)).mono ?_
  rintro e w3 ⟨g, ys, rfl, hg, R3, B3⟩
  have hR3 : Hid (Row w3 g g n (fun k => dsm n k fun j => xs.getD j (0, 0)) n ys) := R3
  have hB3 : Hid (Below w.heap.size w w3) := below_tr hB2.out B3
  have hX3 : Hid (RdC w3 (.slice ax n cx) xs) := hX.out.below B3
  have hg3 : Hid (g < w3.heap.size) := World.block_lt_of_cell? w3 _ (R3.cell hn0)
  clear R3 B3 hB2 hX hg
  have hne : ((n : Int) == (n : Int)) = true := beq_self_eq_true _
  have hPe' : (IntKind.u64.wrap p0).tmod 7 = (P : Int) := hPe
  have hJe' : (IntKind.u64.wrap j0).tmod 5 = (J' : Int) := hJe
  obtain ⟨J, hJ, hJ1⟩ : ∃ J : Nat, Hid (J = 1 + J') ∧ (1 : Int) + (J' : Int) = (J : Int) := ⟨1 + J', (rfl : _ = _), by omega⟩
  have hJ2 : J ≤ 5 := by have := hJ.out; omega
  have hJ3 : 1 ≤ J := by have := hJ.out; omega
  obtain ⟨T, hT, hT1⟩ : ∃ T : Nat, Hid (T = (n - 1) * J) ∧ ((n : Int) - 1) * (J : Int) = (T : Int) := ⟨(n - 1) * J, (rfl : _ = _), by rw [Int.natCast_mul, Int.natCast_sub hn0]; rfl⟩
  have hT2 : T ≤ 995 := by
    rw [hT.out]
    exact Nat.le_trans (Nat.mul_le_mul (show n - 1 ≤ 199 by omega) hJ2) (by decide)
  obtain ⟨S, hS, hS1⟩ : ∃ S : Nat, Hid (S = P + T) ∧ (P : Int) + (T : Int) = (S : Int) := ⟨P + T, (rfl : _ = _), by omega⟩
  have hS2 : S ≤ 1001 := by have := hS.out; omega
  obtain ⟨M, hM, hM1⟩ : ∃ M : Nat, Hid (M = S + 1) ∧ (S : Int) + 1 = (M : Int) := ⟨S + 1, (rfl : _ = _), by omega⟩
  have hM2 : M ≤ 1002 := by have := hM.out; omega
  clear hPe hJe
  obtain ⟨w4, hmk, hrow, hb4⟩ := makeCx w3 M (by omega)
  have R0 : Hid (Row w4 w3.heap.size w3.heap.size M (fun _ => (9221120237041090561, 9218868437227405312)) 0 (List.replicate M (0, 0))) := Row.made _ hrow.out
  have hg0 : (0 : Int) ≤ (M : Int) := by omega
  clear hrow
  go_wp2_with fail
  clear hmk
  go_loopw [14, 68] (fun _ si wx => ∃ (i : Nat) (us : List (Nat × Nat)), i ≤ M ∧ si = .int .i64 (i : Int) ∧ Hid (Row wx w3.heap.size w3.heap.size M (fun _ => (9221120237041090561, 9218868437227405312)) i us) ∧ Hid (Below w3.heap.size w3 wx)) (fun _ si _ => M - (intOf si).toNat)
  case atStart => exact ⟨0, _, Nat.zero_le _, rfl, R0, hb4⟩
  case round =>
    clear R0 hb4
    obtain ⟨i, us, hi, rfl, R, hb⟩ := hrel
    by_cases hlt : i < M
    · have hlt' : (i : Int) < (M : Int) := by omega
      go_wp2_with fail
      refine (nan10_c wr).mono ?_
      rintro e w5 ⟨rfl, rfl⟩
      go_wp2_with fail
      refine (inf10_c w5).mono ?_
      rintro e w6 ⟨rfl, rfl⟩
      have c3 := R.out.cell hlt
      have f2 := R.out.frozen i
      have R3 : Hid (Row (w6.setCell ⟨w3.heap.size, i, none⟩ (.complex .f64 9221120237041090561 9218868437227405312)) w3.heap.size w3.heap.size M (fun _ => (9221120237041090561, 9218868437227405312)) (i + 1) (us.set i (9221120237041090561, 9218868437227405312))) := R.out.put (by decide) (by decide) hlt (Lk.refl _)
      have B3 : Hid (Below w3.heap.size w3 (w6.setCell ⟨w3.heap.size, i, none⟩ (.complex .f64 9221120237041090561 9218868437227405312))) := hb.out.setCell (p := ⟨w3.heap.size, i, none⟩) (Nat.le_refl _) _
      have hsc := store_cx
      clear R hb
      go_wp2
      go_roundw
      case rel => exact ⟨i + 1, _, by omega, by go_num, R3, B3⟩
      case measure => simp [intOf]; omega
    · have hlt' : decide ((i : Int) < (M : Int)) = false := decide_eq_false (by omega)
      have S0 : Hid (Spr wr w3.heap.size w3.heap.size M P J 0 xs us) := ⟨R.out.own, R.out.len, R.out.lim, fun i hi => absurd hi (Nat.not_lt_zero i)⟩
      have hb0 : Hid (Below w3.heap.size w3 wr) := hb
      clear R hb hi
      go_wp2_with fail
      go_loopw [15, 16, 80] (fun _ _ si wx => ∃ (j : Nat) (us : List (Nat × Nat)), j ≤ n ∧ si = .int .i64 (j : Int) ∧ Hid (Spr wx w3.heap.size w3.heap.size M P J j xs us) ∧ Hid (Below w3.heap.size w3 wx)) (fun _ _ si _ => n - (intOf si).toNat)
      case atStart => exact ⟨0, us, Nat.zero_le _, rfl, S0, hb0⟩
      case round =>
        clear S0 hb0
        obtain ⟨j, vs, hj, rfl, R, hb⟩ := hrel
        by_cases hltj : j < n
        · have hlt2 : (j : Int) < (n : Int) := by omega
          obtain ⟨bx, ox, rfl, hbx, k1⟩ := hX3.out.each hltj hxl.out
          have hcx := (hb.out.cell (p := ⟨bx, ox + j, none⟩) hbx).trans k1
          have hlj := hlim.out j (by rw [hxl.out]; exact hltj)
          obtain ⟨U, hU, hU1⟩ : ∃ U : Nat, Hid (U = j * J) ∧ (j : Int) * (J : Int) = (U : Int) := ⟨j * J, (rfl : _ = _), by rw [Int.natCast_mul]⟩
          have hUT : U ≤ T := by rw [hU.out, hT.out]; exact Nat.mul_le_mul_right J (by omega)
          obtain ⟨Q, hQ, hQ1⟩ : ∃ Q : Nat, Hid (Q = P + U) ∧ (P : Int) + (U : Int) = (Q : Int) := ⟨P + U, (rfl : _ = _), by omega⟩
          have hQM : Q < M := by have := hQ.out; have := hM.out; have := hS.out; omega
          have hQM' : (Q : Int) < (M : Int) := by omega
          have c3 := R.out.row.cell hQM
          have f2 := R.out.row.frozen Q
          have hst : Hid (∀ a b, xs.getD j (0, 0) = (a, b) → a < 18446744073709551616 → b < 18446744073709551616 → Spr (wr.setCell ⟨w3.heap.size, Q, none⟩ (.complex .f64 a b)) w3.heap.size w3.heap.size M P J (j + 1) xs (vs.set Q (a, b))) := fun a b e1 e2 e3 => R.out.step hJ3 e1 e2 e3 (by rw [hQ.out, hU.out]) hQM
          obtain ⟨⟨a, c⟩, hac⟩ : ∃ z, xs.getD j (0, 0) = z := ⟨_, rfl⟩
          rw [hac] at hcx hlj
          have R3 : Hid (Spr (wr.setCell ⟨w3.heap.size, Q, none⟩ (.complex .f64 a c)) w3.heap.size w3.heap.size M P J (j + 1) xs (vs.set Q (a, c))) := hst.out a c hac hlj.1 hlj.2
          have B3 : Hid (Below w3.heap.size w3 (wr.setCell ⟨w3.heap.size, Q, none⟩ (.complex .f64 a c))) := hb.out.setCell (p := ⟨w3.heap.size, Q, none⟩) (Nat.le_refl _) _
          have hsc := store_cx
          clear R hb hst k1 hac hlj
          go_wp2
          go_roundw
          case rel => exact ⟨j + 1, _, by omega, by go_num, R3, B3⟩
          case measure => simp [intOf]; omega
        · have hlt2 : decide ((j : Int) < (n : Int)) = false := decide_eq_false (by omega)
          have ej : j = n := by omega
          subst ej
          obtain ⟨K, hK, hKe⟩ := umod (a := k0) (m := j) hn0
          have hnu : IntKind.u64.wrap (j : Int) = (j : Int) := by rw [IntKind.wrap_u64]; omega
          have hjz : ¬ j = 0 := by omega
          go_wp2_with fail
          rename World => wz
          obtain ⟨W0, hW0⟩ : ∃ W0, Hid (wz.alloc (.cells #[.int .i64 (K : Int), .int .i64 ((K : Int) + (j : Int)), .int .i64 ((K : Int) - (j : Int)), .int .i64 0, .int .i64 ((j : Int) - 1)] 3) = W0) := ⟨_, (rfl : _ = _)⟩
          rw [hW0.out]
          have hW1 : Hid (Below wz.heap.size wz W0) := by rw [← hW0.out]; exact (Below.refl _ _).alloc (Nat.le_refl _) _
          have hcl : Hid (∀ i, i < 5 → W0.cell? ⟨wz.heap.size, i, none⟩ = some (.int .i64 (qv K j i))) := by
            show ∀ i, i < 5 → _
            intro i hi
            rw [← hW0.out, cell_of_row _ _ _ _ _ _ (heap_alloc_new wz _)]
            match i, hi with
            | 0, _ => rfl | 1, _ => rfl | 2, _ => rfl | 3, _ => rfl | 4, _ => rfl
          have hlW : Hid (wz.heap.size < W0.heap.size) := World.block_lt_of_cell? W0 _ (hcl.out 0 (by decide))
          have hXW : Hid (∀ W, Below W0.heap.size W0 W → RdC W (.slice ax j cx) xs) := fun W hb' => hX3.out.below (below_tr (below_tr hb.out hW1.out) hb')
          have hZW : Hid (∀ W, Below W0.heap.size W0 W → RdC W (.slice (some ⟨w3.heap.size, 0, none⟩) M M) vs) := fun W hb' => (R.out.row.keep (below_tr hW1.out hb')).rd
          have hYW : Hid (∀ W k, Below W0.heap.size W0 W → k < j → W.cell? ⟨g, k, none⟩ = some (.complex .f64 (ys.getD k (0, 0)).1 (ys.getD k (0, 0)).2)) := fun W k hb' hk => ((below_tr (below_tr hb.out hW1.out) hb').cell (p := ⟨g, k, none⟩) hg3.out).trans (hR3.out.cell hk)
          have hins1 : Hid (ins xs.length 0 1 j = true) := by
            show _ = _
            rw [hxl.out]
            refine decide_eq_true ⟨by omega, by omega, by omega, ?_⟩
            rw [Int.tdiv_one]; omega
          have hins2 : Hid (ins vs.length (P : Int) (J : Int) j = true) := by
            show _ = _
            rw [R.out.len]
            refine decide_eq_true ⟨by omega, by omega, by omega, ?_⟩
            have e : (M : Int) - 1 - (P : Int) = (T : Int) := by omega
            rw [e, Int.tdiv_eq_ediv_of_nonneg (by omega), ← hT1, Int.mul_ediv_cancel _ (by omega)]
            omega
          have hdz : Hid (∀ r, Lk (dsm j r fun i => vs.getD (P + i * J) (0, 0)) (dsm j r fun i => xs.getD i (0, 0))) := fun r => dsm_lk hn0 fun i hi => Lk.of_eq (R.out.put i hi)
          have hvl : Hid (Lim vs ∧ vs.length ≤ 1002) := ⟨R.out.lim, by rw [R.out.len]; exact hM2⟩
          have hyl : Hid (Lim ys ∧ ys.length = j) := ⟨hR3.out.lim, hR3.out.len⟩
          have hyu : Hid (∀ r, r < j → Lk (ys.getD r (0, 0)) (dsm j r fun i => xs.getD i (0, 0))) := hR3.out.up
          have hBall : Hid (Below w.heap.size w W0) := below_tr (below_tr hB3.out hb.out) hW1.out
          clear R hb hX3 hR3 hB3 hW0 hT1 hT hS hS1 hM hM1 hJ hJ1
          go_loopw [18, 19, 20, 21, 22, 23, 111] (fun _ _ _ _ _ _ si wx => ∃ (i : Nat), i ≤ 5 ∧ si = .int .i64 (i : Int) ∧ Hid (Below W0.heap.size W0 wx)) (fun _ _ _ _ _ _ si _ => 5 - (intOf si).toNat)
          case atStart => exact ⟨0, by decide, rfl, Below.refl _ _⟩
          case round =>
            obtain ⟨i, hi5, rfl, hbw⟩ := hrel
            by_cases hlt5 : i < 5
            · have hlt5' : (i : Int) < 5 := by omega
              have hcq := (hbw.out.cell (p := ⟨wz.heap.size, i, none⟩) hlW.out).trans (hcl.out i hlt5)
              obtain ⟨q, hq⟩ : ∃ q, Hid (qv K j i = q) := ⟨_, (rfl : _ = _)⟩
              rw [hq.out] at hcq
              have hqb : -200 ≤ q ∧ q ≤ 400 := by
                rw [← hq.out]; unfold qv
                repeat' split
                all_goals omega
              obtain ⟨r, hr⟩ : ∃ r, Hid (r = Rp.md j q) := ⟨_, (rfl : _ = _)⟩
              have hrj : r < j := by rw [hr.out]; exact Rp.md_lt hn0 q
              have hr1 := tmod_md hn0 q
              rw [← hr.out] at hr1
              have hb1 : -(j : Int) < q.tmod j ∧ q.tmod j < j := ⟨Int.lt_tmod_of_pos q (by omega), Int.tmod_lt_of_pos q (by omega)⟩
              obtain ⟨t0, ht0⟩ : ∃ t0, q.tmod j = t0 := ⟨_, rfl⟩
              rw [ht0] at hr1 hb1
              have hA1 : Hid (∀ W, Below W0.heap.size W0 W → Calls Tryd.prog 21 #[.slice ax j cx, .int .i64 0, .int .i64 1, .int .i64 (j : Int), .int .i64 q] W (RZt W (dsm j r fun i => xs.getD i (0, 0)) .nilIface)) := fun W hb' => by
                have h := atOk_c (.slice ax j cx) xs 0 1 q j W (hXW.out W hb') hlim.out (by rw [hxl.out]; omega) hins1.out hn0 (by omega)
                rw [← hr.out] at h
                have e : (fun i => xs.getD ((0 : Int).toNat + i * (1 : Int).toNat) (0, 0)) = fun i => xs.getD i (0, 0) := by funext i; rw [show (0 : Int).toNat = 0 from rfl, show (1 : Int).toNat = 1 from rfl, Nat.mul_one, Nat.zero_add]
                rw [e] at h
                exact h
              have hA2 : Hid (∀ W, Below W0.heap.size W0 W → Calls Tryd.prog 21 #[.slice (some ⟨w3.heap.size, 0, none⟩) M M, .int .i64 (P : Int), .int .i64 (J : Int), .int .i64 (j : Int), .int .i64 q] W (RZt W (dsm j r fun i => vs.getD (P + i * J) (0, 0)) .nilIface)) := fun W hb' => by
                have h := atOk_c (.slice (some ⟨w3.heap.size, 0, none⟩) M M) vs (P : Int) (J : Int) q j W (hZW.out W hb') hvl.out.1 (by have := hvl.out.2; omega) hins2.out hn0 (by omega)
                rw [← hr.out, Int.toNat_natCast, Int.toNat_natCast] at h
                exact h
              have hyr := hyu.out r hrj
              have hylr := hyl.out.1 r (by rw [hyl.out.2]; exact hrj)
              have hdr := hdz.out r
              have hyc : Hid (∀ W, Below W0.heap.size W0 W → W.cell? ⟨g, r, none⟩ = some (.complex .f64 (ys.getD r (0, 0)).1 (ys.getD r (0, 0)).2)) := fun W hb' => hYW.out W r hb' hrj
              generalize (dsm j r fun i => vs.getD (P + i * J) (0, 0)) = Z2 at *
              generalize (dsm j r fun i => xs.getD i (0, 0)) = Z1 at *
              generalize ys.getD r (0, 0) = yr at *
              obtain ⟨ya, yb⟩ := yr
              have hfin : Hid (∀ x y W, x < 18446744073709551616 → y < 18446744073709551616 → Lk (x, y) Z1 → Calls Tryd.prog 23 #[.complex .f64 x y, .complex .f64 ya yb] W fun e w' => e = .returned (.bool true) ∧ w' = W) := fun x y W hx hy lk => (same10_c x y ya yb W hx hy hylr.1 hylr.2 (lk.trans hyr.symm)).mono fun _ _ h => ⟨h.1, h.2.symm⟩
              have hdrH : Hid (Lk Z2 Z1) := hdr
              clear hyr hylr hdr
              have hrj' : (r : Int) < (j : Int) := by omega
              go_wp2_with fail
              refine (hA1.out wr hbw.out).mono ?_
              rintro e w5 ⟨x1, y1, rfl, B5, lx1, ly1, lk1⟩
              have hlk1 : Hid (Lk (x1, y1) Z1) := lk1
              have hB5 : Hid (Below W0.heap.size W0 w5) := below_tr hbw.out B5
              clear lk1 B5
              go_wp2_with fail
              refine (hA2.out w5 hB5.out).mono ?_
              rintro e w6 ⟨x2, y2, rfl, B6, lx2, ly2, lk2⟩
              have hlk2 : Hid (Lk (x2, y2) Z1) := lk2.trans hdrH.out
              have hB6 : Hid (Below W0.heap.size W0 w6) := below_tr hB5.out B6
              have hcy := hyc.out w6 hB6.out
              clear lk2 B6 hbw hB5
              go_wp2_with fail
              refine (hfin.out x1 y1 w6 lx1 ly1 hlk1.out).mono ?_
              rintro e w7 ⟨rfl, rfl⟩
              go_wp2_with fail
              refine (hfin.out x2 y2 w7 lx2 ly2 hlk2.out).mono ?_
              rintro e w8 ⟨rfl, rfl⟩
              clear hA1 hA2 hfin hyc hr1 ht0 hcq hcy hlk1 hlk2
              go_wp2_with fail
              go_roundw
              case rel => exact ⟨i + 1, by omega, by go_num, hB6⟩
              case measure => simp [intOf]; omega
            · have hlt5' : decide ((i : Int) < 5) = false := decide_eq_false (by omega)
              have hE : Hid (Below w.heap.size w wr) := below_tr hBall.out hbw.out
              go_wp2_with fail
              go_ret
              exact ⟨rfl, hE.out⟩
end Go.Proofs.YtehaokdjdhejlaaDoor
