/-
  Contracts of package direct: a pair twisted by a table's root; the sum k.
-/
import Derived.Test.YtgfmimmiaalhcaaDoorDs0
import Derived.Test.YtgfmimmiaalhcaaDoorPt7
namespace Go.Proofs.YtgfmimmiaalhcaaDoor
open Flo Go.RowKit

theorem drn (w : World) (a b : Nat) : (w.drewN a).drewN b = w.drewN (a + b) := by unfold World.drewN; simp [Nat.add_assoc]
/-- the roots of n lie at block G -/
structure Tab (w : World) (G n : Nat) : Prop where
  lt : G < w.heap.size
  at_ : ∀ j, j < n → w.cell? ⟨G, j, none⟩ = some (.complex .f64 (Rp.pc n j) (Rp.pim n j))
theorem Tab.below {w w' : World} {G n : Nat} (h : Tab w G n) (hb : Below w.heap.size w w') : Tab w' G n :=
  ⟨Nat.lt_of_lt_of_le h.lt hb.size, fun j hj => (hb.cell (p := ⟨G, j, none⟩) h.lt).trans (h.at_ j hj)⟩
theorem Tab.drewN {w : World} {G n : Nat} (h : Tab w G n) (k : Nat) : Tab (w.drewN k) G n := ⟨h.lt, h.at_⟩
theorem rl_at' {n j : Nat} (h : j < n) : (cz (rl n))[j]? = some (.complex .f64 (Rp.pc n j) (Rp.pim n j)) := by
  simp [cz, rl, rlv, h]
theorem Tab.own {w : World} {B G n cap : Nat} (h : w.ownsRow B 23 1 (.slice (some ⟨G, 0, none⟩) n cap) n (cz (rl n))) (hn : 0 < n) : Tab w G n := by
  have key : ∀ j, j < n → w.cell? ⟨G, j, none⟩ = some (.complex .f64 (Rp.pc n j) (Rp.pim n j)) := by
    intro j hj
    have := h.cellAt j (by omega)
    rw [rl_at' hj] at this
    simpa using this
  refine ⟨?_, key⟩
  have := key 0 hn
  unfold World.cell? at this
  cases e : w.heap[G]? with
  | none => rw [e] at this; cases this
  | some o => exact (Array.getElem?_eq_some_iff.1 e).1
set_option maxHeartbeats 1000000 in
theorem twisted_c (a b k G n C : Nat) (w : World) (ha : a < 18446744073709551616) (hb : b < 18446744073709551616) (hk : k < n) (T : Tab w G n) :
    Calls Tryd.prog 52 #[.complex .f64 a b, .int .i64 (k : Int), .slice (some ⟨G, 0, none⟩) n C] w (RZ w (tws n k (a, b))) := by
  by_cases h0 : k = 0
  · have hv : Hid (tws n k (a, b) = (a, b)) := (by unfold tws; rw [if_pos h0] : tws n k (a, b) = (a, b))
    subst h0
    clear T
    go_enter Tryd.func52, Tryd.ntmps52
    go_wp2
    go_ret
    exact ⟨a, b, 0, rfl, rfl, ha, hb, by rw [hv.out]; exact Lk.refl _⟩
  · have hv : Hid (tws n k (a, b) = mlc (a, b) (Rp.pc n k, Rp.pim n k)) := (by unfold tws; rw [if_neg h0] : tws n k (a, b) = _)
    have h0' : ((k : Int) == 0) = false := beq_eq_false_iff_ne.2 (by omega)
    have c0 := T.at_ k hk
    generalize Rp.pc n k = c at *
    generalize Rp.pim n k = d at *
    clear T
    go_enter Tryd.func52, Tryd.ntmps52
    go_wp2_with fail
    refine (cMul_c a b c d w).mono ?_
    rintro e w3 ⟨x, y, q, rfl, rfl, lx, ly, ex, ey⟩
    have hx : Hid (Lk (x, y) (mlc (a, b) (c, d))) := ⟨ex.trans (bt_mulRe ..).symm, ey.trans (bt_mulIm ..).symm⟩
    clear ex ey
    go_wp2_with fail
    go_ret
    exact ⟨x, y, q, rfl, rfl, lx, ly, by rw [hv.out]; exact hx.out⟩
set_option maxHeartbeats 2000000 in
theorem sum_n (b off cap : Nat) (zs : List (Nat × Nat)) (p jump n k G C L : Nat) (w : World) (hL : Hid (zs.length = L)) (hb : Hid (∀ i, i < zs.length → w.cell? ⟨b, off + i, none⟩ = some (.complex .f64 (zs.getD i (0, 0)).1 (zs.getD i (0, 0)).2)))
    (hl : Hid (Lim zs)) (hlast : p + (n - 1) * jump < L) (hn : 0 < n) (hk : k < n) (hn2 : n ≤ 16384) (hlen : L ≤ 140737488355328) (T : Hid (Tab w G n)) :
    Calls Tryd.prog 46 #[.slice (some ⟨b, off, none⟩) L cap, .int .i64 (p : Int), .int .i64 (jump : Int), .int .i64 (k : Int), .slice (some ⟨G, 0, none⟩) n C] w (RZ w (dsm n k fun j => zs.getD (p + j * jump) (0, 0))) := by
  have hc0 : w.cell? ⟨b, off + p, none⟩ = some (.complex .f64 (zs.getD p (0, 0)).1 (zs.getD p (0, 0)).2) := hb.out p (by rw [hL.out]; omega)
  have hp1 : p < L := by omega
  have z0 : Hid (Lk ((zs.getD p (0, 0)).1, (zs.getD p (0, 0)).2) (dst n k (fun j => zs.getD (p + j * jump) (0, 0)) 0)) := by show Lk _ _; unfold dst; rw [Nat.zero_mul]; exact Lk.refl _
  have hl0 : Hid ((zs.getD p (0, 0)).1 < 18446744073709551616 ∧ (zs.getD p (0, 0)).2 < 18446744073709551616) := hl.out p (by rw [hL.out]; exact hp1)
  generalize (zs.getD p (0, 0)).1 = x0 at *
  generalize (zs.getD p (0, 0)).2 = y0 at *
  have hlast' : Hid (p + (n - 1) * jump < L) := hlast
  clear hlast
  go_enter Tryd.func46, Tryd.ntmps46
  go_wp2_with fail
  clear hc0
  go_loopw [1, 12, 13, 14] (fun sp sv st sj wx => ∃ x y j d P u : Nat, sp = .int .i64 (P : Int) ∧ sv = .complex .f64 x y ∧ st = .int .i64 (u : Int) ∧ sj = .int .i64 (j : Int) ∧ j ≤ n ∧ 1 ≤ j ∧ Hid (P = p + (j - 1) * jump) ∧ Hid (u = (j - 1) * k % n) ∧ wx = w.drewN d ∧ Hid (x < 18446744073709551616 ∧ y < 18446744073709551616 ∧ Lk (x, y) (dst n k (fun j => zs.getD (p + j * jump) (0, 0)) (j - 1)))) (fun _ _ _ sj _ => n - (intOf sj).toNat)
  case atStart => exact ⟨x0, y0, 1, 0, p, 0, rfl, rfl, rfl, rfl, hn, Nat.le_refl _, (by simp : p = p + (1 - 1) * jump), (by simp : 0 = (1 - 1) * k % n), rfl, hl0.out.1, hl0.out.2, z0.out⟩
  case round =>
    clear z0 hl0 hp1
    obtain ⟨x, y, j, d, P, u, rfl, rfl, rfl, rfl, hjn, hj1, hP, hu, rfl, hxy⟩ := hrel
    by_cases hlt : j < n
    · have hlt' : (j : Int) < (n : Int) := by omega
      have hT := (T.out.drewN d)
      have hle : Hid (p + j * jump < L) := by
        show p + j * jump < L
        have h1 : j * jump ≤ (n - 1) * jump := Nat.mul_le_mul_right _ (by omega)
        have := hlast'.out
        omega
      obtain ⟨Q, hQ, hQ1⟩ : ∃ Q : Nat, Hid (Q = p + j * jump) ∧ (P : Int) + (jump : Int) = (Q : Int) := by
        refine ⟨p + j * jump, (rfl : _ = _), ?_⟩
        have e : j * jump = (j - 1) * jump + jump := by
          obtain ⟨m, rfl⟩ : ∃ m, j = m + 1 := ⟨j - 1, by omega⟩
          simp [Nat.succ_mul]
        have := hP.out
        omega
      have hQL : Q < L := by rw [hQ.out]; exact hle.out
      have hu1 : u < n := by rw [hu.out]; exact Nat.mod_lt _ hn
      obtain ⟨t, ht, ht1⟩ : ∃ t : Nat, Hid (t = j * k % n) ∧ ((u : Int) + (k : Int)).tmod (n : Int) = (t : Int) := by
        refine ⟨j * k % n, (rfl : _ = _), ?_⟩
        have e := turn_step n k (j - 1)
        rw [show j - 1 + 1 = j by omega, ← hu.out] at e
        rw [Int.tmod_eq_emod_of_nonneg (by omega), ← e, Int.natCast_emod, Int.natCast_add]
      have htn : t < n := by rw [ht.out]; exact Nat.mod_lt _ hn
      have hcQ : (w.drewN d).cell? ⟨b, off + Q, none⟩ = some (.complex .f64 (zs.getD Q (0, 0)).1 (zs.getD Q (0, 0)).2) := hb.out Q (by rw [hL.out]; exact hQL)
      have hlQ := hl.out Q (by rw [hL.out]; exact hQL)
      have hcall : Hid (Calls Tryd.prog 52 #[.complex .f64 (zs.getD Q (0, 0)).1 (zs.getD Q (0, 0)).2, .int .i64 (t : Int), .slice (some ⟨G, 0, none⟩) n C] (w.drewN d) (RZ (w.drewN d) (tws n t (zs.getD Q (0, 0))))) := twisted_c _ _ t G n C _ hlQ.1 hlQ.2 htn hT
      have hst : Hid (dst n k (fun j => zs.getD (p + j * jump) (0, 0)) j = adc (dst n k (fun j => zs.getD (p + j * jump) (0, 0)) (j - 1)) (tws n t (zs.getD Q (0, 0)))) := by
        show _ = _
        obtain ⟨m, rfl⟩ : ∃ m, j = m + 1 := ⟨j - 1, by omega⟩
        rw [ht.out, hQ.out]; rfl
      generalize (zs.getD Q (0, 0)) = zq at *
      obtain ⟨a, c⟩ := zq
      clear hP hu hle hT hlQ
      have hadd := @run_cadd Tryd.prog
      go_wp2_with fail
      refine hcall.out.mono ?_
      rintro e w3 ⟨x2, y2, q, rfl, rfl, lx, ly, lk⟩
      have hx2 : Hid (Lk (x2, y2) (tws n t (a, c))) := lk
      clear lk hcall hcQ
      obtain ⟨J, hJ, hJ1⟩ : ∃ J : Nat, Hid (J = j + 1) ∧ (j : Int) + 1 = (J : Int) := ⟨j + 1, (rfl : _ = _), by omega⟩
      go_wp2_with fail
      go_roundw
      case rel =>
        refine ⟨_, _, J, _, Q, t, rfl, rfl, rfl, rfl, ?_, ?_, ?_, ?_, rfl, fr_lt .., fr_lt .., ?_⟩
        · rw [hJ.out]; exact hlt
        · rw [hJ.out]; omega
        · show Q = _; rw [hJ.out, hQ.out]; rfl
        · show t = _; rw [hJ.out, ht.out]; rfl
        · rw [hJ.out]
          show Lk _ (dst _ _ _ j)
          rw [hst.out, adc_of hxy.out.2.2.symm hx2.out.symm]
          exact ⟨by rw [bt_fr]; exact (bt_co ..).symm, by rw [bt_fr]; exact (bt_co ..).symm⟩
      case measure => simp [intOf]; have := hJ.out; omega
    · have hlt' : decide ((j : Int) < (n : Int)) = false := decide_eq_false (by omega)
      have ej : j = n := by omega
      subst ej
      go_wp2
      go_ret
      exact ⟨x, y, d, rfl, rfl, hxy.out.1, hxy.out.2.1, hxy.out.2.2⟩
theorem sum_c (v : Value) (zs : List (Nat × Nat)) (p jump n k G C : Nat) (w : World) (hx : RdC w v zs) (hl : Lim zs) (hlast : p + (n - 1) * jump < zs.length) (hn : 0 < n) (hk : k < n) (hn2 : n ≤ 16384) (hlen : zs.length ≤ 140737488355328) (T : Tab w G n) :
    Calls Tryd.prog 46 #[v, .int .i64 (p : Int), .int .i64 (jump : Int), .int .i64 (k : Int), .slice (some ⟨G, 0, none⟩) n C] w (RZ w (dsm n k fun j => zs.getD (p + j * jump) (0, 0))) := by
  obtain ⟨ao, cap, rfl, h2⟩ := hx
  obtain ⟨b, off, rfl, hb, h3⟩ := h2 (fun e => by rw [e] at hlast; simp at hlast)
  exact sum_n b off cap zs p jump n k G C _ w rfl h3 hl hlast hn hk hn2 hlen T
theorem cz_set (zs : List (Nat × Nat)) (i : Nat) (z : Nat × Nat) : (cz zs).set i (.complex .f64 z.1 z.2) = cz (zs.set i z) := by simp [cz, List.map_set]
theorem cz_rep (n : Nat) : List.replicate n (Value.complex .f64 0 0) = cz (List.replicate n (0, 0)) := by simp [cz]
theorem getD_set_ne {zs : List (Nat × Nat)} {i j : Nat} (z : Nat × Nat) (h : i ≠ j) : (zs.set i z).getD j (0, 0) = zs.getD j (0, 0) := by simp [List.getD, h]
theorem getD_set_eq {zs : List (Nat × Nat)} {i : Nat} (z : Nat × Nat) (h : i < zs.length) : (zs.set i z).getD i (0, 0) = z := by simp [List.getD, h]
theorem Lim.set {zs : List (Nat × Nat)} (h : Lim zs) (i : Nat) {z : Nat × Nat} (h1 : z.1 < 18446744073709551616) (h2 : z.2 < 18446744073709551616) : Lim (zs.set i z) := by
  intro j hj
  rw [List.length_set] at hj
  by_cases c : i = j
  · subst c; rw [getD_set_eq z hj]; exact ⟨h1, h2⟩
  · rw [getD_set_ne z c]; exact h j hj
theorem Lim.rep (n : Nat) : Lim (List.replicate n (0, 0)) := by
  intro j hj
  rw [List.length_replicate] at hj
  simp [List.getD, hj]
/-- the first i of us are alike to what f tells -/
def Upl (us : List (Nat × Nat)) (f : Nat → Nat × Nat) (i : Nat) : Prop := ∀ k, k < i → Lk (us.getD k (0, 0)) (f k)
theorem Upl.step {us : List (Nat × Nat)} {f : Nat → Nat × Nat} {i : Nat} {z : Nat × Nat} (h : Upl us f i) (hi : i < us.length) (hz : Lk z (f i)) : Upl (us.set i z) f (i + 1) := by
  intro k hk
  by_cases c : i = k
  · subst c; rw [getD_set_eq z hi]; exact hz
  · rw [getD_set_ne z c]; exact h k (by omega)
/-- what a list that was made holds: n pairs, the first i told by f, in a row of its own -/
structure Row (w : World) (B g n : Nat) (f : Nat → Nat × Nat) (i : Nat) (us : List (Nat × Nat)) : Prop where
  own : w.ownsRow B 23 1 (.slice (some ⟨g, 0, none⟩) n n) n (cz us)
  len : us.length = n
  lim : Lim us
  up : Upl us f i
theorem Row.cell {w : World} {B g n : Nat} {f : Nat → Nat × Nat} {i : Nat} {us : List (Nat × Nat)} (h : Row w B g n f i us) {k : Nat} (hk : k < n) : w.cell? ⟨g, k, none⟩ = some (.complex .f64 (us.getD k (0, 0)).1 (us.getD k (0, 0)).2) := by
  have := h.own.cellAt k (by omega)
  rw [cz_get us k (by rw [h.len]; exact hk)] at this
  simpa using this
theorem Row.put {w : World} {B g n : Nat} {f : Nat → Nat × Nat} {i : Nat} {us : List (Nat × Nat)} (h : Row w B g n f i us) {a b : Nat} (ha : a < 18446744073709551616) (hb : b < 18446744073709551616) (hi : i < n) (hz : Lk (a, b) (f i)) : Row (w.setCell ⟨g, i, none⟩ (.complex .f64 a b)) B g n f (i + 1) (us.set i (a, b)) := by
  have h1 := (h.own.stored i (.complex .f64 a b)).1
  rw [cz_set us i (a, b)] at h1
  exact ⟨h1, by rw [List.length_set, h.len], h.lim.set i ha hb, h.up.step (by rw [h.len]; exact hi) hz⟩
theorem Row.keep {w w' : World} {B g n : Nat} {f : Nat → Nat × Nat} {i : Nat} {us : List (Nat × Nat)} (h : Row w B g n f i us) (hb : Below w.heap.size w w') : Row w' B g n f i us := ⟨own_blw h.own hb, h.len, h.lim, h.up⟩
theorem Row.made {w w' : World} {n : Nat} (f : Nat → Nat × Nat) (h : w'.ownsRow w.heap.size 23 1 (.slice (some ⟨w.heap.size, 0, none⟩) n n) n (List.replicate n (.complex .f64 0 0))) : Row w' w.heap.size w.heap.size n f 0 (List.replicate n (0, 0)) :=
  ⟨by rw [← cz_rep]; exact h, List.length_replicate, Lim.rep n, fun k hk => absurd hk (Nat.not_lt_zero k)⟩
theorem Row.frozen {w : World} {B g n : Nat} {f : Nat → Nat × Nat} {i : Nat} {us : List (Nat × Nat)} (h : Row w B g n f i us) (k : Nat) : w.frozen? ⟨g, k, none⟩ = false := by
  have := h.own.frozenAt k
  simpa using this
theorem Row.rd {w : World} {B g n : Nat} {f : Nat → Nat × Nat} {i : Nat} {us : List (Nat × Nat)} (h : Row w B g n f i us) : RdC w (.slice (some ⟨g, 0, none⟩) n n) us := by
  have := h.len
  subst this
  exact RdC.of_own h.own
end Go.Proofs.YtgfmimmiaalhcaaDoor
namespace Go.Proofs.YtgfmimmiaalhcaaDoor
open Flo Go.RowKit

theorem sum_k (v : Value) (zs : List (Nat × Nat)) (n k G C : Nat) (w : World) (hx : RdC w v zs) (hl : Lim zs) (hz : zs.length = n) (hk : k < n) (hn2 : n ≤ 1024) (T : Tab w G n) :
    Calls Tryd.prog 46 #[v, .int .i64 0, .int .i64 1, .int .i64 (k : Int), .slice (some ⟨G, 0, none⟩) n C] w (RZ w (dsm n k fun j => zs.getD j (0, 0))) := by
  have := sum_c v zs 0 1 n k G C w hx hl (by omega) (by omega) hk (by omega) (by omega) T
  have e : (fun j => zs.getD (0 + j * 1) (0, 0)) = fun j => zs.getD j (0, 0) := by funext j; rw [Nat.mul_one, Nat.zero_add]
  rw [e] at this
  exact this
set_option maxHeartbeats 2000000 in
theorem transform_c (v : Value) (zs : List (Nat × Nat)) (G C n : Nat) (w : World) (hx : RdC w v zs) (hl : Lim zs) (hz : zs.length = n) (hn : 0 < n) (hn2 : n ≤ 1024) (T : Tab w G n) :
    Calls Tryd.prog 39 #[v, .slice (some ⟨G, 0, none⟩) n C] w fun e w' => ∃ us, e = .returned (.slice (some ⟨w.heap.size, 0, none⟩) n n) ∧ Row w' w.heap.size w.heap.size n (fun k => dsm n k fun j => zs.getD j (0, 0)) n us ∧ Below w.heap.size w w' := by
  obtain ⟨w1, hmk, hrow, hb1⟩ := makeCx w n (by omega)
  obtain ⟨F, hF⟩ : ∃ F : Nat → Nat × Nat, Hid (F = fun k => dsm n k fun j => zs.getD j (0, 0)) := ⟨_, (rfl : _ = _)⟩
  rw [← hF.out]
  have R0 : Hid (Row w1 w.heap.size w.heap.size n F 0 (List.replicate n (0, 0))) := Row.made F hrow.out
  obtain ⟨ao, cap, rfl, h2⟩ := hx
  have hX : Hid (RdC w (.slice ao n cap) zs) := ⟨ao, cap, by rw [hz], h2⟩
  rw [hz]
  have hT : Hid (Tab w G n) := T
  have hlH : Hid (Lim zs) := hl
  have hzH : Hid (zs.length = n) := hz
  have hg3 : (0 : Int) ≤ (n : Int) := by omega
  clear h2 T hl hz hrow
  go_enter Tryd.func39, Tryd.ntmps39
  go_wp2
  clear hmk
  go_loopw [6, 12] (fun _ si wx => ∃ (i : Nat) (us : List (Nat × Nat)), i ≤ n ∧ si = .int .i64 (i : Int) ∧ Hid (Row wx w.heap.size w.heap.size n F i us) ∧ Hid (Below w.heap.size w wx)) (fun _ si _ => n - (intOf si).toNat)
  case atStart => exact ⟨0, _, Nat.zero_le _, rfl, R0, hb1⟩
  case round =>
    clear R0 hb1
    obtain ⟨i, us, hi, rfl, R, hb⟩ := hrel
    by_cases hlt : i < n
    · have hlt' : (i : Int) < (n : Int) := by omega
      go_wp2_with fail
      refine (sum_k _ zs n i G C _ (hX.out.below hb.out) hlH.out hzH.out hlt hn2 (hT.out.below hb.out)).mono ?_
      rintro e w3 ⟨x, y, d, rfl, rfl, lx, ly, lk⟩
      have R2 : Hid (Row (wr.drewN d) w.heap.size w.heap.size n F i us) := R.out.keep (below_drewN (Below.refl _ _) d)
      have B2 : Hid (Below w.heap.size w (wr.drewN d)) := below_drewN hb.out d
      have lkF : Lk (x, y) (F i) := by rw [hF.out]; exact lk
      clear R hb lk
      generalize wr.drewN d = wd at *
      have c3 := R2.out.cell hlt
      have f2 := R2.out.frozen i
      have R3 : Hid (Row (wd.setCell ⟨w.heap.size, i, none⟩ (.complex .f64 x y)) w.heap.size w.heap.size n F (i + 1) (us.set i (x, y))) := R2.out.put lx ly hlt lkF
      have B3 : Hid (Below w.heap.size w (wd.setCell ⟨w.heap.size, i, none⟩ (.complex .f64 x y))) := B2.out.setCell (p := ⟨w.heap.size, i, none⟩) (Nat.le_refl _) _
      have hsc := store_cx
      clear R2 B2 lkF
      go_wp2
      go_roundw
      case rel => exact ⟨i + 1, _, by omega, by go_num, R3, B3⟩
      case measure => simp [intOf]; omega
    · have hlt' : decide ((i : Int) < (n : Int)) = false := decide_eq_false (by omega)
      have ei : i = n := by omega
      subst ei
      go_wp2
      go_ret
      exact ⟨_, rfl, R.out, hb.out⟩
set_option maxHeartbeats 1000000 in
theorem tableOk_c (n : Nat) (w : World) (h : 0 < n) (hn : n ≤ 1024) :
    Calls Tryd.prog 38 #[.int .i64 n] w fun e w' => ∃ G, e = .returned (.tuple #[.slice (some ⟨G, 0, none⟩) n n, .nilIface]) ∧ w.heap.size ≤ G ∧ Tab w' G n ∧ Below w.heap.size w w' := by
  have hg2 : decide ((n : Int) > 1024) = false := decide_eq_false (by omega)
  have hA := allOk_c n w h (by omega)
  go_enter Tryd.func38, Tryd.ntmps38
  go_wp2_with fail
  refine hA.mono ?_
  rintro e w1 ⟨G, rfl, hG, hrow, B⟩
  have hT : Hid (Tab w1 G n) := Tab.own hrow h
  have hB : Hid (Below w.heap.size w w1) := B
  clear hA hrow B
  go_wp2_with fail
  go_ret2
  exact ⟨G, rfl, hG, hT.out, hB.out⟩
/-- the function that a list is, as far as it goes -/
def ix (zs : List (Nat × Nat)) (j : Nat) : Nat × Nat := zs.getD j (0, 0)
set_option maxHeartbeats 1000000 in
theorem forwardOk_c (v : Value) (zs : List (Nat × Nat)) (n : Nat) (w : World) (hx : RdC w v zs) (hl : Lim zs) (hz : zs.length = n) (hn : 0 < n) (hn2 : n ≤ 1024) :
    Calls Tryd.prog 26 #[v] w fun e w' => ∃ g us, e = .returned (.tuple #[.slice (some ⟨g, 0, none⟩) n n, .nilIface]) ∧ w.heap.size ≤ g ∧ Row w' g g n (fun k => dsm n k fun j => zs.getD j (0, 0)) n us ∧ Below w.heap.size w w' := by
  obtain ⟨ao, cap, rfl⟩ := hx.slice hz
  have hX : Hid (RdC w (.slice ao n cap) zs) := hx
  have hlH : Hid (Lim zs) := hl
  have hzH : Hid (zs.length = n) := hz
  clear hx hl hz
  go_enter Tryd.func26, Tryd.ntmps26
  go_wp2_with fail
  refine (tableOk_c n w hn hn2).mono ?_
  rintro e w1 ⟨G, rfl, hG, T, B⟩
  have hT : Hid (Tab w1 G n) := T
  have hB : Hid (Below w.heap.size w w1) := B
  clear T B
  go_wp2_with fail
  refine (transform_c _ zs G n n w1 (hX.out.below hB.out) hlH.out hzH.out hn hn2 hT.out).mono ?_
  rintro e w2 ⟨us, rfl, R, B2⟩
  have hR : Hid (Row w2 w1.heap.size w1.heap.size n (fun k => dsm n k fun j => zs.getD j (0, 0)) n us) := R
  have hB2 : Hid (Below w.heap.size w w2) := below_tr hB.out B2
  have hs : Hid (w.heap.size ≤ w1.heap.size) := hB.out.size
  clear R B2
  go_wp2_with fail
  go_ret2
  exact ⟨_, us, rfl, hs.out, hR.out, hB2.out⟩
end Go.Proofs.YtgfmimmiaalhcaaDoor
namespace Go.Proofs.YtgfmimmiaalhcaaDoor
open Flo Go.RowKit

end Go.Proofs.YtgfmimmiaalhcaaDoor
