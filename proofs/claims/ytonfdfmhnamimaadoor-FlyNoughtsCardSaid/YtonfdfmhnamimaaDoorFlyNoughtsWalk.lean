/-
  FlyNoughts: the whole walk.
-/
import Derived.Test.YtonfdfmhnamimaaDoorFn3
import Derived.Test.YtonfdfmhnamimaaDoorFe0
namespace Go.Proofs.YtonfdfmhnamimaaDoor
open Flo Go.RowKit Dw
theorem umod11 {a : Int} {m : Nat} (hm : 0 < m) : ∃ A : Nat, A < m ∧ (IntKind.u64.wrap a).tmod m = (A : Int) := by
  refine ⟨((IntKind.u64.wrap a).tmod m).toNat, ?_, ?_⟩
  all_goals
    rw [IntKind.wrap_u64, Int.tmod_eq_emod_of_nonneg (by omega)]
    have h1 := Int.emod_nonneg (a % 18446744073709551616) (b := (m : Int)) (by omega)
    have h2 := Int.emod_lt_of_pos (a % 18446744073709551616) (b := (m : Int)) (by omega)
    omega
/-- a row of noughts -/
structure Rn (w : World) (B g n : Nat) (us : List (Nat × Nat)) : Prop where
  own : w.ownsRow B 28 1 (.slice (some ⟨g, 0, none⟩) n n) n (cz us)
  len : us.length = n
  nz : ∀ i, i < n → Nz (us.getD i (0, 0))
theorem cz_rep11 (n : Nat) : cz (List.replicate n (0, 0)) = List.replicate n (.complex .f64 0 0) := by simp [cz]
theorem cz_set11 (us : List (Nat × Nat)) (i : Nat) (z : Nat × Nat) : (cz us).set i (.complex .f64 z.1 z.2) = cz (us.set i z) := by simp [cz]
theorem Rn.made {w w' : World} {n : Nat} (h : w'.ownsRow w.heap.size 28 1 (.slice (some ⟨w.heap.size, 0, none⟩) n n) n (List.replicate n (.complex .f64 0 0))) : Rn w' w.heap.size w.heap.size n (List.replicate n (0, 0)) :=
  ⟨by rw [cz_rep11]; exact h, List.length_replicate, fun i hi => by
    have : (List.replicate n (0, 0)).getD i (0, 0) = ((0, 0) : Nat × Nat) := by simp [List.getD, hi]
    rw [this]; exact ⟨.inl rfl, .inl rfl⟩⟩
theorem Rn.cell {w : World} {B g n : Nat} {us : List (Nat × Nat)} (h : Rn w B g n us) {k : Nat} (hk : k < n) : w.cell? ⟨g, k, none⟩ = some (.complex .f64 (us.getD k (0, 0)).1 (us.getD k (0, 0)).2) := by
  have := h.own.cellAt k (by omega)
  rw [cz_get us k (by rw [h.len]; exact hk)] at this
  simpa using this
theorem Rn.frozen {w : World} {B g n : Nat} {us : List (Nat × Nat)} (h : Rn w B g n us) (k : Nat) : w.frozen? ⟨g, k, none⟩ = false := by
  have := h.own.frozenAt k
  simpa using this
theorem Rn.put {w : World} {B g n : Nat} {us : List (Nat × Nat)} (h : Rn w B g n us) {i a b : Nat} (hn : Nz (a, b)) : Rn (w.setCell ⟨g, i, none⟩ (.complex .f64 a b)) B g n (us.set i (a, b)) := by
  have h1 := (h.own.stored i (.complex .f64 a b)).1
  rw [cz_set11 us i (a, b)] at h1
  refine ⟨h1, by rw [List.length_set, h.len], fun j hj => ?_⟩
  by_cases e : i = j
  · subst e
    have : (us.set i (a, b)).getD i (0, 0) = (a, b) := by simp [List.getD, h.len, hj]
    rw [this]; exact hn
  · have : (us.set i (a, b)).getD j (0, 0) = us.getD j (0, 0) := by simp [List.getD, e]
    rw [this]; exact h.nz j hj
theorem Rn.rd {w : World} {B g n : Nat} {us : List (Nat × Nat)} (h : Rn w B g n us) : RdC w (.slice (some ⟨g, 0, none⟩) n n) us := by
  have := h.len
  subst this
  exact RdC.of_own h.own
theorem wh40 (n : Int) : (n.tmod ((1099511627777 : Nat) : Int)).natAbs ≤ 1099511627776 := by
  have h1 := Int.lt_tmod_of_pos n (b := ((1099511627777 : Nat) : Int)) (by decide)
  have h2 := Int.tmod_lt_of_pos n (b := ((1099511627777 : Nat) : Int)) (by decide)
  omega
theorem nb2 {z : Int} (h : z.natAbs ≤ 1099511627776) : (z * 2).natAbs ≤ 9007199254740992 := by omega
theorem nb4 {z : Int} (h : z.natAbs ≤ 1099511627776) : (z * 4).natAbs ≤ 9007199254740992 := by omega
theorem W_2 : Ari.W 4611686018427387904 2 := Ari.W_int (n := 2) (by decide)
theorem W_4 : Ari.W 4616189618054758400 4 := Ari.W_int (n := 4) (by decide)
theorem feq {x y : Nat} {a : Int} (hx : Ari.W x a) (hy : Ari.W y a) : Op.floatEq .f64 x y = true := by
  unfold Op.floatEq
  rw [show FloatKind.f64.format.order x y = some .eq from W_ord hx hy]; rfl
set_option maxRecDepth 100000 in
set_option maxHeartbeats 4000000 in
theorem flyNoughts.walk (ao : Option Addr) (L cap : Nat) (r re im : Int) (w : World) (hs : Hid (∀ i, i < L → ∃ b off s, ao = some ⟨b, off, none⟩ ∧ b < w.heap.size ∧ w.cell? ⟨b, off + i, none⟩ = some (.bool s))) :
    Calls Tryd.prog 3 #[.slice ao L cap, .int .i64 r, .int .i64 re, .int .i64 im] w fun e w' => e = .returned (.bool true) ∧ Below w.heap.size w w' := by
  have h3 := store_cx
  obtain ⟨A, hA, hAe0⟩ := umod11 (a := r) (m := 4) (by decide)
  have hAe : (IntKind.u64.wrap r).tmod 4 = (A : Int) := hAe0
  clear hAe0
  obtain ⟨n, hn, hn1⟩ : ∃ n : Nat, Hid (n = A + 2) ∧ 2 + (A : Int) = (n : Int) := ⟨A + 2, (rfl : _ = _), by omega⟩
  have hn2 : 2 ≤ n := by have := hn.out; omega
  have hn5 : n ≤ 5 := by have := hn.out; omega
  go_enter Tryd.func3, Tryd.ntmps3
  go_wp2_with fail
  refine (fixed11_c w).mono ?_
  rintro e w1 ⟨rfl, B1⟩
  have hB1 : Hid (Below w.heap.size w w1) := B1
  clear B1
  obtain ⟨w2, hmk, hrow, hb2⟩ := makeCx w1 n (by omega)
  have R0 : Hid (Rn w2 w1.heap.size w1.heap.size n (List.replicate n (0, 0))) := Rn.made hrow.out
  have hg0 : (0 : Int) ≤ (n : Int) := by omega
  clear hrow
  go_wp2_with fail
  clear hmk
  obtain ⟨g, hg⟩ : ∃ g, Hid (w1.heap.size = g) := ⟨_, (rfl : _ = _)⟩
  have hbase : Hid (w.heap.size ≤ g) := by show _ ≤ _; rw [← hg.out]; exact hB1.out.size
  have hsw : Hid (∀ W, Below g w1 W → ∀ i, i < L → ∃ b off s, ao = some ⟨b, off, none⟩ ∧ W.cell? ⟨b, off + i, none⟩ = some (.bool s)) := fun W hW i hi => by
    obtain ⟨b, off, s, e1, e2, e3⟩ := hs.out i hi
    refine ⟨b, off, s, e1, ?_⟩
    rw [hW.cell (p := ⟨b, off + i, none⟩) (by show b < g; rw [← hg.out]; exact Nat.lt_of_lt_of_le e2 hB1.out.size), hB1.out.cell (p := ⟨b, off + i, none⟩) e2]
    exact e3
  rw [hg.out] at R0 hb2 ⊢
  clear hs
  go_loopw [30] (fun si wx => ∃ (i : Nat) (us : List (Nat × Nat)), i ≤ n ∧ si = .int .i64 (i : Int) ∧ Hid (Rn wx g g n us) ∧ Hid (Below g w1 wx)) (fun si _ => n - (intOf si).toNat)
  case atStart => exact ⟨0, _, Nat.zero_le _, rfl, R0, hb2⟩
  case round =>
    clear R0 hb2
    obtain ⟨i, us, hi, rfl, R, hb⟩ := hrel
    by_cases hlt : i < n
    · have hlt' : (i : Int) < (n : Int) := by omega
      obtain ⟨D, hD, hD1⟩ : ∃ D : Nat, Hid (D = 2 * i) ∧ 2 * (i : Int) = (D : Int) := ⟨2 * i, (rfl : _ = _), by omega⟩
      obtain ⟨D', hD', hD1'⟩ : ∃ D' : Nat, Hid (D' = D + 1) ∧ (D : Int) + 1 = (D' : Int) := ⟨D + 1, (rfl : _ = _), by omega⟩
      have hD8 : D ≤ 8 := by have := hD.out; omega
      have hW0 : IntKind.i64.wrap (D : Int) = (D : Int) := by rw [IntKind.wrap_i64]; omega
      have hW1 : IntKind.i64.wrap (D' : Int) = (D' : Int) := by have := hD'.out; rw [IntKind.wrap_i64]; omega
      go_upto_region 9 with fail
      go_cut [44] (fun st wx => (∃ t : Bool, st = .bool t) ∧ Hid (wx = wr))
      case first =>
        by_cases hDL : D < L
        · have hDL' : (D : Int) < (L : Int) := by omega
          obtain ⟨b, off, t, rfl, c1⟩ := hsw.out wr hb.out D hDL
          go_wp2_with fail
          go_meet
          exact ⟨⟨_, rfl⟩, (rfl : wr = wr)⟩
        · have hDL' : decide ((D : Int) < (L : Int)) = false := decide_eq_false (by omega)
          go_wp2_with fail
          go_meet
          exact ⟨⟨_, rfl⟩, (rfl : wr = wr)⟩
      case rest =>
        obtain ⟨⟨t, rfl⟩, hw⟩ := hcut
        have ew := hw.out
        subst ew
        clear hw
        rename World => v1
        go_upto_if 44 with fail
        go_cut [12] (fun st wx => (∃ a : Nat, st = .float .f64 a ∧ Hid (a = 0 ∨ a = 9223372036854775808)) ∧ Hid (wx = v1))
        case first =>
          cases t
          · go_wp2_with fail
            go_meet
            exact ⟨⟨0, rfl, .inl rfl⟩, (rfl : v1 = v1)⟩
          · go_wp2_with fail
            refine (copysign_c _).mono ?_
            rintro e w3 ⟨rfl, rfl⟩
            go_wp2_with fail
            go_meet
            exact ⟨⟨_, rfl, .inr rfl⟩, (rfl : v1 = v1)⟩
        case rest =>
          obtain ⟨⟨a, rfl, ha⟩, hw⟩ := hcut
          have ew := hw.out
          subst ew
          rename World => v2
          clear hw
          go_upto_region 11 with fail
          go_cut [59] (fun st wx => (∃ t : Bool, st = .bool t) ∧ Hid (wx = v2))
          case first =>
            by_cases hDL : D' < L
            · have hDL' : (D' : Int) < (L : Int) := by omega
              obtain ⟨b, off, t, rfl, c1⟩ := hsw.out v2 hb.out D' hDL
              go_wp2_with fail
              go_meet
              exact ⟨⟨_, rfl⟩, (rfl : v2 = v2)⟩
            · have hDL' : decide ((D' : Int) < (L : Int)) = false := decide_eq_false (by omega)
              go_wp2_with fail
              go_meet
              exact ⟨⟨_, rfl⟩, (rfl : v2 = v2)⟩
          case rest =>
            obtain ⟨⟨t', rfl⟩, hw⟩ := hcut
            have ew := hw.out
            subst ew
            rename World => v3
            clear hw
            go_upto_if 59 with fail
            go_cut [13] (fun st wx => (∃ a : Nat, st = .float .f64 a ∧ Hid (a = 0 ∨ a = 9223372036854775808)) ∧ Hid (wx = v3))
            case first =>
              cases t'
              · go_wp2_with fail
                go_meet
                exact ⟨⟨0, rfl, .inl rfl⟩, (rfl : v3 = v3)⟩
              · go_wp2_with fail
                refine (copysign_c _).mono ?_
                rintro e w3 ⟨rfl, rfl⟩
                go_wp2_with fail
                go_meet
                exact ⟨⟨_, rfl, .inr rfl⟩, (rfl : v3 = v3)⟩
            case rest =>
              obtain ⟨⟨b, rfl, hb'⟩, hw⟩ := hcut
              have ew := hw.out
              subst ew
              rename World => v4
              clear hw
              have c1 := R.out.cell hlt
              have f1 := R.out.frozen i
              have R2 : Hid (Rn (v4.setCell ⟨g, i, none⟩ (.complex .f64 a b)) g g n (us.set i (a, b))) := R.out.put ⟨ha.out, hb'.out⟩
              have B2 : Hid (Below g w1 (v4.setCell ⟨g, i, none⟩ (.complex .f64 a b))) := hb.out.setCell (p := ⟨g, i, none⟩) (Nat.le_refl _) _
              clear R hb
              go_wp2_with fail
              go_roundw
              case rel => exact ⟨i + 1, _, by omega, by go_num, R2, B2⟩
              case measure => simp [intOf]; omega
    · have hlt' : decide ((i : Int) < (n : Int)) = false := decide_eq_false (by omega)
      rename World => wx
      clear hsw
      have hBx : Hid (Below w.heap.size w wx) := hB1.out.trans (hb.out.mono hbase.out)
      go_wp2_with fail
      refine (fly_z _ us n wx R.out.rd R.out.len hn2 hn5 R.out.nz).mono ?_
      rintro e w3 ⟨gy, ys, rfl, hyl, hyn, hyr, B3⟩
      have hB3 : Hid (Below w.heap.size w w3) := blw_tr hBx.out B3
      have hylH : Hid (ys.length = n) := hyl
      have hynH : Hid (∀ i, i < n → Nz (ys.getD i (0, 0))) := hyn
      have hyrH : Hid (RdC w3 (.slice (some ⟨gy, 0, none⟩) n n) ys) := hyr
      clear hyl hyn hyr B3 R hb
      obtain ⟨w4, hmk, hrow, hb4⟩ := makeCx w3 n (by omega)
      have R4 : Hid (Rn w4 w3.heap.size w3.heap.size n (List.replicate n (0, 0))) := Rn.made hrow.out
      have hz4 : Hid (∀ i, i < n → w4.cell? ⟨w3.heap.size, i, none⟩ = some (.complex .f64 0 0)) := fun i hi => by
        have := R4.out.cell hi
        have e : (List.replicate n (0, 0)).getD i (0, 0) = ((0, 0) : Nat × Nat) := by simp [List.getD, hi]
        rw [e] at this; exact this
      have hyr4 : Hid (RdC w4 (.slice (some ⟨gy, 0, none⟩) n n) ys) := hyrH.out.below hb4.out
      have hB4 : Hid (Below w.heap.size w w4) := blw_tr hB3.out hb4.out
      clear hrow hb4 R4 hyrH hB3 hBx hB1
      go_wp2_with fail
      refine (equal_z gy w3.heap.size n ys w4 hyr4 hylH hynH hn5 hz4).mono ?_
      rintro e w5 ⟨rfl, d, hw5⟩
      have hB5 : Hid (Below w.heap.size w w5) := by show Below _ _ _; rw [hw5]; exact below_drewN hB4.out d
      clear hw5 hyr4 hylH hynH hz4 hB4 hmk
      clear hlt hlt' hi hbase hg hn1 hAe hA hn hg0
      obtain ⟨zr, hzr⟩ : ∃ z, Hid (z = re.tmod ((1099511627777 : Nat) : Int)) := ⟨_, (rfl : _ = _)⟩
      obtain ⟨zi, hzi⟩ : ∃ z, Hid (z = im.tmod ((1099511627777 : Nat) : Int)) := ⟨_, (rfl : _ = _)⟩
      have bzr : Hid (zr.natAbs ≤ 1099511627776) := by show _ ≤ _; rw [hzr.out]; exact wh40 re
      have bzi : Hid (zi.natAbs ≤ 1099511627776) := by show _ ≤ _; rw [hzi.out]; exact wh40 im
      go_wp2_with fail
      refine (whole_c re 1099511627776 1099511627777 rfl (by decide) (by decide) w5).mono ?_
      rintro e w6 ⟨rfl, rfl⟩
      rw [← hzr.out]
      go_wp2_with fail
      refine (whole_c im 1099511627776 1099511627777 rfl (by decide) (by decide) w5).mono ?_
      rintro e w6 ⟨rfl, rfl⟩
      rw [← hzi.out]
      clear hzr hzi
      obtain ⟨a1, ha1⟩ : ∃ a, Hid (floatOfInt .f64 zr = a) := ⟨_, (rfl : _ = _)⟩
      obtain ⟨a2, ha2⟩ : ∃ a, Hid (floatOfInt .f64 zi = a) := ⟨_, (rfl : _ = _)⟩
      have hV : Hid (WP (a1, a2) (zr, zi)) := ⟨by rw [← ha1.out]; exact flW (Nat.le_trans bzr.out (by decide)), by rw [← ha2.out]; exact flW (Nat.le_trans bzi.out (by decide))⟩
      go_upto_region 19 with fail
      rw [ha1.out, ha2.out]
      clear ha1 ha2
      go_wp2_with fail
      refine (flyTwo_c _ _ _ _ w5).mono ?_
      rintro e w6 ⟨⟨x1, x2⟩, ⟨y1, y2⟩, rfl, l0, l1, B6⟩
      have hX : Hid (WP (x1, x2) (zr + zr, zi + zi)) := WP_eq l0.2.2 (adc_W hV.out hV.out (nbA (by decide) bzr.out bzr.out) (nbA (by decide) bzi.out bzi.out))
      have hY : Hid (WP (y1, y2) (zr - zr, zi - zi)) := WP_eq l1.2.2 (sbc_W hV.out hV.out (nbS (by decide) bzr.out bzr.out) (nbS (by decide) bzi.out bzi.out))
      have hB6 : Hid (Below w.heap.size w w6) := blw_tr hB5.out B6
      clear l0 l1 B6 hB5
      unfold cxv
      go_upto_region 20 with fail
      obtain ⟨wt, hwt⟩ : ∃ wt, Hid (w6.alloc (.cells #[.complex .f64 x1 x2, .complex .f64 y1 y2] 35) = wt) := ⟨_, (rfl : _ = _)⟩
      have hBt : Hid (Below w.heap.size w wt) := by show Below _ _ _; rw [← hwt.out]; exact hB6.out.alloc hB6.out.size _
      have rt : Hid (wt.heap[w6.heap.size]? = some (.cells #[.complex .f64 x1 x2, .complex .f64 y1 y2] 35 (0, 0))) := by show _ = _; rw [← hwt.out]; exact heap_alloc_new _ _
      obtain ⟨gt, hgt⟩ : ∃ g, Hid (w6.heap.size = g) := ⟨_, (rfl : _ = _)⟩
      rw [hwt.out]
      rw [hgt.out] at rt ⊢
      clear hwt hgt hB6
      go_wp2_with fail
      refine (flyFour_c _ _ _ _ _ _ _ _ wt).mono ?_
      rintro e w7 ⟨⟨p1, p2⟩, ⟨q1, q2⟩, ⟨s1, s2⟩, ⟨t1, t2⟩, rfl, l0, l1, l2, l3, B7⟩
      have hFs : ∀ j : Nat, Sml ((fun _ : Nat => ((zr, zi) : Int × Int)) j) 1125899906842624 := fun _ => ⟨Nat.le_trans bzr.out (by decide), Nat.le_trans bzi.out (by decide)⟩
      have hf : ∀ k, k < 4 → WP (f4 (a1, a2) (a1, a2) (a1, a2) (a1, a2) k) (ts 4 k fun _ => (zr, zi)) := fun k hk => f4_W (F := fun _ => (zr, zi)) hV.out hV.out hV.out hV.out hFs hk
      have hP : Hid (WP (p1, p2) (ts 4 0 fun _ => (zr, zi))) := WP_eq l0.2.2 (hf 0 (by decide))
      have hQ : Hid (WP (q1, q2) (ts 4 1 fun _ => (zr, zi))) := WP_eq l1.2.2 (hf 1 (by decide))
      have hS : Hid (WP (s1, s2) (ts 4 2 fun _ => (zr, zi))) := WP_eq l2.2.2 (hf 2 (by decide))
      have hT : Hid (WP (t1, t2) (ts 4 3 fun _ => (zr, zi))) := WP_eq l3.2.2 (hf 3 (by decide))
      rw [ts40] at hP
      rw [ts41] at hQ
      rw [ts42] at hS
      rw [ts43] at hT
      have hB7 : Hid (Below w.heap.size w w7) := blw_tr hBt.out B7
      have rt7 : Hid (w7.heap[gt]? = some (.cells #[.complex .f64 x1 x2, .complex .f64 y1 y2] 35 (0, 0))) := (B7.block _ (heap_lt rt.out)).trans rt.out
      clear l0 l1 l2 l3 B7 hf hFs rt hBt
      unfold cxv
      go_upto_region 21 with fail
      obtain ⟨wf, hwf⟩ : ∃ wf, Hid (w7.alloc (.cells #[.complex .f64 p1 p2, .complex .f64 q1 q2, .complex .f64 s1 s2, .complex .f64 t1 t2] 37) = wf) := ⟨_, (rfl : _ = _)⟩
      have hBf : Hid (Below w.heap.size w wf) := by show Below _ _ _; rw [← hwf.out]; exact hB7.out.alloc hB7.out.size _
      have rf : Hid (wf.heap[w7.heap.size]? = some (.cells #[.complex .f64 p1 p2, .complex .f64 q1 q2, .complex .f64 s1 s2, .complex .f64 t1 t2] 37 (0, 0))) := by show _ = _; rw [← hwf.out]; exact heap_alloc_new _ _
      have rg : Hid (wf.heap[gt]? = some (.cells #[.complex .f64 x1 x2, .complex .f64 y1 y2] 35 (0, 0))) := by show _ = _; rw [← hwf.out, Below.heap_alloc _ _ _ (heap_lt rt7.out)]; exact rt7.out
      obtain ⟨gf, hgf⟩ : ∃ g, Hid (w7.heap.size = g) := ⟨_, (rfl : _ = _)⟩
      rw [hwf.out]
      rw [hgf.out] at rf ⊢
      clear hwf hgf hB7 rt7
      have c0 : wf.cell? ⟨gt, 0, none⟩ = some (.complex .f64 x1 x2) := cell_of_row _ _ _ _ _ _ rg.out
      have c1 : wf.cell? ⟨gt, 1, none⟩ = some (.complex .f64 y1 y2) := cell_of_row _ _ _ _ _ _ rg.out
      have d0 : wf.cell? ⟨gf, 0, none⟩ = some (.complex .f64 p1 p2) := cell_of_row _ _ _ _ _ _ rf.out
      have d1 : wf.cell? ⟨gf, 1, none⟩ = some (.complex .f64 q1 q2) := cell_of_row _ _ _ _ _ _ rf.out
      have d2 : wf.cell? ⟨gf, 2, none⟩ = some (.complex .f64 s1 s2) := cell_of_row _ _ _ _ _ _ rf.out
      have d3 : wf.cell? ⟨gf, 3, none⟩ = some (.complex .f64 t1 t2) := cell_of_row _ _ _ _ _ _ rf.out
      obtain ⟨m1, m2, hM, hMv⟩ : ∃ m1 m2, Hid (Ct 4611686018427387904 (a1, a2) (m1, m2)) ∧ Hid (WP (m1, m2) (zr * 2, zi * 2)) := by
        have k1 := coM hV.out.1 W_2 (nb2 bzr.out)
        have k2 := coM hV.out.2 W_2 (nb2 bzi.out)
        exact ⟨_, _, ⟨rfl, rfl, Ari.nan_fin k1.1, Ari.nan_fin k2.1⟩, ⟨k1, k2⟩⟩
      obtain ⟨m3, m4, hN, hNv⟩ : ∃ m1 m2, Hid (Ct 4616189618054758400 (a1, a2) (m1, m2)) ∧ Hid (WP (m1, m2) (zr * 4, zi * 4)) := by
        have k1 := coM hV.out.1 W_4 (nb4 bzr.out)
        have k2 := coM hV.out.2 W_4 (nb4 bzi.out)
        exact ⟨_, _, ⟨rfl, rfl, Ari.nan_fin k1.1, Ari.nan_fin k2.1⟩, ⟨k1, k2⟩⟩
      have hX' : WP (x1, x2) (zr * 2, zi * 2) := by have h := hX.out; rw [show zr + zr = zr * 2 by omega, show zi + zi = zi * 2 by omega] at h; exact h
      have hY' : WP (y1, y2) (0, 0) := by have h := hY.out; rw [Int.sub_self, Int.sub_self] at h; exact h
      have hP' : WP (p1, p2) (zr * 4, zi * 4) := by have h := hP.out; rw [show zr + zr + (zr + zr) = zr * 4 by omega, show zi + zi + (zi + zi) = zi * 4 by omega] at h; exact h
      have hQ' : WP (q1, q2) (0, 0) := by have h := hQ.out; rw [show zr - zr + (zi - zi) = 0 by omega, show zi - zi + -(zr - zr) = 0 by omega] at h; exact h
      have hS' : WP (s1, s2) (0, 0) := by have h := hS.out; rw [show zr + zr - (zr + zr) = 0 by omega, show zi + zi - (zi + zi) = 0 by omega] at h; exact h
      have hT' : WP (t1, t2) (0, 0) := by have h := hT.out; rw [show zr - zr + -(zi - zi) = 0 by omega, show zi - zi + (zr - zr) = 0 by omega] at h; exact h
      have e2 := run_eqA2 x1 x2 y1 y2 m1 m2 0 0 (feq hX'.1 hMv.out.1) (feq hX'.2 hMv.out.2) (feq hY'.1 W_0) (feq hY'.2 W_0)
      have e4 := run_eqA4 p1 p2 q1 q2 m3 m4 0 0 s1 s2 t1 t2 0 0 0 0 (feq hP'.1 hNv.out.1) (feq hP'.2 hNv.out.2) (feq hQ'.1 W_0) (feq hQ'.2 W_0) (feq hS'.1 W_0) (feq hS'.2 W_0) (feq hT'.1 W_0) (feq hT'.2 W_0)
      clear hX hY hP hQ hS hT hX' hY' hP' hQ' hS' hT' hMv hNv rf rg hV bzr bzi
      go_quiet (first | (go_at_call_of 11 (Value.float FloatKind.f64 4611686018427387904); exact (r2Times_f hM.out _).mono (by rintro _ _ ⟨rfl, rfl⟩; exact ⟨rfl, _, rfl⟩)) | (go_at_call_of 11 (Value.float FloatKind.f64 4616189618054758400); exact (r2Times_f hN.out _).mono (by rintro _ _ ⟨rfl, rfl⟩; exact ⟨rfl, _, rfl⟩)))
      go_wp2_with fail
      go_ret
      exact ⟨rfl, below_drewN hBf.out _⟩
end Go.Proofs.YtonfdfmhnamimaaDoor
