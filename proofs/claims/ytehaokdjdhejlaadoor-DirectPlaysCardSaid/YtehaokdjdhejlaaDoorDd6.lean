/-
  The document's layer 10: Inverse, Slide.
-/
import Derived.Test.YtehaokdjdhejlaaDoorDd5
namespace Go.Proofs.YtehaokdjdhejlaaDoor
open Flo Go.RowKit
theorem Gro.slice {w : World} {B i : Nat} {v : Value} {F : Nat → Nat × Nat} {us : List (Nat × Nat)} (h : Gro w B i v F us) (hi : 0 < i) : ∃ g cap, v = .slice (some ⟨g, 0, none⟩) i cap ∧ B ≤ g ∧ g < w.heap.size := by
  rcases h.own.2 with ⟨_, h0⟩ | ⟨g, c, cu, e, h1, h2, _⟩
  · omega
  · exact ⟨g, c, e, h1, (Array.getElem?_eq_some_iff.1 h2).1⟩
theorem Gro.cell {w : World} {B i g cap : Nat} {F : Nat → Nat × Nat} {us : List (Nat × Nat)} (h : Gro w B i (.slice (some ⟨g, 0, none⟩) i cap) F us) {k : Nat} (hk : k < i) : w.cell? ⟨g, k, none⟩ = some (.complex .f64 (us.getD k (0, 0)).1 (us.getD k (0, 0)).2) := by
  have := h.own.cellAt k (by omega)
  rw [cz_get us k (by rw [h.len]; exact hk)] at this
  simpa using this
theorem Gro.frozen {w : World} {B i g cap : Nat} {F : Nat → Nat × Nat} {us : List (Nat × Nat)} (h : Gro w B i (.slice (some ⟨g, 0, none⟩) i cap) F us) (k : Nat) : w.frozen? ⟨g, k, none⟩ = false := by
  have := h.own.frozenAt k
  simpa using this
/-- the first i told by F, the rest as it was -/
structure Gru (w : World) (B n g cap i : Nat) (F : Nat → Nat × Nat) (us vs : List (Nat × Nat)) : Prop where
  own : w.ownsRow B 37 1 (.slice (some ⟨g, 0, none⟩) n cap) n (cz us)
  len : us.length = n
  lim : Lim us
  up : Upl us F i
  rest : ∀ k, i ≤ k → us.getD k (0, 0) = vs.getD k (0, 0)
theorem Gru.put {w : World} {B n g cap i : Nat} {F : Nat → Nat × Nat} {us vs : List (Nat × Nat)} (h : Gru w B n g cap i F us vs) (hi : i < n) {a b : Nat} (ha : a < 18446744073709551616) (hb : b < 18446744073709551616) (hz : Lk (a, b) (F i)) : Gru (w.setCell ⟨g, i, none⟩ (.complex .f64 a b)) B n g cap (i + 1) F (us.set i (a, b)) vs := by
  have h1 := (h.own.stored i (.complex .f64 a b)).1
  rw [cz_set us i (a, b)] at h1
  exact ⟨h1, by rw [List.length_set, h.len], h.lim.set i ha hb, h.up.step (by rw [h.len]; exact hi) hz, fun k hk => by rw [getD_set_ne _ (by omega)]; exact h.rest k (by omega)⟩
theorem Gru.drewN {w : World} {B n g cap i : Nat} {F : Nat → Nat × Nat} {us vs : List (Nat × Nat)} (h : Gru w B n g cap i F us vs) (D : Nat) : Gru (w.drewN D) B n g cap i F us vs := ⟨h.own, h.len, h.lim, h.up, h.rest⟩
theorem Gru.gro {w : World} {B n g cap i : Nat} {F : Nat → Nat × Nat} {us vs : List (Nat × Nat)} (h : Gru w B n g cap i F us vs) : Gro w B n (.slice (some ⟨g, 0, none⟩) n cap) (fun k => us.getD k (0, 0)) us := ⟨h.own, h.len, h.lim, fun _ _ => Lk.refl _⟩
set_option maxHeartbeats 1000000 in
theorem ivNo_c (v : Value) (zs : List (Nat × Nat)) (n : Nat) (w : World) (hx : RdC w v zs) (hl : Lim zs) (hz : zs.length = n) (hn2 : n ≤ 8796093022000) (h : n < 1 ∨ 1024 < n) :
    Calls Tryd.prog 18 #[v] w fun e w' => e = .returned (.tuple #[.slice none 0 0, .int .i64 7]) ∧ Below w.heap.size w w' := by
  have hc := cj10_c v zs n w hx hl hz hn2
  have hf := fun ao cap w => fwNo_c ao n cap w h
  clear hx hl hz h
  go_enter Tryd.func18, Tryd.ntmps18
  go_wp2_with fail
  refine hc.mono ?_
  rintro e w1 ⟨v1, us, rfl, R1, B1⟩
  have hB1 : Hid (Below w.heap.size w w1) := B1
  obtain ⟨a1, c1, rfl⟩ := R1.rd.slice R1.len
  clear R1 B1 hc
  go_wp2_with fail
  refine (hf a1 c1 w1).mono ?_
  rintro e w2 ⟨rfl, rfl⟩
  go_wp2_with fail
  go_ret2
  exact ⟨rfl, hB1.out⟩
set_option maxHeartbeats 2000000 in
theorem ivOk_c (v : Value) (zs : List (Nat × Nat)) (n : Nat) (w : World) (hx : RdC w v zs) (hl : Lim zs) (hz : zs.length = n) (hn : 0 < n) (hn2 : n ≤ 1024) :
    Calls Tryd.prog 18 #[v] w fun e w' => ∃ v' us, e = .returned (.tuple #[v', .int .i64 0]) ∧ Gro w' w.heap.size n v' (fun k => ivk n k fun j => zs.getD j (0, 0)) us ∧ Below w.heap.size w w' := by
  obtain ⟨H, hH⟩ : ∃ H : Nat → Nat × Nat, Hid (H = fun k => ivk n k fun j => zs.getD j (0, 0)) := ⟨_, (rfl : _ = _)⟩
  rw [← hH.out]
  have hc := cj10_c v zs n w hx hl hz (by omega)
  have hl0 : Hid ((zs.getD 0 (0, 0)).1 < 18446744073709551616 ∧ (zs.getD 0 (0, 0)).2 < 18446744073709551616) := hl 0 (by omega)
  clear hx hl hz
  go_enter Tryd.func18, Tryd.ntmps18
  go_wp2_with fail
  refine hc.mono ?_
  rintro e w1 ⟨v1, us1, rfl, R1, B1⟩
  have hR1 : Hid (Gro w1 w.heap.size n v1 (fun k => cjp (zs.getD k (0, 0))) us1) := R1
  have hB1 : Hid (Below w.heap.size w w1) := B1
  clear R1 B1 hc
  go_wp2_with fail
  refine (fwOk_c v1 us1 n w1 hR1.out.rd hR1.out.lim hR1.out.len hn hn2).mono ?_
  rintro e w2 ⟨v2, us2, rfl, R2, B2⟩
  have hR2 : Hid (Gro w2 w1.heap.size n v2 (fun k => dsm n k fun j => us1.getD j (0, 0)) us2) := R2
  have hB2 : Hid (Below w.heap.size w w2) := below_tr hB1.out B2
  clear R2 B2
  go_wp2_with fail
  refine (cj10_c v2 us2 n w2 hR2.out.rd hR2.out.lim hR2.out.len (by omega)).mono ?_
  rintro e w3 ⟨v3, us3, rfl, R3, B3⟩
  have hR3 : Hid (Gro w3 w2.heap.size n v3 (fun k => cjp (us2.getD k (0, 0))) us3) := R3
  have hB3 : Hid (Below w.heap.size w w3) := below_tr hB2.out B3
  have hs2 : Hid (w.heap.size ≤ w2.heap.size) := hB2.out.size
  obtain ⟨g, cap, rfl, hg1, hg2⟩ := R3.slice hn
  clear R3 B3
  have lkH : Hid (∀ k, k < n → Lk (ovp n (us3.getD k (0, 0))) (H k)) := by
    show ∀ k, k < n → _
    intro k hk
    rw [hH.out]
    refine Lk.of_eq (Lk.ovp n ?_)
    have h1 := hR3.out.up k hk
    have h2 := hR2.out.up k hk
    have h3 : Lk (dsm n k fun j => us1.getD j (0, 0)) (dsm n k fun j => cjp (zs.getD j (0, 0))) := dsm_lk hn fun j hj => hR1.out.up j hj
    exact h1.trans ((h2.trans h3).cjp (hR2.out.lim k (by rw [hR2.out.len]; exact hk)).2 (dst_lt ⟨hl0.out.1, Ari.ng_lt hl0.out.2⟩ _).2)
  have G0 : Hid (Gru w3 w2.heap.size n g cap 0 H us3 us3) := ⟨hR3.out.own, hR3.out.len, hR3.out.lim, fun k hk => absurd hk (Nat.not_lt_zero k), fun _ _ => rfl⟩
  clear hR1 hR2 hR3
  have hq := @run_fquo Tryd.prog
  go_wp2_with fail
  go_loopw [7, 8, 25] (fun _ _ si wx => ∃ (i : Nat) (us : List (Nat × Nat)), i ≤ n ∧ si = .int .i64 (i : Int) ∧ Hid (Gru wx w2.heap.size n g cap i H us us3) ∧ Hid (Below w.heap.size w wx)) (fun _ _ si _ => n - (intOf si).toNat)
  case atStart => exact ⟨0, us3, Nat.zero_le _, rfl, G0, hB3⟩
  case round =>
    clear G0 hB3
    obtain ⟨i, us, hin, rfl, G, hb⟩ := hrel
    by_cases hlt : i < n
    · have hlt' : (i : Int) < (n : Int) := by omega
      have c3 := G.out.gro.cell hlt
      have c3' : ∀ D, (wr.drewN D).cell? ⟨g, i, none⟩ = some (.complex .f64 (us.getD i (0, 0)).1 (us.getD i (0, 0)).2) := fun _ => G.out.gro.cell hlt
      have f3' : ∀ D, (wr.drewN D).frozen? ⟨g, i, none⟩ = false := fun _ => G.out.gro.frozen i
      have f3 := G.out.gro.frozen i
      have hlk := lkH.out i hlt
      rw [← G.out.rest i (Nat.le_refl _)] at hlk
      have P3 : Hid (∀ D x y, x < 18446744073709551616 → y < 18446744073709551616 → Lk (x, y) (H i) → Gru ((wr.drewN D).setCell ⟨g, i, none⟩ (.complex .f64 x y)) w2.heap.size n g cap (i + 1) H (us.set i (x, y)) us3) := fun D x y lx ly lk => (G.out.drewN D).put hlt lx ly lk
      have B3 : Hid (∀ D x y, Below w.heap.size w ((wr.drewN D).setCell ⟨g, i, none⟩ (.complex .f64 x y))) := fun D x y => (below_drewN hb.out D).setCell (p := ⟨g, i, none⟩) (Nat.le_trans hs2.out hg1) _
      unfold ovp intF at hlk
      have hlkH : Hid (Lk (co .quo (us.getD i (0, 0)).1 (floatOfInt .f64 (n : Int)), co .quo (us.getD i (0, 0)).2 (floatOfInt .f64 (n : Int))) (H i)) := hlk
      generalize (us.getD i (0, 0)).1 = a at *
      generalize (us.getD i (0, 0)).2 = c at *
      generalize floatOfInt FloatKind.f64 (n : Int) = fn at *
      have hsc := store_cx
      clear hlk G hb
      go_wp2_with fail
      go_roundw
      case rel => exact ⟨i + 1, _, by omega, by go_num, P3.out _ _ _ (fr_lt ..) (fr_lt ..) (Lk.trans ⟨by rw [bt_fr]; exact (bt_co ..).symm, by rw [bt_fr]; exact (bt_co ..).symm⟩ hlkH.out), B3.out _ _ _⟩
      case measure => simp [intOf]; omega
    · have hlt' : decide ((i : Int) < (n : Int)) = false := decide_eq_false (by omega)
      have ei : i = n := by omega
      subst ei
      have hE : Hid (Gro wr w.heap.size i (.slice (some ⟨g, 0, none⟩) i cap) H us) := ⟨own_base G.out.own hs2.out, G.out.len, G.out.lim, G.out.up⟩
      clear hq
      go_wp2_with fail
      go_ret2
      exact ⟨_, us, rfl, hE.out, hb.out⟩
theorem slNo_c (ao : Option Addr) (n cap g1 g2 v1 v2 : Nat) (w : World) (h : n < 1 ∨ 1024 < n) :
    Calls Tryd.prog 20 #[.slice ao n cap, .complex .f64 g1 g2, .complex .f64 v1 v2] w fun e w' => e = .returned (.tuple #[.slice none 0 0, .int .i64 7]) ∧ w' = w := by
  by_cases h1 : n < 1
  · have e : n = 0 := by omega
    subst e
    go_enter Tryd.func20, Tryd.ntmps20
    go_wp2
    go_ret2
    exact ⟨rfl, rfl⟩
  · have h1' : decide ((n : Int) < 1) = false := decide_eq_false (by omega)
    have h2 : (n : Int) > 1024 := by omega
    clear h
    go_enter Tryd.func20, Tryd.ntmps20
    go_wp2
    go_ret2
    exact ⟨rfl, rfl⟩
set_option maxHeartbeats 2000000 in
theorem slOk_c (v : Value) (g1 g2 v1 v2 : Nat) (zs : List (Nat × Nat)) (n : Nat) (w : World) (hx : RdC w v zs) (hz : zs.length = n) (hn : 0 < n) (hn2 : n ≤ 1024) :
    Calls Tryd.prog 20 #[v, .complex .f64 g1 g2, .complex .f64 v1 v2] w fun e w' => ∃ v' us, e = .returned (.tuple #[v', .int .i64 0]) ∧ Gro w' w.heap.size n v' (sld n (g1, g2) (v1, v2) fun j => zs.getD j (0, 0)) us ∧ Below w.heap.size w w' := by
  obtain ⟨F, hF⟩ : ∃ F : Nat → Nat × Nat, Hid (F = sld n (g1, g2) (v1, v2) fun j => zs.getD j (0, 0)) := ⟨_, (rfl : _ = _)⟩
  rw [← hF.out]
  obtain ⟨ao, cap, rfl⟩ := hx.slice hz
  have hX : Hid (RdC w (.slice ao n cap) zs) := hx
  have hzH : Hid (zs.length = n) := hz
  have q1 : decide ((n : Int) < 1) = false := decide_eq_false (by omega)
  have q2 : decide ((n : Int) > 1024) = false := decide_eq_false (by omega)
  have R0 : Hid (Gro (w.alloc (.cells #[] 37)) w.heap.size 0 (.slice (some ⟨w.heap.size, 0, none⟩) 0 0) F []) := Gro.start w F
  have hB0 : Hid (Below w.heap.size w (w.alloc (.cells #[] 37))) := (Below.refl _ _).alloc (Nat.le_refl _) _
  obtain ⟨i0, hi, hz0, hz1, hz2⟩ := info_cx
  clear hx hz
  go_enter Tryd.func20, Tryd.ntmps20
  go_wp2_with fail
  go_loopw [9, 10, 11, 12, 24] (fun so _ _ _ si wx => ∃ (i : Nat) (us : List (Nat × Nat)), i ≤ n ∧ si = .int .i64 (i : Int) ∧ Hid (Gro wx w.heap.size i so F us) ∧ Hid (Below w.heap.size w wx)) (fun _ _ _ _ si _ => n - (intOf si).toNat)
  case atStart => exact ⟨0, [], Nat.zero_le _, rfl, R0, hB0⟩
  case round =>
    clear R0 hB0
    obtain ⟨i, us, hin, rfl, R, hb⟩ := hrel
    by_cases hlt : i < n
    · have hlt' : (i : Int) < (n : Int) := by omega
      obtain ⟨bx, ox, rfl, hbx, k1⟩ := hX.out.each hlt hzH.out
      have hcx := (hb.out.cell (p := ⟨bx, ox + i, none⟩) hbx).trans k1
      have hmd : Hid (Rp.md n (-(i : Int)) = (n - i) % n) := by
        show _ = _
        have e := Rp.md_eq hn (-(i : Int))
        rw [← Int.add_emod_right, show -(i : Int) + (n : Int) = ((n - i : Nat) : Int) by omega, ← Int.natCast_emod] at e
        omega
      have hFi : Hid (F i = tws n ((n - i) % n) (adc (sbc (zs.getD i (0, 0)) (g1, g2)) (v1, v2))) := by show _ = _; rw [hF.out]; rfl
      clear k1
      obtain ⟨⟨a, c⟩, hac⟩ : ∃ z, Hid (zs.getD i (0, 0) = z) := ⟨_, (rfl : _ = _)⟩
      rw [hac.out] at hcx hFi
      go_wp2_with fail
      refine (less10_c a c g1 g2 wr).mono ?_
      rintro e w3 ⟨x3, y3, d3, rfl, rfl, lx3, ly3, lk3⟩
      have hlk3 : Hid (Lk (x3, y3) (sbc (a, c) (g1, g2))) := lk3
      clear lk3
      go_wp2_with fail
      refine (plus10_c x3 y3 v1 v2 _).mono ?_
      rintro e w4 ⟨x4, y4, d4, rfl, rfl, lx4, ly4, lk4⟩
      have hlk4 : Hid (Lk (x4, y4) (adc (sbc (a, c) (g1, g2)) (v1, v2))) := by
        show Lk _ _
        rw [← adc_of hlk3.out (Lk.refl _)]
        exact lk4
      clear lk4
      go_wp2_with fail
      refine (tw10_c x4 y4 n (-(i : Int)) _ hn (by omega) lx4 ly4).mono ?_
      rintro e w5 ⟨x5, y5, d5, rfl, rfl, lx5, ly5, lk5⟩
      have hlk5 : Hid (Lk (x5, y5) (F i)) := by
        show Lk _ _
        rw [hFi.out, ← hmd.out]
        exact lk5.trans hlk4.out.tws
      clear lk5
      have hD : Hid (∀ D, Gro (wr.drewN D) w.heap.size i u9 F us ∧ Below w.heap.size w (wr.drewN D)) := fun D => ⟨R.out.keep (below_drewN (Below.refl _ _) D), below_drewN hb.out D⟩
      obtain ⟨wd, hwd, RD, hbD⟩ : ∃ wd, Hid ((wr.drewN (d3 + d4)).drewN d5 = wd) ∧ Hid (Gro wd w.heap.size i u9 F us) ∧ Hid (Below w.heap.size w wd) := ⟨_, (rfl : _ = _), by rw [World.drewN_drewN]; exact (hD.out _).1, by rw [World.drewN_drewN]; exact (hD.out _).2⟩
      clear R hb hD hcx
      rw [hwd.out]
      have hsz := hbD.out.size
      have hown : Hid (wd.ownsRow w.heap.size 37 1 u9 i (cz us)) := RD.out.own
      go_wp2_with (at_builtin; refine wpList_append_own _ rfl _ _ 24 rfl w.heap.size 37 i0 (.complex .f64 0 0) 1 16 Tryd.underlying24 hi hz0 hz1 hz2 rfl (by decide) _ _ _ rfl (hown.out.alloc _) ⟨wd.heap.size, 0, none⟩ 1 1 [.complex .f64 x5 y5] rfl rfl (cell_one_new10 _ _ _) (by simp [Value.oneCell']) (by unfold maxLen; omega) (by omega) (by simp; omega) ?_)
      intro v' w6 q3 q4 q5
      have R4 : Hid (Gro w6 w.heap.size (i + 1) v' F (us ++ [(x5, y5)])) := RD.out.snoc q3 lx5 ly5 hlk5.out
      have B4 : Hid (Below w.heap.size w w6) := (hbD.out.alloc hsz _).grown q4 (by simp; omega) (fun k' hk' => (RD.out.own.lt k' hk').1)
      clear q3 q4 q5 RD hbD hown hlk3 hlk4 hlk5
      go_wp2_with fail
      go_roundw
      case rel => exact ⟨i + 1, _, by omega, by go_num, R4, B4⟩
      case measure => simp [intOf]; omega
    · have hlt' : decide ((i : Int) < (n : Int)) = false := decide_eq_false (by omega)
      have ei : i = n := by omega
      subst ei
      go_wp2_with fail
      go_ret2
      exact ⟨_, us, rfl, R.out, hb.out⟩
end Go.Proofs.YtehaokdjdhejlaaDoor
