/-
  The walk of TablesMemory.
-/
import Derived.Test.YtljopkmpcolgfaaDoorMm8
import Derived.Test.YtljopkmpcolgfaaDoorIlz
import Derived.Test.YtljopkmpcolgfaaDoorLaid
import Derived.Test.YtljopkmpcolgfaaDoorRows
import Derived.RangeFuncNested
import Derived.RangeFuncBound
import Derived.RangeFuncCalls
import Derived.RangeFuncLeaves
import Derived.RangeFuncBox
import Derived.Shelf.RegionOpen
import Derived.Maps.AppendAt
import Derived.Deep.RegionHeld3
namespace Go.Proofs.YtljopkmpcolgfaaDoor
open Flo Go.RowKit Go.Maps Go.Shelf Go.MuLone
attribute [local go_sem] Oper.semAt_some
set_option maxRecDepth 100000 in
set_option maxHeartbeats 32000000 in
theorem tm8_in (z0 : Int) (ao : Option Addr) (L C : Nat) (zs : List Int) (stop : Int) (w : World) (al : List Addr) (he : Errs w al) (hL : zs.length = L) (hLb : L ≤ 17592186043904)
    (hin : zs ≠ [] → ∃ b off, ao = some ⟨b, off, none⟩ ∧ b < w.heap.size ∧ ∀ i, i < zs.length → w.cell? ⟨b, off + i, none⟩ = some (.int .i64 (zs.getD i 0))) :
    CallsIn Fence.wide 5 Tryd.prog 6 #[.int .i64 z0, .slice ao L C, .int .i64 stop] w fun e w' => e = .returned (.bool true) ∧ Below w.heap.size w w' := by
  have he' : Hid (Errs w al) := he
  have hL' : Hid (zs.length = L) := hL
  have hi : Hid (zs ≠ [] → ∃ b off, ao = some ⟨b, off, none⟩ ∧ b < w.heap.size ∧ ∀ i, i < zs.length → w.cell? ⟨b, off + i, none⟩ = some (.int .i64 (zs.getD i 0))) := hin
  obtain ⟨n, n1, n2, hn⟩ := n300 z0
  have hn' : Hid (wrap64 (1 + wrap64 ((IntKind.u64.wrap z0).tmod 300)) = (n : Int)) := hn
  obtain ⟨i0, hi0, hz0, hz1, hz2⟩ := info_cx
  clear he hL hin hn
  refine callsIn_of_wp_marks Tryd.func6 rfl trivial ?_ rfl
  simp only [Tryd.ntmps6, List.size_toArray, List.length_cons, List.length_nil, Nat.reduceAdd, Nat.reduceSub, Array.replicate_succ, Array.replicate_zero, List.push_toArray, List.append_toArray, List.nil_append, List.cons_append]
  gi_wp2_with fail
  have bS0 := (Boxed.new w 3 (.int .i64 stop)).alloc (.cells #[.bool false] 4)
  have bR0 := Boxed.new (w.alloc (.cells #[.int .i64 stop] 3)) 4 (.bool false)
  rw [World.size_alloc] at bR0
  have hb0 : Hid (Below w.heap.size w ((w.alloc (.cells #[.int .i64 stop] 3)).alloc (.cells #[.bool false] 4))) := ((Below.refl _ w).alloc (Nat.le_refl _) _).alloc (by simp) _
  have hzW : Hid (((w.alloc (.cells #[.int .i64 stop] 3)).alloc (.cells #[.bool false] 4)).heap.size = w.heap.size + 2) := (by simp : ((w.alloc (.cells #[.int .i64 stop] 3)).alloc (.cells #[.bool false] 4)).heap.size = w.heap.size + 2)
  have mb0 : Hid (Mb ((w.alloc (.cells #[.int .i64 stop] 3)).alloc (.cells #[.bool false] 4)) w.heap.size stop) := ⟨bS0.cell, bR0.cell, bR0.frozen⟩
  clear bS0 bR0
  generalize (w.alloc (.cells #[.int .i64 stop] 3)).alloc (.cells #[.bool false] 4) = W0 at *
  refine ⟨trivial, (callsIn_wide.2 (fixed8_c W0 al (he'.out.below hb0.out))).mono ?_⟩
  rintro e w1 ⟨rfl, B1⟩
  have B1' : Hid (Below w.heap.size w w1) := below_tr hb0.out B1
  have mb1 : Hid (Mb w1 w.heap.size stop) := mb0.out.below B1
  have s1 : Hid (w.heap.size + 2 ≤ w1.heap.size) := (by have := B1.size; have := hzW.out; omega : w.heap.size + 2 ≤ w1.heap.size)
  clear B1 mb0 hb0 hzW he'
  gi_wp2_with fail
  rw [hn'.out]
  refine ⟨trivial, (callsIn_wide.2 (new_c w1)).mono ?_⟩
  rintro e w2 ⟨t, bm, rfl, ht0, hbm0, T2, B2⟩
  have ht : w.heap.size + 2 ≤ t := Nat.le_trans s1.out ht0
  have hbm : w.heap.size + 2 ≤ bm := Nat.le_trans s1.out hbm0
  have T2' : Hid (TB (fun _ => True) w2 t bm [] 0) := T2
  have B2' : Hid (Below w.heap.size w w2) := below_tr B1'.out B2
  have mb2 : Hid (Mb w2 w.heap.size stop) := mb1.out.below B2
  clear T2 B2 B1' mb1 ht0 hbm0 s1
  gi_wp2_with fail
  refine ⟨trivial, (callsIn_wide.2 (list_t T2'.out n n1 (by omega) (by decide) (.inr fun _ _ => trivial))).mono ?_⟩
  rw [ins_nil, nm_new]
  rintro e w3 ⟨wm, G1, C1, rfl, Tm, Fm, Bm, hG1, o3⟩
  obtain ⟨N1, hN1⟩ : ∃ N1, Hid (wm.heap.size = N1) := ⟨_, rfl⟩
  have htN : t < N1 := by have := Tm.lt; rw [hN1.out] at this; exact this
  have hbN : bm < N1 := by have := Tm.blt; rw [hN1.out] at this; exact this
  rw [hN1.out] at hG1 o3
  have T3' : Hid (TB (fun k => k < N1) w3 t bm [n] 1) := (Tm.to (G := fun k => k < N1) fun k hk _ => by rw [hN1.out] at hk; exact hk).below Bm
  have B3' : Hid (Below w.heap.size w w3) := below_tr (fr_below Fm B2'.out (by omega) (by omega) B2'.out.size) Bm
  have mb3 : Hid (Mb w3 w.heap.size stop) := (mb2.out.fr Fm (by rintro (e | e) <;> omega) (by rintro (e | e) <;> omega)).below Bm
  have O3 : Hid (w3.ownsRow N1 35 1 (.slice (some ⟨G1, 0, none⟩) n C1) n (cz (rl n))) := o3
  have l1 : Hid (G1 < w3.heap.size) := (o3.lt G1 rfl).2
  clear Tm Fm Bm o3 T2' B2' mb2 hN1
  gi_wp2_with fail
  refine ⟨trivial, (callsIn_wide.2 (list_t T3'.out n n1 (by omega) (by decide) (.inl (by simp)))).mono ?_⟩
  rw [ins_one, nm_one]
  rintro e w4 ⟨wm2, G2, C2, rfl, Tm, Fm, Bm, hG2, o4⟩
  have T4' : Hid (TB (fun k => k < N1) w4 t bm [n] 1) := Tm.below Bm
  have B4' : Hid (Below w.heap.size w w4) := below_tr (fr_below Fm B3'.out (by omega) (by omega) B3'.out.size) Bm
  have mb4 : Hid (Mb w4 w.heap.size stop) := (mb3.out.fr Fm (by rintro (e | e) <;> omega) (by rintro (e | e) <;> omega)).below Bm
  have O4 : Hid (w4.ownsRow N1 35 1 (.slice (some ⟨G1, 0, none⟩) n C1) n (cz (rl n))) := own_blw (Fm.owns O3.out (fun b hb hs => by have e2 : G1 = b := Option.some.inj hb; rcases hs with e | e <;> omega)) Bm
  have n12 : Hid (G1 < G2) := Nat.lt_of_lt_of_le l1.out (Nat.le_trans Fm.size hG2)
  have c4 : Hid (Cel w4 G2 n) := Cel.own o4 n1
  have l4 : Hid (G2 < w4.heap.size) := c4.out.lt
  clear Tm Fm Bm o4 hG2 T3' B3' mb3 O3 l1
  gi_wp2_with fail
  refine ⟨trivial, (callsIn_wide.2 (allOk_c n w4 n1 (by omega))).mono ?_⟩
  rintro e w5 ⟨G3, rfl, hG3, o5, B5⟩
  have n13 : Hid (G1 < G3) := Nat.lt_trans n12.out (Nat.lt_of_lt_of_le l4.out hG3)
  have A5 : Hid (A8 w w5 N1 t bm n G2 G3 stop) := ⟨T4'.out.below B5, c4.out.below B5, Cel.own o5 n1, mb4.out.below B5, below_tr B4'.out B5⟩
  have O5 : Hid (SomeC w5 N1 (.slice (some ⟨G1, 0, none⟩) n C1) n) := ⟨_, own_blw O4.out B5⟩
  have hN2 : Hid (w.heap.size + 2 ≤ N1) := (by omega : w.heap.size + 2 ≤ N1)
  clear B5 o5 hG3 T4' B4' mb4 c4 O4 l4
  gi_wp2_with fail
  gi_loopw [14, 70] (fun _ si wx => ∃ i : Nat, i ≤ n ∧ si = .int .i64 (i : Int) ∧ Hid (SomeC wx N1 (.slice (some ⟨G1, 0, none⟩) n C1) n) ∧ Hid (A8 w wx N1 t bm n G2 G3 stop)) (fun _ si _ => n - (RowKit.intOf si).toNat)
  case atStart => exact ⟨0, Nat.zero_le _, rfl, O5, A5⟩
  case round =>
    clear O5 A5
    obtain ⟨i, him, rfl, hO, hA⟩ := hrel
    by_cases hlt : i < n
    · have hlt' : (i : Int) < (n : Int) := by omega
      obtain ⟨u, cA⟩ := hO.out.cell hlt
      obtain ⟨xs, hxs⟩ := hO.out
      have f2 := hxs.frozenAt i
      have hst := hxs.stored i (.complex .f64 4617315517961601024 4617315517961601024)
      have s1 : Hid (SomeC (wr.setCell ⟨G1, i, none⟩ (.complex .f64 4617315517961601024 4617315517961601024)) N1 (.slice (some ⟨G1, 0, none⟩) n C1) n) := ⟨_, hst.1⟩
      have s2 : Hid (A8 w (wr.setCell ⟨G1, i, none⟩ (.complex .f64 4617315517961601024 4617315517961601024)) N1 t bm n G2 G3 stop) := hA.out.write (S := fun k => k = G1) ((Fr.refl (fun k => k = G1) wr).setCell (p := ⟨G1, i, none⟩) rfl _) (fun k _ e => by have := n12.out; have := n13.out; subst e; exact ⟨hG1, by omega, by omega⟩) hN2.out
      have hsc := store_cx
      clear hst hxs hO hA
      gi_wp2
      go_roundw
      case rel => exact ⟨i + 1, by omega, by go_num, s1, s2⟩
      case measure => simp [RowKit.intOf]; omega
    · have hlt' : decide ((i : Int) < (n : Int)) = false := decide_eq_false (by omega)
      clear him
      have hsz := hA.out.bl.size
      have hg1s : Hid (∀ g, (Value.slice (some ⟨G1, 0, none⟩) n C1).ownBlock = some g → N1 ≤ g ∧ g ≠ G2 ∧ g ≠ G3) := fun g hg => by
        have e2 : G1 = g := Option.some.inj hg
        have := n12.out
        have := n13.out
        omega
      gi_wp2_with fail
      clear hlt hlt'
      gi_loopw [15, 16] (fun sv si wx => ∃ k : Nat, k ≤ 50 ∧ si = .int .i64 (k : Int) ∧ Hid (SomeC wx N1 sv (n + k)) ∧ Hid (∀ g, sv.ownBlock = some g → N1 ≤ g ∧ g ≠ G2 ∧ g ≠ G3) ∧ Hid (A8 w wx N1 t bm n G2 G3 stop)) (fun _ si _ => 50 - (RowKit.intOf si).toNat)
      case atStart => exact ⟨0, Nat.zero_le _, rfl, hO, hg1s, hA⟩
      case round =>
        clear hO hA hsz
        obtain ⟨k, hk, rfl, hO, hgs, hA⟩ := hrel
        by_cases hlt : k < 50
        · have hlt' : (k : Int) < 50 := by omega
          obtain ⟨xs, hxs⟩ := hO.out
          have hNs : N1 ≤ wr.heap.size := by have := hA.out.tb.lt; have := (hxs.2); have h5 := hA.out.c2.lt; have := hG1; have := n12.out; omega
          gi_wp2_with (gi_at_builtin; refine wpListIn_append_own_at _ rfl _ _ 40 rfl N1 35 i0 (.complex .f64 0 0) 1 16 Tryd.underlying40 hi0 hz0 hz1 hz2 rfl (by decide) _ _ _ rfl (hxs.alloc _) ⟨wr.heap.size, 0, none⟩ 1 1 [.complex .f64 4618441417868443648 4618441417868443648] rfl rfl (cell_one_new _ _ _) (by simp [Value.oneCell']) (by unfold maxLen; omega) (by omega) (by simp; omega) ?_; intro v' w6 ho hg _ hat)
          have s1 : Hid (SomeC w6 N1 v' (n + (k + 1))) := ⟨_, ho⟩
          have hfr : Fr (fun g => u15.ownBlock = some g) wr w6 := ((Fr.refl _ wr).alloc _).grown hg fun g hg => hg
          have s2 : Hid (A8 w w6 N1 t bm n G2 G3 stop) := hA.out.write hfr (fun g _ hg => hgs.out g hg) hN2.out
          have s3 : Hid (∀ g, v'.ownBlock = some g → N1 ≤ g ∧ g ≠ G2 ∧ g ≠ G3) := fun g hg' => by
            rcases hat with h | h
            · exact hgs.out g (h ▸ hg')
            · rw [h] at hg'
              have e2 := Option.some.inj hg'
              have h5 := hA.out.c2.lt
              have h6 := hA.out.c3.lt
              simp at e2
              omega
          clear ho hg hat hfr hxs hO hgs hA
          gi_wp2
          go_roundw
          case rel => exact ⟨k + 1, by omega, by go_num, s1, s3, s2⟩
          case measure => simp [RowKit.intOf]; omega
        · have hlt' : decide ((k : Int) < 50) = false := decide_eq_false (by omega)
          clear hO hgs
          gi_wp2_with fail
          refine ⟨trivial, (callsIn_wide.2 (at_c hA.out.tb n 1 n1 (by omega) (by decide) (.inl (by simp)))).mono ?_⟩
          rw [ins_one, nm_one]
          rintro e w6 ⟨rfl, T6, F6⟩
          have A6 : Hid (A8 w w6 N1 t bm n G2 G3 stop) := hA.out.call n1 F6 T6 ht hbm
          clear T6 F6 hA
          gi_wp2_with fail
          refine ⟨trivial, (callsIn_wide.2 (rootOk_c n 1 w6 n1 (by omega))).mono ?_⟩
          rintro e w7 ⟨rfl, B7⟩
          have A7 : Hid (A8 w w7 N1 t bm n G2 G3 stop) := A6.out.below B7
          clear B7 A6
          gi_wp2_with fail
          refine ⟨trivial, (callsIn_wide.2 (list_t A7.out.tb n n1 (by omega) (by decide) (.inl (by simp)))).mono ?_⟩
          rw [ins_one, nm_one]
          rintro e w8 ⟨wm3, G4, C4, rfl, Tm, Fm, Bm, hG4, o8⟩
          have A8' : Hid (A8 w w8 N1 t bm n G2 G3 stop) := (A7.out.call n1 Fm Tm ht hbm).below Bm
          have c8 : Hid (Cel w8 G4 n) := Cel.own o8 n1
          clear Tm Fm Bm hG4 o8 A7
          have lx := (Rp.pc_fin (Rp.md n 1) n1 (show n ≤ 4194304 by omega)).1
          have ly := (Rp.pim_fin (Rp.md n 1) n1 (show n ≤ 4194304 by omega)).1
          generalize Rp.pc n (Rp.md n 1) = x at *
          generalize Rp.pim n (Rp.md n 1) = y at *
          gi_wp2_with fail
          refine ⟨trivial, (callsIn_wide.2 (r2Same_q x y w8 lx ly)).mono ?_⟩
          rintro e w9 ⟨rfl, rfl⟩
          gi_wp2_with fail
          refine ⟨trivial, (callsIn_wide.2 (sameRoots_c G2 G3 n _ _ w9 n1 (by omega) A8'.out.c2 A8'.out.c3)).mono ?_⟩
          rintro e w10 ⟨rfl, q1, rfl⟩
          have A10 : Hid (A8 w (w9.drewN q1) N1 t bm n G2 G3 stop) := A8'.out.drewN q1
          have c10 : Hid (Cel (w9.drewN q1) G4 n) := c8.out.below (below_drewN (Below.refl _ _) q1)
          clear A8' c8
          generalize w9.drewN q1 = w10 at *
          gi_wp2_with fail
          refine ⟨trivial, (callsIn_wide.2 (sameRoots_c G4 G3 n _ _ w10 n1 (by omega) c10.out A10.out.c3)).mono ?_⟩
          rintro e w11 ⟨rfl, q2, rfl⟩
          have T11 : Hid (TB (fun _ => True) (w10.drewN q2) t bm [n] 1) := (A10.out.drewN q2).tb.to fun _ _ _ => trivial
          have m11 : Hid (Mb (w10.drewN q2) w.heap.size stop) := (A10.out.drewN q2).mb
          have B11 : Hid (Below w.heap.size w (w10.drewN q2)) := (A10.out.drewN q2).bl
          clear A10 c10 n12 n13 hG1 hg1s hi0 hz0 hz1 hz2
          generalize w10.drewN q2 = w11 at *
          gi_wp2_with fail
          refine ⟨trivial, (callsIn_wide.2 (sizes_c T11.out)).mono ?_⟩
          rintro e w12 ⟨v, rfl, o12, T12, F12⟩
          obtain ⟨lo, lc, rfl⟩ := owns_slice o12
          obtain ⟨g, rfl, hcg⟩ := row_cells (q := 1) o12 (by decide) rfl
          have gl : Hid (w11.heap.size ≤ g ∧ g < w12.heap.size) := o12.lt g rfl
          have T12' : Hid (TB (fun _ => True) w12 t bm [n] 1) := T12
          have m12 : Hid (Mb w12 w.heap.size stop) := m11.out.fr F12 (by rintro (e | e) <;> omega) (by rintro (e | e) <;> omega)
          have B12 : Hid (Below w.heap.size w w12) := fr_below F12 B11.out (by omega) (by omega) B11.out.size
          have cG : Hid (w12.cell? ⟨g, 0, none⟩ = some (.int .i64 (n : Int))) := hcg 0 (by decide)
          obtain ⟨X, hX⟩ : ∃ X, Hid (w11.heap.size = X) := ⟨_, rfl⟩
          have tX : Hid (t < X ∧ bm < X) := (by have h1 := T11.out.lt; have h2 := T11.out.blt; rw [hX.out] at h1 h2; exact ⟨h1, h2⟩ : t < X ∧ bm < X)
          have sX : Hid (X ≤ w12.heap.size) := (by have := F12.size; rw [hX.out] at this; exact this : X ≤ w12.heap.size)
          rw [hX.out] at gl
          clear hcg o12 T12 F12 T11 m11 B11 hX
          gi_wp2_with fail
          -- the box of 'was'
          have bW0 := Boxed.new w12 28 (.slice (some ⟨g, 0, none⟩) 1 lc)
          have b13 : Below w12.heap.size w12 (w12.alloc (.cells #[.slice (some ⟨g, 0, none⟩) 1 lc] 28)) := (Below.refl _ w12).alloc (Nat.le_refl _) _
          obtain ⟨Bw, hBw⟩ : ∃ Bw, Hid (w12.heap.size = Bw) := ⟨_, rfl⟩
          have xW : Hid (X ≤ Bw) := (by rw [← hBw.out]; exact sX.out : X ≤ Bw)
          have T13 : Hid (TB (fun _ => True) (w12.alloc (.cells #[.slice (some ⟨g, 0, none⟩) 1 lc] 28)) t bm [n] 1) := T12'.out.below b13
          have m13 : Hid (Mb (w12.alloc (.cells #[.slice (some ⟨g, 0, none⟩) 1 lc] 28)) w.heap.size stop) := m12.out.below b13
          have B13 : Hid (Below w.heap.size w (w12.alloc (.cells #[.slice (some ⟨g, 0, none⟩) 1 lc] 28))) := below_tr B12.out b13
          have cW : Hid ((w12.alloc (.cells #[.slice (some ⟨g, 0, none⟩) 1 lc] 28)).cell? ⟨Bw, 0, none⟩ = some (.slice (some ⟨g, 0, none⟩) 1 lc)) := (by rw [← hBw.out]; exact bW0.cell : (w12.alloc (.cells #[.slice (some ⟨g, 0, none⟩) 1 lc] 28)).cell? ⟨Bw, 0, none⟩ = some (.slice (some ⟨g, 0, none⟩) 1 lc))
          have cG13 : Hid ((w12.alloc (.cells #[.slice (some ⟨g, 0, none⟩) 1 lc] 28)).cell? ⟨g, 0, none⟩ = some (.int .i64 (n : Int))) := (b13.cell (p := ⟨g, 0, none⟩) gl.out.2).trans cG.out
          clear bW0 b13 T12' m12 B12 cG
          generalize w12.alloc (.cells #[.slice (some ⟨g, 0, none⟩) 1 lc] 28) = w13 at *
          rw [hBw.out]
          refine ⟨trivial, (callsIn_wide.2 (sizesIt_c T13.out)).mono ?_⟩
          rintro e w14 ⟨Bs, rfl, T14, F14, I14⟩
          have nt : ¬ tb t bm Bw := by have := tX.out; have := xW.out; rintro (e | e) <;> omega
          have ng : ¬ tb t bm g := by have := tX.out; have := gl.out; rintro (e | e) <;> omega
          have K14 : Hid (K8 w14 w.heap.size X t bm Bw g lc Bs n stop) := ⟨m13.out.fr F14 (by rintro (e | e) <;> omega) (by rintro (e | e) <;> omega), F14.cell cW.out nt, F14.cell cG13.out ng, I14.low (by have := World.block_lt_of_cell? w13 _ cW.out; have := xW.out; simp at *; omega), xW.out, gl.out.1, ⟨by omega, tX.out.1⟩, ⟨by omega, tX.out.2⟩⟩
          have T14' : Hid (TB (fun _ => True) w14 t bm [n] 1) := T14
          have B14 : Hid (Below w.heap.size w w14) := fr_below F14 B13.out (by omega) (by omega) B13.out.size
          have hnil := seq8_nil #[.pointer (some ⟨Bs, 0, none⟩)]
          clear nt ng T14 F14 I14 T13 m13 B13 cW cG13
          gi_wp2_with fail
          clear hnil
          gi_loopw [27, 145] (fun _ si wx => ∃ (i made : Nat) (ks : List Nat), i ≤ L ∧ si = .int .i64 (i : Int) ∧ made ≤ i + 1 ∧ Hid (TB (fun _ => True) wx t bm ks made) ∧ Hid (K8 wx w.heap.size X t bm Bw g lc Bs n stop) ∧ Hid (Below w.heap.size w wx)) (fun _ si _ => L - (RowKit.intOf si).toNat)
          case atStart => exact ⟨0, 1, [n], Nat.zero_le _, rfl, by omega, T14', K14, B14⟩
          case round =>
            clear T14' K14 B14
            obtain ⟨i, made, ks, hiL, rfl, hmi, T, K, B⟩ := hrel
            by_cases hlt2 : i < L
            · have hlt2' : (i : Int) < (L : Int) := by omega
              obtain ⟨b, off, rfl, hbl, hcell⟩ := hi.out (fun e => by have := hL'.out; rw [e] at this; simp at this; omega)
              have cz0 : wr.cell? ⟨b, off + i, none⟩ = some (.int .i64 (zs.getD i 0)) := (B.out.cell (p := ⟨b, off + i, none⟩) hbl).trans (hcell i (by have := hL'.out; omega))
              clear hcell
              obtain ⟨z, hz⟩ : ∃ z, Hid (zs.getD i 0 = z) := ⟨_, rfl⟩
              rw [hz.out] at cz0
              obtain ⟨m, mm1, mm2, hm⟩ := n300 z
              have hm' : Hid (wrap64 (1 + wrap64 ((IntKind.u64.wrap z).tmod 300)) = (m : Int)) := hm
              clear hm
              gi_wp2_with fail
              rw [hm'.out]
              refine ⟨trivial, (callsIn_wide.2 (at_c T.out m 0 mm1 (by omega) (by omega) (.inr fun _ _ => trivial))).mono ?_⟩
              rintro e w15 ⟨rfl, T15, F15⟩
              have T15' : Hid (TB (fun _ => True) w15 t bm (ins m ks) (nm m ks made)) := T15
              have K15 : Hid (K8 w15 w.heap.size X t bm Bw g lc Bs n stop) := K.out.fr F15
              have B15 : Hid (Below w.heap.size w w15) := fr_below F15 B.out (by omega) (by omega) B.out.size
              clear T15 F15 T K B
              gi_wp2_with fail
              go_roundw
              case rel => exact ⟨i + 1, nm m ks made, ins m ks, by omega, by go_num, by have := nm_le m ks made; omega, T15', K15, B15⟩
              case measure => simp [RowKit.intOf]; omega
            · have hlt2' : decide ((i : Int) < (L : Int)) = false := decide_eq_false (by omega)
              gi_wp2_with fail
              refine ⟨trivial, (callsIn_wide.2 (drop_c T.out n (by omega))).mono ?_⟩
              rintro e w16 ⟨rfl, T16, F16⟩
              have K16 : Hid (K8 w16 w.heap.size X t bm Bw g lc Bs n stop) := K.out.fr F16
              have B16 : Hid (Below w.heap.size w w16) := fr_below F16 B.out (by omega) (by omega) B.out.size
              generalize decide (n ∈ ks) = dk
              clear T16 F16 T K B hlt2 hlt2' hiL hmi
              gi_wp2_with fail
              refine wpIn_loop_rounds 3 ?_
              rw [roundsIn_succ]
              gi_wp2_with fail
              obtain ⟨H, hH⟩ : ∃ H, Hid (w16.heap.size = H) := ⟨_, rfl⟩
              obtain ⟨sv, hsv, hIn⟩ := K16.out.it.ints
              have bI0 := (Boxed.new w16 3 (.int .i64 0)).alloc (.cells #[.int .i64 0] 3)
              have bK0 := Boxed.new (w16.alloc (.cells #[.int .i64 0] 3)) 3 (.int .i64 0)
              rw [World.size_alloc] at bK0
              have b1 : Below w16.heap.size w16 ((w16.alloc (.cells #[.int .i64 0] 3)).alloc (.cells #[.int .i64 0] 3)) := ((Below.refl _ w16).alloc (Nat.le_refl _) _).alloc (by simp) _
              have hzK : Hid (((w16.alloc (.cells #[.int .i64 0] 3)).alloc (.cells #[.int .i64 0] 3)).heap.size = H + 2) := (by simp [hH.out] : ((w16.alloc (.cells #[.int .i64 0] 3)).alloc (.cells #[.int .i64 0] 3)).heap.size = H + 2)
              have KK := K16.out.below b1
              have cS : Hid (((w16.alloc (.cells #[.int .i64 0] 3)).alloc (.cells #[.int .i64 0] 3)).cell? ⟨w.heap.size, 0, none⟩ = some (.int .i64 stop)) := KK.mb.cS
              have cR : Hid (((w16.alloc (.cells #[.int .i64 0] 3)).alloc (.cells #[.int .i64 0] 3)).cell? ⟨w.heap.size + 1, 0, none⟩ = some (.bool false)) := KK.mb.cR
              have fR : Hid (((w16.alloc (.cells #[.int .i64 0] 3)).alloc (.cells #[.int .i64 0] 3)).frozen? ⟨w.heap.size + 1, 0, none⟩ = false) := KK.mb.fR
              have cW : Hid (((w16.alloc (.cells #[.int .i64 0] 3)).alloc (.cells #[.int .i64 0] 3)).cell? ⟨Bw, 0, none⟩ = some (.slice (some ⟨g, 0, none⟩) 1 lc)) := KK.cW
              have cG : Hid (((w16.alloc (.cells #[.int .i64 0] 3)).alloc (.cells #[.int .i64 0] 3)).cell? ⟨g, 0, none⟩ = some (.int .i64 (n : Int))) := KK.cG
              have lM : Hid (w.heap.size + 1 < H) := (by have := K16.out.mb.lt; rw [hH.out] at this; exact this : w.heap.size + 1 < H)
              have lW : Hid (Bw < H) := (by have := World.block_lt_of_cell? w16 _ K16.out.cW; rw [hH.out] at this; exact this : Bw < H)
              have lG : Hid (g < H) := (by have := World.block_lt_of_cell? w16 _ K16.out.cG; rw [hH.out] at this; exact this : g < H)
              have lB : Hid (Bs < H) := (by have := K16.out.it.lt; rw [hH.out] at this; exact this : Bs < H)
              have B0w : Hid (Below w.heap.size w ((w16.alloc (.cells #[.int .i64 0] 3)).alloc (.cells #[.int .i64 0] 3))) := below_tr B16.out b1
              have svK : Hid (((w16.alloc (.cells #[.int .i64 0] 3)).alloc (.cells #[.int .i64 0] 3)).cell? ⟨Bs, 0, none⟩ = some sv) := (b1.cell (p := ⟨Bs, 0, none⟩) K16.out.it.lt).trans hsv
              have inK : Hid (Ints (· < H + 1) ((w16.alloc (.cells #[.int .i64 0] 3)).alloc (.cells #[.int .i64 0] 3)) sv [n]) := ints_up hIn b1 (fun b hb => hb) (fun b (hb : b < w16.heap.size) => by have := hH.out; omega)
              rw [hH.out] at bI0 bK0 ⊢
              have cI : Hid (((w16.alloc (.cells #[.int .i64 0] 3)).alloc (.cells #[.int .i64 0] 3)).cell? ⟨H, 0, none⟩ = some (.int .i64 0)) := bI0.cell
              have bK : Hid (Boxed ((w16.alloc (.cells #[.int .i64 0] 3)).alloc (.cells #[.int .i64 0] 3)) (H + 1) 3 (.int .i64 0)) := bK0
              clear KK hsv hIn bI0 bK0 b1 K16 B16 tX sX gl xW
              generalize (w16.alloc (.cells #[.int .i64 0] 3)).alloc (.cells #[.int .i64 0] 3) = Wk at *
              refine' wpIn_rangeFunc_ownG rfl (by decide) (gf := 47) (lb := #[.pointer (some ⟨Bs, 0, none⟩)]) rfl trivial (enters_of Tryd.func47 (by kernel_rfl) rfl)
                (values_stops Fence.wide (5 - 1) trivial rfl (by decide) Bs (H + 1) sv [n] (by simp) Wk (by have := lB.out; rw [hzK.out]; omega) (by rw [hzK.out]; omega) svK.out inK.out) belowK_t (belowK_b (by rw [hzK.out]; omega)) (Below.refl _ _) (fun _ => rfl)
                (fun pre W => (Boxed W (H + 1) 3 (.int .i64 (pre.length : Int)) ∧ pre <+: [n]) ∧ Below (H + 1) Wk W)
                (fun c pre W => (c = .ret ∧ ¬ pre <+: [n]) ∨ (c = .exit 8 ∧ Boxed W (H + 1) 3 (.int .i64 1) ∧ Below (H + 1) Wk W))
                (OwnFrom.and (Own.from (fun s A B row hs hg hr => ⟨boxed_own _ _ (fun pre : List Nat => .int .i64 (pre.length : Int)) s A B row hs.1 hg hr, hs.2⟩) _) (ownFrom_below (by rw [hzK.out]; omega) (by rw [hzK.out]; omega)))
                (fun c s A B row hs hg hr => ?ix)
                ⟨⟨bK.out, List.nil_prefix⟩, Below.refl _ _⟩
                _ ?assign1 ?body1 ?done1 ?stop1
              case ix =>
                rcases hs with h | ⟨hc, h1, h4⟩
                · exact .inl h
                · exact .inr ⟨hc, h1.kept hg (fun e' => by obtain ⟨_, o, ho, hcl⟩ := hr _ e'.symm; rw [show A.heap[(H + 1)]? = _ from h1] at ho; cases ho; cases hcl), ownFrom_below (β := List Nat) (n₀ := (H + 1)) (B := Wk.heap.size) (by rw [hzK.out]; omega) (by rw [hzK.out]; omega) s A B row h4 hg hr⟩
              case assign1 =>
                intro l x W K hK
                gi_wp2
                exact hK
              case body1 =>
                rintro l pre x W ⟨⟨hb, hp⟩, hB⟩ hlt
                obtain rfl : pre = [] := List.eq_nil_of_length_eq_zero (by have h : pre.length < 1 := hlt; omega)
                have BX : Below (H + 1) Wk W := hB
                have cWW : W.cell? ⟨Bw, 0, none⟩ = some (.slice (some ⟨g, 0, none⟩) 1 lc) := (BX.cell (p := ⟨Bw, 0, none⟩) (show Bw < _ by have := lW.out; omega)).trans cW.out
                have cGW : W.cell? ⟨g, 0, none⟩ = some (.int .i64 (n : Int)) := (BX.cell (p := ⟨g, 0, none⟩) (show g < _ by have := lG.out; omega)).trans cG.out
                have cSW : W.cell? ⟨w.heap.size, 0, none⟩ = some (.int .i64 stop) := (BX.cell (p := ⟨w.heap.size, 0, none⟩) (show w.heap.size < _ by have := lM.out; omega)).trans cS.out
                have cRW : W.cell? ⟨w.heap.size + 1, 0, none⟩ = some (.bool false) := (BX.cell (p := ⟨w.heap.size + 1, 0, none⟩) (show w.heap.size + 1 < _ by have := lM.out; omega)).trans cR.out
                have fRW : W.frozen? ⟨w.heap.size + 1, 0, none⟩ = false := (BX.frozen (p := ⟨w.heap.size + 1, 0, none⟩) (show w.heap.size + 1 < _ by have := lM.out; omega)).trans fR.out
                have cIW : W.cell? ⟨H, 0, none⟩ = some (.int .i64 0) := (hB.cell (p := ⟨H, 0, none⟩) (show H < _ by omega)).trans cI.out
                have hb0 : Boxed W (H + 1) 3 (.int .i64 0) := hb
                have ck := hb0.cell
                have fk := hb0.frozen
                have hbH : Hid (Boxed W (H + 1) 3 (.int .i64 0)) := hb0
                have hBH : Hid (Below (H + 1) Wk W) := hB
                have hgone : Hid (KeepsFrom Wk.heap.size W (W.setCell ⟨w.heap.size + 1, 0, none⟩ (.bool false))) := (KeepsOthers.setCell W ⟨w.heap.size + 1, 0, none⟩ (.bool false)).from _
                clear hp hb hb0 hB BX hlt
                by_cases hx : x = n
                · subst hx
                  have hb2 : Hid (Boxed (W.setCell ⟨(H + 1), 0, none⟩ (.int .i64 1)) (H + 1) 3 (.int .i64 1)) := hbH.out.set _
                  have cS2 : (W.setCell ⟨(H + 1), 0, none⟩ (.int .i64 1)).cell? ⟨w.heap.size, 0, none⟩ = some (.int .i64 stop) := (World.cell?_setCell_far W ⟨(H + 1), 0, none⟩ ⟨w.heap.size, 0, none⟩ _ (show (H + 1) ≠ w.heap.size by have := lM.out; omega)).trans cSW
                  have cI2 : (W.setCell ⟨(H + 1), 0, none⟩ (.int .i64 1)).cell? ⟨H, 0, none⟩ = some (.int .i64 0) := (World.cell?_setCell_far W ⟨(H + 1), 0, none⟩ ⟨H, 0, none⟩ _ (show (H + 1) ≠ H by omega)).trans cIW
                  by_cases hst : stop = 1
                  · have hst1 : ((1 : Int) == stop) = true := beq_iff_eq.2 hst.symm
                    clear hst
                    gi_wp2
                    exact ⟨(KeepsOthers.setCell _ _ _).from _, .inr ⟨rfl, hb2.out, hBH.out.setCell (p := ⟨(H + 1), 0, none⟩) (Nat.le_refl _) _⟩⟩
                  · have hst1 : ((1 : Int) == stop) = false := beq_eq_false_iff_ne.2 (fun e => hst e.symm)
                    clear hst
                    gi_wp2
                    exact ⟨(KeepsOthers.setCell _ _ _).from _, (Below.refl _ W).setCell (p := ⟨(H + 1), 0, none⟩) (Nat.le_refl _) _, ⟨hb2.out, List.prefix_refl _⟩, hBH.out.setCell (p := ⟨(H + 1), 0, none⟩) (Nat.le_refl _) _⟩
                · have q1 : ((x : Int) == (n : Int)) = false := beq_eq_false_iff_ne.2 (by omega)
                  have q2 : ((x : Int) != (n : Int)) = true := by simp [bne, q1]
                  gi_wp2
                  exact ⟨hgone.out, .inl ⟨rfl, fun h => hx (by simpa using h)⟩⟩
              case done1 =>
                rintro D1 ys W hD1' rfl ⟨⟨hb, hp⟩, hB⟩ hKd
                have hb1 : Boxed W (H + 1) 3 (.int .i64 1) := hb
                clear hb hp
                have BX : Below (H + 1) Wk W := hB
                have cWW : W.cell? ⟨Bw, 0, none⟩ = some (.slice (some ⟨g, 0, none⟩) 1 lc) := (BX.cell (p := ⟨Bw, 0, none⟩) (show Bw < _ by have := lW.out; omega)).trans cW.out
                have cGW : W.cell? ⟨g, 0, none⟩ = some (.int .i64 (n : Int)) := (BX.cell (p := ⟨g, 0, none⟩) (show g < _ by have := lG.out; omega)).trans cG.out
                have cSW : W.cell? ⟨w.heap.size, 0, none⟩ = some (.int .i64 stop) := (BX.cell (p := ⟨w.heap.size, 0, none⟩) (show w.heap.size < _ by have := lM.out; omega)).trans cS.out
                have cRW : W.cell? ⟨w.heap.size + 1, 0, none⟩ = some (.bool false) := (BX.cell (p := ⟨w.heap.size + 1, 0, none⟩) (show w.heap.size + 1 < _ by have := lM.out; omega)).trans cR.out
                have fRW : W.frozen? ⟨w.heap.size + 1, 0, none⟩ = false := (BX.frozen (p := ⟨w.heap.size + 1, 0, none⟩) (show w.heap.size + 1 < _ by have := lM.out; omega)).trans fR.out
                have cIW : W.cell? ⟨H, 0, none⟩ = some (.int .i64 0) := (hB.cell (p := ⟨H, 0, none⟩) (show H < _ by omega)).trans cI.out
                have ck := hb1.cell
                obtain ⟨H2, hH2⟩ : ∃ H2, Hid (W.heap.size = H2) := ⟨_, rfl⟩
                have hD2 : Hid (D1 < H2) := (by rw [← hH2.out]; exact (Array.getElem?_eq_some_iff.1 hKd).1 : D1 < H2)
                have hHJ : Hid (H + 2 ≤ H2) := (by have := hB.size; have := hzK.out; have := hH2.out; omega : H + 2 ≤ H2)
                have bI2 := (Boxed.new W 3 (.int .i64 1)).alloc (.cells #[.int .i64 0] 3)
                have bJ0 := Boxed.new (W.alloc (.cells #[.int .i64 1] 3)) 3 (.int .i64 0)
                rw [World.size_alloc] at bJ0
                have b2 : Below W.heap.size W ((W.alloc (.cells #[.int .i64 1] 3)).alloc (.cells #[.int .i64 0] 3)) := ((Below.refl _ W).alloc (Nat.le_refl _) _).alloc (by simp) _
                have hK2 : Hid (((W.alloc (.cells #[.int .i64 1] 3)).alloc (.cells #[.int .i64 0] 3)).heap[D1]? = some (.deferred (some []))) := (b2.block D1 (Array.getElem?_eq_some_iff.1 hKd).1).trans hKd
                have hzJ : Hid (((W.alloc (.cells #[.int .i64 1] 3)).alloc (.cells #[.int .i64 0] 3)).heap.size = H2 + 2) := (by simp [hH2.out] : ((W.alloc (.cells #[.int .i64 1] 3)).alloc (.cells #[.int .i64 0] 3)).heap.size = H2 + 2)
                have hJ : Hid (Below (H + 1) Wk ((W.alloc (.cells #[.int .i64 1] 3)).alloc (.cells #[.int .i64 0] 3))) := hB.trans (b2.mono (by have := hHJ.out; have := hH2.out; omega))
                rw [hH2.out] at bI2 bJ0
                have cJ : Hid (((W.alloc (.cells #[.int .i64 1] 3)).alloc (.cells #[.int .i64 0] 3)).cell? ⟨H2, 0, none⟩ = some (.int .i64 1)) := bI2.cell
                have bJ : Hid (Boxed ((W.alloc (.cells #[.int .i64 1] 3)).alloc (.cells #[.int .i64 0] 3)) (H2 + 1) 3 (.int .i64 0)) := bJ0
                have svJ : Hid (((W.alloc (.cells #[.int .i64 1] 3)).alloc (.cells #[.int .i64 0] 3)).cell? ⟨Bs, 0, none⟩ = some sv) := (hJ.out.cell (p := ⟨Bs, 0, none⟩) (show Bs < _ by have := lB.out; omega)).trans svK.out
                have inJ : Hid (Ints (· < H2 + 1) ((W.alloc (.cells #[.int .i64 1] 3)).alloc (.cells #[.int .i64 0] 3)) sv [n]) := ints_up inK.out hJ.out (fun b hb => hb) (fun b (hb : b < H + 1) => by have := hHJ.out; omega)
                clear bI2 bJ0 b2 hB hb1 hKd
                gi_wp2_with fail
                rw [roundsIn_succ]
                gi_wp2_with fail
                rw [hH2.out]
                clear cWW cGW cSW cRW fRW cIW ck
                generalize (W.alloc (.cells #[.int .i64 1] 3)).alloc (.cells #[.int .i64 0] 3) = Wj at *
                refine' wpIn_rangeFunc_ownG rfl (by decide) (gf := 47) (lb := #[.pointer (some ⟨Bs, 0, none⟩)]) rfl trivial (enters_of Tryd.func47 (by kernel_rfl) rfl)
                  (values_stops Fence.wide (5 - 1) trivial rfl (by decide) Bs (H2 + 1) sv [n] (by simp) Wj (by have := lB.out; have := hHJ.out; rw [hzJ.out]; omega) (by rw [hzJ.out]; omega) svJ.out inJ.out) belowK_t (belowK_b (by rw [hzJ.out]; omega)) (Below.refl _ _) (fun _ => rfl)
                  (fun pre W => (Boxed W (H2 + 1) 3 (.int .i64 (pre.length : Int)) ∧ pre <+: [n]) ∧ (Below (H2 + 1) Wj W ∧ W.heap[D1]? = some (.deferred (some []))))
                  (fun c pre _ => c = .ret ∧ ¬ pre <+: [n])
                  (OwnFrom.and (Own.from (fun s A B row hs hg hr => ⟨boxed_own _ _ (fun pre : List Nat => .int .i64 (pre.length : Int)) s A B row hs.1 hg hr, hs.2⟩) _) (OwnFrom.and (ownFrom_below (by rw [hzJ.out]; omega) (by rw [hzJ.out]; omega)) (own_blk8 _ _ _ (by have := hD2.out; rw [hzJ.out]; omega))))
                  (fun _ _ _ _ _ hs _ _ => hs)
                  ⟨⟨bJ.out, List.nil_prefix⟩, Below.refl _ _, hK2.out⟩
                  _ ?assign2 ?body2 ?done2 ?stop2
                case assign2 =>
                  intro l x W K hK
                  gi_wp2
                  exact hK
                case body2 =>
                  rintro l pre x W ⟨⟨hb, hp⟩, hB, hKd⟩ hlt
                  obtain rfl : pre = [] := List.eq_nil_of_length_eq_zero (by have h : pre.length < 1 := hlt; omega)
                  have BX : Below (H + 1) Wk W := hJ.out.trans (hB.mono (by have := hHJ.out; omega))
                  have cWW : W.cell? ⟨Bw, 0, none⟩ = some (.slice (some ⟨g, 0, none⟩) 1 lc) := (BX.cell (p := ⟨Bw, 0, none⟩) (show Bw < _ by have := lW.out; omega)).trans cW.out
                  have cGW : W.cell? ⟨g, 0, none⟩ = some (.int .i64 (n : Int)) := (BX.cell (p := ⟨g, 0, none⟩) (show g < _ by have := lG.out; omega)).trans cG.out
                  have cSW : W.cell? ⟨w.heap.size, 0, none⟩ = some (.int .i64 stop) := (BX.cell (p := ⟨w.heap.size, 0, none⟩) (show w.heap.size < _ by have := lM.out; omega)).trans cS.out
                  have cRW : W.cell? ⟨w.heap.size + 1, 0, none⟩ = some (.bool false) := (BX.cell (p := ⟨w.heap.size + 1, 0, none⟩) (show w.heap.size + 1 < _ by have := lM.out; omega)).trans cR.out
                  have fRW : W.frozen? ⟨w.heap.size + 1, 0, none⟩ = false := (BX.frozen (p := ⟨w.heap.size + 1, 0, none⟩) (show w.heap.size + 1 < _ by have := lM.out; omega)).trans fR.out
                  have cIW : W.cell? ⟨H2, 0, none⟩ = some (.int .i64 1) := (hB.cell (p := ⟨H2, 0, none⟩) (show H2 < _ by omega)).trans cJ.out
                  have hb0 : Boxed W (H2 + 1) 3 (.int .i64 0) := hb
                  have ck := hb0.cell
                  have fk := hb0.frozen
                  have hbH : Hid (Boxed W (H2 + 1) 3 (.int .i64 0)) := hb0
                  have hBH : Hid (Below (H2 + 1) Wj W) := hB
                  have hgone : Hid (KeepsFrom Wj.heap.size W (W.setCell ⟨w.heap.size + 1, 0, none⟩ (.bool false))) := (KeepsOthers.setCell W ⟨w.heap.size + 1, 0, none⟩ (.bool false)).from _
                  clear hp hb hb0 hB BX hlt
                  by_cases hx : x = n
                  · subst hx
                    have hb2 : Hid (Boxed (W.setCell ⟨(H2 + 1), 0, none⟩ (.int .i64 1)) (H2 + 1) 3 (.int .i64 1)) := hbH.out.set _
                    have cS2 : (W.setCell ⟨(H2 + 1), 0, none⟩ (.int .i64 1)).cell? ⟨w.heap.size, 0, none⟩ = some (.int .i64 stop) := (World.cell?_setCell_far W ⟨(H2 + 1), 0, none⟩ ⟨w.heap.size, 0, none⟩ _ (show (H2 + 1) ≠ w.heap.size by have := lM.out; have := hHJ.out; omega)).trans cSW
                    have cI2 : (W.setCell ⟨(H2 + 1), 0, none⟩ (.int .i64 1)).cell? ⟨H2, 0, none⟩ = some (.int .i64 1) := (World.cell?_setCell_far W ⟨(H2 + 1), 0, none⟩ ⟨H2, 0, none⟩ _ (show (H2 + 1) ≠ H2 by omega)).trans cIW
                    gi_wp2
                    exact ⟨(KeepsOthers.setCell _ _ _).from _, (Below.refl _ W).setCell (p := ⟨(H2 + 1), 0, none⟩) (Nat.le_refl _) _, ⟨hb2.out, List.prefix_refl _⟩, hBH.out.setCell (p := ⟨(H2 + 1), 0, none⟩) (Nat.le_refl _) _, (KeepsOthers.setCell _ _ _).same D1 _ hKd rfl⟩
                  · have q1 : ((x : Int) == (n : Int)) = false := beq_eq_false_iff_ne.2 (by omega)
                    have q2 : ((x : Int) != (n : Int)) = true := by simp [bne, q1]
                    gi_wp2
                    exact ⟨hgone.out, rfl, fun h => hx (by simpa using h)⟩
                case done2 =>
                  rintro D2 ys W hD2' rfl ⟨⟨hb, hp⟩, hB, hK1⟩ hKd
                  have hb1 : Boxed W (H2 + 1) 3 (.int .i64 1) := hb
                  clear hb hp
                  have BX : Below (H + 1) Wk W := hJ.out.trans (hB.mono (by have := hHJ.out; omega))
                  have cWW : W.cell? ⟨Bw, 0, none⟩ = some (.slice (some ⟨g, 0, none⟩) 1 lc) := (BX.cell (p := ⟨Bw, 0, none⟩) (show Bw < _ by have := lW.out; omega)).trans cW.out
                  have cGW : W.cell? ⟨g, 0, none⟩ = some (.int .i64 (n : Int)) := (BX.cell (p := ⟨g, 0, none⟩) (show g < _ by have := lG.out; omega)).trans cG.out
                  have cSW : W.cell? ⟨w.heap.size, 0, none⟩ = some (.int .i64 stop) := (BX.cell (p := ⟨w.heap.size, 0, none⟩) (show w.heap.size < _ by have := lM.out; omega)).trans cS.out
                  have cRW : W.cell? ⟨w.heap.size + 1, 0, none⟩ = some (.bool false) := (BX.cell (p := ⟨w.heap.size + 1, 0, none⟩) (show w.heap.size + 1 < _ by have := lM.out; omega)).trans cR.out
                  have fRW : W.frozen? ⟨w.heap.size + 1, 0, none⟩ = false := (BX.frozen (p := ⟨w.heap.size + 1, 0, none⟩) (show w.heap.size + 1 < _ by have := lM.out; omega)).trans fR.out
                  have cIW : W.cell? ⟨H2, 0, none⟩ = some (.int .i64 1) := (hB.cell (p := ⟨H2, 0, none⟩) (show H2 < _ by omega)).trans cJ.out
                  have ck := hb1.cell
                  have hs2 := lM.out
                  have cR2 : (W.alloc (.cells #[.int .i64 2] 3)).cell? ⟨w.heap.size + 1, 0, none⟩ = some (.bool false) := (World.cell?_alloc_lt W _ ⟨w.heap.size + 1, 0, none⟩ (World.block_lt_of_cell? W _ cRW)).trans cRW
                  have fR2 : (W.alloc (.cells #[.int .i64 2] 3)).frozen? ⟨w.heap.size + 1, 0, none⟩ = false := (World.frozen?_of_block (Below.heap_alloc W _ (w.heap.size + 1) (World.block_lt_of_cell? W _ cRW))).trans fRW
                  have ba : Below W.heap.size W (W.alloc (.cells #[.int .i64 2] 3)) := (Below.refl _ W).alloc (Nat.le_refl _) _
                  have hK3 : (W.alloc (.cells #[.int .i64 2] 3)).heap[D2]? = some (.deferred (some [])) := (ba.block D2 (Array.getElem?_eq_some_iff.1 hKd).1).trans hKd
                  have hK4 : (W.alloc (.cells #[.int .i64 2] 3)).heap[D1]? = some (.deferred (some [])) := (ba.block D1 (Array.getElem?_eq_some_iff.1 hK1).1).trans hK1
                  have f0 : Below w.heap.size w (W.alloc (.cells #[.int .i64 2] 3)) := below_tr (B0w.out.trans (BX.mono (by omega))) ba
                  clear ba hb1
                  gi_wp2_with fail
                  rw [roundsIn_succ]
                  gi_wp2
                  generalize W.alloc (.cells #[.int .i64 2] 3) = Wa at *
                  have d1 := hD2.out
                  have z1 := hzJ.out
                  have kA := (KeepsOthers.setCell Wa ⟨w.heap.size + 1, 0, none⟩ (.bool true)).same D2 _ hK3 rfl
                  have kB := (KeepsOthers.setCell Wa ⟨w.heap.size + 1, 0, none⟩ (.bool true)).same D1 _ hK4 rfl
                  have kC : ((Wa.setCell ⟨w.heap.size + 1, 0, none⟩ (.bool true)).putObj D2 (.deferred none)).heap[D1]? = some (.deferred (some [])) := (World.putObj_heap_other (by omega)).trans kB
                  refine ⟨by simp, .inl ⟨_, _, rfl, run_takeDeferred kA, ?_⟩⟩
                  refine ⟨by simp, .inl ⟨_, _, rfl, run_takeDeferred kC, ?_⟩⟩
                  have e1 : (Wa.setCell ⟨w.heap.size + 1, 0, none⟩ (.bool true)).cell? ⟨w.heap.size + 1, 0, none⟩ = some (.bool true) := World.cell?_setCell_same' _ _ _ (by rw [cR2]; rfl)
                  have e2 := cell_kept e1 (grownBy_putObj' _ D2 (.deferred none)) (fun r e => by cases e; exact ⟨_, kA, rfl⟩)
                  have e3 := cell_kept e2 (grownBy_putObj' _ D1 (.deferred none)) (fun r e => by cases e; exact ⟨_, kC, rfl⟩)
                  refine ⟨.bool true, ?_, rfl, ?_⟩
                  · simp [results, Tryd.f6, go_sem, e3]
                  · have f2 := f0.setCell (p := ⟨w.heap.size + 1, 0, none⟩) (show w.heap.size ≤ w.heap.size + 1 by omega) (.bool true)
                    have f3 := f2.trans (belowK_b (w := w) (Nat.le_refl _) _ D2 _ (.deferred none) (by have := hHJ.out; omega) kA rfl rfl)
                    exact f3.trans (belowK_b (w := w) (Nat.le_refl _) _ D1 _ (.deferred none) (by have := hzK.out; omega) kC rfl rfl)
                case stop2 =>
                  rintro D2 c pre W _ hpre ⟨_, hno⟩ _
                  exact (hno hpre).elim
              case stop1 =>
                rintro D1 c pre W hD1' hpre hix hKd
                rcases hix with ⟨rfl, hno⟩ | ⟨rfl, hb1, hB⟩
                · exact (hno hpre).elim
                · clear hpre
                  have BX : Below (H + 1) Wk W := hB
                  have cWW : W.cell? ⟨Bw, 0, none⟩ = some (.slice (some ⟨g, 0, none⟩) 1 lc) := (BX.cell (p := ⟨Bw, 0, none⟩) (show Bw < _ by have := lW.out; omega)).trans cW.out
                  have cGW : W.cell? ⟨g, 0, none⟩ = some (.int .i64 (n : Int)) := (BX.cell (p := ⟨g, 0, none⟩) (show g < _ by have := lG.out; omega)).trans cG.out
                  have cSW : W.cell? ⟨w.heap.size, 0, none⟩ = some (.int .i64 stop) := (BX.cell (p := ⟨w.heap.size, 0, none⟩) (show w.heap.size < _ by have := lM.out; omega)).trans cS.out
                  have cRW : W.cell? ⟨w.heap.size + 1, 0, none⟩ = some (.bool false) := (BX.cell (p := ⟨w.heap.size + 1, 0, none⟩) (show w.heap.size + 1 < _ by have := lM.out; omega)).trans cR.out
                  have fRW : W.frozen? ⟨w.heap.size + 1, 0, none⟩ = false := (BX.frozen (p := ⟨w.heap.size + 1, 0, none⟩) (show w.heap.size + 1 < _ by have := lM.out; omega)).trans fR.out
                  have cIW : W.cell? ⟨H, 0, none⟩ = some (.int .i64 0) := (hB.cell (p := ⟨H, 0, none⟩) (show H < _ by omega)).trans cI.out
                  have ck := hb1.cell
                  obtain ⟨H2, hH2⟩ : ∃ H2, Hid (W.heap.size = H2) := ⟨_, rfl⟩
                  have hD2 : Hid (D1 < H2) := (by rw [← hH2.out]; exact (Array.getElem?_eq_some_iff.1 hKd).1 : D1 < H2)
                  have hHJ : Hid (H + 2 ≤ H2) := (by have := hB.size; have := hzK.out; have := hH2.out; omega : H + 2 ≤ H2)
                  have bI2 := (Boxed.new W 3 (.int .i64 1)).alloc (.cells #[.int .i64 0] 3)
                  have bJ0 := Boxed.new (W.alloc (.cells #[.int .i64 1] 3)) 3 (.int .i64 0)
                  rw [World.size_alloc] at bJ0
                  have b2 : Below W.heap.size W ((W.alloc (.cells #[.int .i64 1] 3)).alloc (.cells #[.int .i64 0] 3)) := ((Below.refl _ W).alloc (Nat.le_refl _) _).alloc (by simp) _
                  have hK2 : Hid (((W.alloc (.cells #[.int .i64 1] 3)).alloc (.cells #[.int .i64 0] 3)).heap[D1]? = some (.deferred (some []))) := (b2.block D1 (Array.getElem?_eq_some_iff.1 hKd).1).trans hKd
                  have hzJ : Hid (((W.alloc (.cells #[.int .i64 1] 3)).alloc (.cells #[.int .i64 0] 3)).heap.size = H2 + 2) := (by simp [hH2.out] : ((W.alloc (.cells #[.int .i64 1] 3)).alloc (.cells #[.int .i64 0] 3)).heap.size = H2 + 2)
                  have hJ : Hid (Below (H + 1) Wk ((W.alloc (.cells #[.int .i64 1] 3)).alloc (.cells #[.int .i64 0] 3))) := hB.trans (b2.mono (by have := hHJ.out; have := hH2.out; omega))
                  rw [hH2.out] at bI2 bJ0
                  have cJ : Hid (((W.alloc (.cells #[.int .i64 1] 3)).alloc (.cells #[.int .i64 0] 3)).cell? ⟨H2, 0, none⟩ = some (.int .i64 1)) := bI2.cell
                  have bJ : Hid (Boxed ((W.alloc (.cells #[.int .i64 1] 3)).alloc (.cells #[.int .i64 0] 3)) (H2 + 1) 3 (.int .i64 0)) := bJ0
                  have svJ : Hid (((W.alloc (.cells #[.int .i64 1] 3)).alloc (.cells #[.int .i64 0] 3)).cell? ⟨Bs, 0, none⟩ = some sv) := (hJ.out.cell (p := ⟨Bs, 0, none⟩) (show Bs < _ by have := lB.out; omega)).trans svK.out
                  have inJ : Hid (Ints (· < H2 + 1) ((W.alloc (.cells #[.int .i64 1] 3)).alloc (.cells #[.int .i64 0] 3)) sv [n]) := ints_up inK.out hJ.out (fun b hb => hb) (fun b (hb : b < H + 1) => by have := hHJ.out; omega)
                  clear bI2 bJ0 b2 hB hb1 hKd
                  gi_wp2_with fail
                  rw [roundsIn_succ]
                  gi_wp2_with fail
                  rw [hH2.out]
                  clear cWW cGW cSW cRW fRW cIW ck
                  generalize (W.alloc (.cells #[.int .i64 1] 3)).alloc (.cells #[.int .i64 0] 3) = Wj at *
                  refine' wpIn_rangeFunc_ownG rfl (by decide) (gf := 47) (lb := #[.pointer (some ⟨Bs, 0, none⟩)]) rfl trivial (enters_of Tryd.func47 (by kernel_rfl) rfl)
                    (values_stops Fence.wide (5 - 1) trivial rfl (by decide) Bs (H2 + 1) sv [n] (by simp) Wj (by have := lB.out; have := hHJ.out; rw [hzJ.out]; omega) (by rw [hzJ.out]; omega) svJ.out inJ.out) belowK_t (belowK_b (by rw [hzJ.out]; omega)) (Below.refl _ _) (fun _ => rfl)
                    (fun pre W => (Boxed W (H2 + 1) 3 (.int .i64 (pre.length : Int)) ∧ pre <+: [n]) ∧ (Below (H2 + 1) Wj W ∧ W.heap[D1]? = some (.deferred (some []))))
                    (fun c pre _ => c = .ret ∧ ¬ pre <+: [n])
                    (OwnFrom.and (Own.from (fun s A B row hs hg hr => ⟨boxed_own _ _ (fun pre : List Nat => .int .i64 (pre.length : Int)) s A B row hs.1 hg hr, hs.2⟩) _) (OwnFrom.and (ownFrom_below (by rw [hzJ.out]; omega) (by rw [hzJ.out]; omega)) (own_blk8 _ _ _ (by have := hD2.out; rw [hzJ.out]; omega))))
                    (fun _ _ _ _ _ hs _ _ => hs)
                    ⟨⟨bJ.out, List.nil_prefix⟩, Below.refl _ _, hK2.out⟩
                    _ ?assign2 ?body2 ?done2 ?stop2
                  case assign2 =>
                    intro l x W K hK
                    gi_wp2
                    exact hK
                  case body2 =>
                    rintro l pre x W ⟨⟨hb, hp⟩, hB, hKd⟩ hlt
                    obtain rfl : pre = [] := List.eq_nil_of_length_eq_zero (by have h : pre.length < 1 := hlt; omega)
                    have BX : Below (H + 1) Wk W := hJ.out.trans (hB.mono (by have := hHJ.out; omega))
                    have cWW : W.cell? ⟨Bw, 0, none⟩ = some (.slice (some ⟨g, 0, none⟩) 1 lc) := (BX.cell (p := ⟨Bw, 0, none⟩) (show Bw < _ by have := lW.out; omega)).trans cW.out
                    have cGW : W.cell? ⟨g, 0, none⟩ = some (.int .i64 (n : Int)) := (BX.cell (p := ⟨g, 0, none⟩) (show g < _ by have := lG.out; omega)).trans cG.out
                    have cSW : W.cell? ⟨w.heap.size, 0, none⟩ = some (.int .i64 stop) := (BX.cell (p := ⟨w.heap.size, 0, none⟩) (show w.heap.size < _ by have := lM.out; omega)).trans cS.out
                    have cRW : W.cell? ⟨w.heap.size + 1, 0, none⟩ = some (.bool false) := (BX.cell (p := ⟨w.heap.size + 1, 0, none⟩) (show w.heap.size + 1 < _ by have := lM.out; omega)).trans cR.out
                    have fRW : W.frozen? ⟨w.heap.size + 1, 0, none⟩ = false := (BX.frozen (p := ⟨w.heap.size + 1, 0, none⟩) (show w.heap.size + 1 < _ by have := lM.out; omega)).trans fR.out
                    have cIW : W.cell? ⟨H2, 0, none⟩ = some (.int .i64 1) := (hB.cell (p := ⟨H2, 0, none⟩) (show H2 < _ by omega)).trans cJ.out
                    have hb0 : Boxed W (H2 + 1) 3 (.int .i64 0) := hb
                    have ck := hb0.cell
                    have fk := hb0.frozen
                    have hbH : Hid (Boxed W (H2 + 1) 3 (.int .i64 0)) := hb0
                    have hBH : Hid (Below (H2 + 1) Wj W) := hB
                    have hgone : Hid (KeepsFrom Wj.heap.size W (W.setCell ⟨w.heap.size + 1, 0, none⟩ (.bool false))) := (KeepsOthers.setCell W ⟨w.heap.size + 1, 0, none⟩ (.bool false)).from _
                    clear hp hb hb0 hB BX hlt
                    by_cases hx : x = n
                    · subst hx
                      have hb2 : Hid (Boxed (W.setCell ⟨(H2 + 1), 0, none⟩ (.int .i64 1)) (H2 + 1) 3 (.int .i64 1)) := hbH.out.set _
                      have cS2 : (W.setCell ⟨(H2 + 1), 0, none⟩ (.int .i64 1)).cell? ⟨w.heap.size, 0, none⟩ = some (.int .i64 stop) := (World.cell?_setCell_far W ⟨(H2 + 1), 0, none⟩ ⟨w.heap.size, 0, none⟩ _ (show (H2 + 1) ≠ w.heap.size by have := lM.out; have := hHJ.out; omega)).trans cSW
                      have cI2 : (W.setCell ⟨(H2 + 1), 0, none⟩ (.int .i64 1)).cell? ⟨H2, 0, none⟩ = some (.int .i64 1) := (World.cell?_setCell_far W ⟨(H2 + 1), 0, none⟩ ⟨H2, 0, none⟩ _ (show (H2 + 1) ≠ H2 by omega)).trans cIW
                      gi_wp2
                      exact ⟨(KeepsOthers.setCell _ _ _).from _, (Below.refl _ W).setCell (p := ⟨(H2 + 1), 0, none⟩) (Nat.le_refl _) _, ⟨hb2.out, List.prefix_refl _⟩, hBH.out.setCell (p := ⟨(H2 + 1), 0, none⟩) (Nat.le_refl _) _, (KeepsOthers.setCell _ _ _).same D1 _ hKd rfl⟩
                    · have q1 : ((x : Int) == (n : Int)) = false := beq_eq_false_iff_ne.2 (by omega)
                      have q2 : ((x : Int) != (n : Int)) = true := by simp [bne, q1]
                      gi_wp2
                      exact ⟨hgone.out, rfl, fun h => hx (by simpa using h)⟩
                  case done2 =>
                    rintro D2 ys W hD2' rfl ⟨⟨hb, hp⟩, hB, hK1⟩ hKd
                    have hb1 : Boxed W (H2 + 1) 3 (.int .i64 1) := hb
                    clear hb hp
                    have BX : Below (H + 1) Wk W := hJ.out.trans (hB.mono (by have := hHJ.out; omega))
                    have cWW : W.cell? ⟨Bw, 0, none⟩ = some (.slice (some ⟨g, 0, none⟩) 1 lc) := (BX.cell (p := ⟨Bw, 0, none⟩) (show Bw < _ by have := lW.out; omega)).trans cW.out
                    have cGW : W.cell? ⟨g, 0, none⟩ = some (.int .i64 (n : Int)) := (BX.cell (p := ⟨g, 0, none⟩) (show g < _ by have := lG.out; omega)).trans cG.out
                    have cSW : W.cell? ⟨w.heap.size, 0, none⟩ = some (.int .i64 stop) := (BX.cell (p := ⟨w.heap.size, 0, none⟩) (show w.heap.size < _ by have := lM.out; omega)).trans cS.out
                    have cRW : W.cell? ⟨w.heap.size + 1, 0, none⟩ = some (.bool false) := (BX.cell (p := ⟨w.heap.size + 1, 0, none⟩) (show w.heap.size + 1 < _ by have := lM.out; omega)).trans cR.out
                    have fRW : W.frozen? ⟨w.heap.size + 1, 0, none⟩ = false := (BX.frozen (p := ⟨w.heap.size + 1, 0, none⟩) (show w.heap.size + 1 < _ by have := lM.out; omega)).trans fR.out
                    have cIW : W.cell? ⟨H2, 0, none⟩ = some (.int .i64 1) := (hB.cell (p := ⟨H2, 0, none⟩) (show H2 < _ by omega)).trans cJ.out
                    have ck := hb1.cell
                    have hs2 := lM.out
                    have cR2 : (W.alloc (.cells #[.int .i64 2] 3)).cell? ⟨w.heap.size + 1, 0, none⟩ = some (.bool false) := (World.cell?_alloc_lt W _ ⟨w.heap.size + 1, 0, none⟩ (World.block_lt_of_cell? W _ cRW)).trans cRW
                    have fR2 : (W.alloc (.cells #[.int .i64 2] 3)).frozen? ⟨w.heap.size + 1, 0, none⟩ = false := (World.frozen?_of_block (Below.heap_alloc W _ (w.heap.size + 1) (World.block_lt_of_cell? W _ cRW))).trans fRW
                    have ba : Below W.heap.size W (W.alloc (.cells #[.int .i64 2] 3)) := (Below.refl _ W).alloc (Nat.le_refl _) _
                    have hK3 : (W.alloc (.cells #[.int .i64 2] 3)).heap[D2]? = some (.deferred (some [])) := (ba.block D2 (Array.getElem?_eq_some_iff.1 hKd).1).trans hKd
                    have hK4 : (W.alloc (.cells #[.int .i64 2] 3)).heap[D1]? = some (.deferred (some [])) := (ba.block D1 (Array.getElem?_eq_some_iff.1 hK1).1).trans hK1
                    have f0 : Below w.heap.size w (W.alloc (.cells #[.int .i64 2] 3)) := below_tr (B0w.out.trans (BX.mono (by omega))) ba
                    clear ba hb1
                    gi_wp2_with fail
                    rw [roundsIn_succ]
                    gi_wp2
                    generalize W.alloc (.cells #[.int .i64 2] 3) = Wa at *
                    have d1 := hD2.out
                    have z1 := hzJ.out
                    have kA := (KeepsOthers.setCell Wa ⟨w.heap.size + 1, 0, none⟩ (.bool true)).same D2 _ hK3 rfl
                    have kB := (KeepsOthers.setCell Wa ⟨w.heap.size + 1, 0, none⟩ (.bool true)).same D1 _ hK4 rfl
                    have kC : ((Wa.setCell ⟨w.heap.size + 1, 0, none⟩ (.bool true)).putObj D2 (.deferred none)).heap[D1]? = some (.deferred (some [])) := (World.putObj_heap_other (by omega)).trans kB
                    refine ⟨by simp, .inl ⟨_, _, rfl, run_takeDeferred kA, ?_⟩⟩
                    refine ⟨by simp, .inl ⟨_, _, rfl, run_takeDeferred kC, ?_⟩⟩
                    have e1 : (Wa.setCell ⟨w.heap.size + 1, 0, none⟩ (.bool true)).cell? ⟨w.heap.size + 1, 0, none⟩ = some (.bool true) := World.cell?_setCell_same' _ _ _ (by rw [cR2]; rfl)
                    have e2 := cell_kept e1 (grownBy_putObj' _ D2 (.deferred none)) (fun r e => by cases e; exact ⟨_, kA, rfl⟩)
                    have e3 := cell_kept e2 (grownBy_putObj' _ D1 (.deferred none)) (fun r e => by cases e; exact ⟨_, kC, rfl⟩)
                    refine ⟨.bool true, ?_, rfl, ?_⟩
                    · simp [results, Tryd.f6, go_sem, e3]
                    · have f2 := f0.setCell (p := ⟨w.heap.size + 1, 0, none⟩) (show w.heap.size ≤ w.heap.size + 1 by omega) (.bool true)
                      have f3 := f2.trans (belowK_b (w := w) (Nat.le_refl _) _ D2 _ (.deferred none) (by have := hHJ.out; omega) kA rfl rfl)
                      exact f3.trans (belowK_b (w := w) (Nat.le_refl _) _ D1 _ (.deferred none) (by have := hzK.out; omega) kC rfl rfl)
                  case stop2 =>
                    rintro D2 c pre W _ hpre ⟨_, hno⟩ _
                    exact (hno hpre).elim
theorem tm8_w (z0 : Int) (ao : Option Addr) (L C : Nat) (zs : List Int) (stop : Int) (w : World) (al : List Addr) (he : Errs w al) (hL : zs.length = L) (hLb : L ≤ 17592186043904)
    (hin : zs ≠ [] → ∃ b off, ao = some ⟨b, off, none⟩ ∧ b < w.heap.size ∧ ∀ i, i < zs.length → w.cell? ⟨b, off + i, none⟩ = some (.int .i64 (zs.getD i 0))) :
    Calls Tryd.prog 6 #[.int .i64 z0, .slice ao L C, .int .i64 stop] w fun e w' => e = .returned (.bool true) ∧ Below w.heap.size w w' := callsIn_wide.1 (tm8_in z0 ao L C zs stop w al he hL hLb hin)
end Go.Proofs.YtljopkmpcolgfaaDoor
namespace Go.Proofs.YtljopkmpcolgfaaDoor.tablesMemory
open Go.RowKit
theorem walk (n : Int) (v : Value) (zs : List Int) (d : Int) (w : World) (al : List Addr) (he : Errs w al) (hv : RdZ w v zs) (hl : zs.length ≤ 17592186043904) :
    Calls Tryd.prog 6 #[.int .i64 n, v, .int .i64 d] w fun e w' => e = .returned (.bool true) ∧ Below w.heap.size w w' := by
  obtain ⟨ao, cap, rfl, hin⟩ := hv
  exact tm8_w n ao zs.length cap zs d w al he rfl hl hin
end Go.Proofs.YtljopkmpcolgfaaDoor.tablesMemory
