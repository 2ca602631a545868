/-
  The walk of TablesCounts.
-/
import Derived.Test.YtljopkmpcolgfaaDoorTh8
import Derived.Test.YtljopkmpcolgfaaDoorIlz
import Derived.Test.YtljopkmpcolgfaaDoorLaid
import Derived.Test.YtljopkmpcolgfaaDoorRows
import Derived.Deep.RegionHeld3
import Derived.Deep.AppendLies
namespace Go.Proofs.YtljopkmpcolgfaaDoor
open Flo Go.RowKit Go.Maps Go.MuLone
set_option maxRecDepth 100000 in
set_option maxHeartbeats 32000000 in
theorem tc8_w (ao : Option Addr) (L C : Nat) (zs : List Int) (bo : Option Addr) (M D : Nat) (bs : List Bool) (w : World) (al : List Addr) (he : Errs w al) (hL : zs.length = L) (hLb : L ≤ 17592186043904)
    (hin : zs ≠ [] → ∃ b off, ao = some ⟨b, off, none⟩ ∧ b < w.heap.size ∧ ∀ i, i < zs.length → w.cell? ⟨b, off + i, none⟩ = some (.int .i64 (zs.getD i 0)))
    (hM : bs.length = M) (_hMb : M < 9223372036854775807)
    (hjn : bs ≠ [] → ∃ b off, bo = some ⟨b, off, none⟩ ∧ b < w.heap.size ∧ ∀ i, i < bs.length → w.cell? ⟨b, off + i, none⟩ = some (.bool (bs.getD i false))) :
    Calls Tryd.prog 5 #[.slice ao L C, .slice bo M D] w fun e w' => e = .returned (.bool true) ∧ Below w.heap.size w w' := by
  have he' : Hid (Errs w al) := he
  have hL' : Hid (zs.length = L) := hL
  have hM' : Hid (bs.length = M) := hM
  have hi : Hid (zs ≠ [] → ∃ b off, ao = some ⟨b, off, none⟩ ∧ b < w.heap.size ∧ ∀ i, i < zs.length → w.cell? ⟨b, off + i, none⟩ = some (.int .i64 (zs.getD i 0))) := hin
  have hj : Hid (bs ≠ [] → ∃ b off, bo = some ⟨b, off, none⟩ ∧ b < w.heap.size ∧ ∀ i, i < bs.length → w.cell? ⟨b, off + i, none⟩ = some (.bool (bs.getD i false))) := hjn
  obtain ⟨i0, hi0, hz0, hz1, hz2⟩ := info_parts infoInt
  clear he hL hin hM hjn
  go_enter Tryd.func5, Tryd.ntmps5
  go_wp2_with fail
  refine (fixed8_c _ al he'.out).mono ?_
  rintro e w1 ⟨rfl, B1⟩
  have B1' : Hid (Below w.heap.size w w1) := B1
  clear B1
  go_wp2_with fail
  refine (new_c _).mono ?_
  rintro e w2 ⟨t, bm, rfl, ht0, hbm0, T2, B2⟩
  have ht : w.heap.size ≤ t := Nat.le_trans B1'.out.size ht0
  have hbm : w.heap.size ≤ bm := Nat.le_trans B1'.out.size hbm0
  have T2' : Hid (TB (fun _ => True) w2 t bm [] 0) := T2
  have B2' : Hid (Below w.heap.size w w2) := below_tr B1'.out B2
  clear T2 B2 B1' ht0 hbm0 he'
  go_wp2_with fail
  go_loopw [6, 7, 8, 9, 10, 11, 12, 13, 14, 15, 23] (fun s6 s7 _ _ _ _ _ _ _ _ si wx => ∃ (i made : Nat) (ks th : List Nat) (F : Nat → Prop), i ≤ L ∧ si = .int .i64 (i : Int) ∧ s6 = .int .i64 (made : Int) ∧ made ≤ i ∧ Hid (TB F wx t bm ks made) ∧ Hid (Thr F w.heap.size wx s7 th) ∧ Hid th.Nodup ∧ Hid (∀ x, x ∈ th ↔ x ∈ ks) ∧ Hid (Below w.heap.size w wx)) (fun _ _ _ _ _ _ _ _ _ _ si _ => L - (RowKit.intOf si).toNat)
  case atStart => exact ⟨0, 0, [], [], _, Nat.zero_le _, rfl, rfl, Nat.le_refl _, T2', thr_nil _ _ _, List.nodup_nil, fun _ => Iff.rfl, B2'⟩
  case round =>
    clear T2' B2'
    obtain ⟨i, made, ks, th, F, hiL, rfl, rfl, hmi, T, H, hnd, hmem, B⟩ := hrel
    by_cases hlt : i < L
    · have hlt' : (i : Int) < (L : Int) := by omega
      obtain ⟨b, off, rfl, hbl, hcell⟩ := hi.out (fun e => by have := hL'.out; rw [e] at this; simp at this; omega)
      have cz0 : wr.cell? ⟨b, off + i, none⟩ = some (.int .i64 (zs.getD i 0)) := (B.out.cell (p := ⟨b, off + i, none⟩) hbl).trans (hcell i (by have := hL'.out; omega))
      clear hcell
      obtain ⟨z, hz⟩ : ∃ z, Hid (zs.getD i 0 = z) := ⟨_, rfl⟩
      rw [hz.out] at cz0
      obtain ⟨n, n1, n2, hn⟩ := n200 z
      have hn' : Hid (wrap64 (1 + wrap64 ((IntKind.u64.wrap z).tmod 200)) = (n : Int)) := hn
      obtain ⟨to, cap, e7, hth⟩ := thr_cells H.out
      obtain ⟨m, hm⟩ : ∃ m, Hid (th.length = m) := ⟨_, rfl⟩
      rw [hm.out] at e7
      subst e7
      have hth' : Hid (th ≠ [] → ∃ g, to = some ⟨g, 0, none⟩ ∧ ∀ j, j < th.length → wr.cell? ⟨g, j, none⟩ = some (.int .i64 ((th.getD j 0 : Nat) : Int))) := hth
      have hml : m ≤ 16384 := by rw [← hm.out, same_len hnd.out T.out.srt hmem.out]; exact T.out.few
      clear hn hth
      go_upto_region 13 with fail
      rw [hn'.out]
      go_wp2_with fail
      go_loopw [10, 11, 12, 35] (fun sa _ _ sj wx => ∃ j : Nat, j ≤ m ∧ sj = .int .i64 (j : Int) ∧ sa = .int .i64 (fnd th n j) ∧ wx = wr) (fun _ _ _ sj _ => m - (RowKit.intOf sj).toNat)
      case atStart => exact ⟨0, Nat.zero_le _, rfl, rfl, rfl⟩
      case round =>
        obtain ⟨j, hjm, rfl, rfl, rfl⟩ := hrel
        by_cases hjl : j < m
        · have hjl' : (j : Int) < (m : Int) := by omega
          obtain ⟨g, rfl, hcg⟩ := hth'.out (fun e => by have := hm.out; rw [e] at this; simp at this; omega)
          have cg := hcg j (by rw [hm.out]; exact hjl)
          clear hcg
          have fl := fnd_lt th n j
          by_cases hq : th.getD j 0 = n
          · have hf : Hid ((j : Int) = fnd th n (j + 1)) := fnd_hit hq
            rw [hq] at cg
            clear hq
            go_wp2_with fail
            go_roundw
            case rel => exact ⟨j + 1, by omega, by go_num, by rw [← hf.out], by first | rfl | trivial⟩
            case measure => simp [RowKit.intOf]; omega
          · have hf : Hid (fnd th n j = fnd th n (j + 1)) := fnd_miss hq
            have q1 : (((th.getD j 0 : Nat) : Int) == (n : Int)) = false := beq_eq_false_iff_ne.2 (by omega)
            clear hq
            generalize th.getD j 0 = x at *
            generalize fnd th n j = fj at *
            go_wp2_with fail
            go_roundw
            case rel => exact ⟨j + 1, by omega, by go_num, by rw [← hf.out], by first | rfl | trivial⟩
            case measure => simp [RowKit.intOf]; omega
        · have hjl' : decide ((j : Int) < (m : Int)) = false := decide_eq_false (by omega)
          obtain rfl : j = m := by omega
          clear hjm hjl hz hn' cz0
          by_cases hdm : i < M
          · have hdm' : (i : Int) < (M : Int) := by omega
            obtain ⟨b2, o2, rfl, hb2, hc2⟩ := hj.out (fun e => by have := hM'.out; rw [e] at this; simp at this; omega)
            have cb : wr.cell? ⟨b2, o2 + i, none⟩ = some (.bool (bs.getD i false)) := (B.out.cell (p := ⟨b2, o2 + i, none⟩) hb2).trans (hc2 i (by have := hM'.out; omega))
            clear hc2
            cases hbv : bs.getD i false
            · rw [hbv] at cb
              clear hbv
              by_cases hin : n ∈ th
              · obtain ⟨k, hk, hfk, hgk⟩ := fnd_in hin
                rw [hm.out] at hfk hk
                rw [hfk]
                have hks : n ∈ ks := (hmem.out n).1 hin
                have hI : Hid (ins n ks = ks) := ins_in T.out.srt hks
                have hN : Hid (nm n ks made = made) := nm_in hks
                have hks' : Hid (n ∈ ks) := hks
                have T4' : Hid (TB F wr t bm ks made) := T
                have H4 : Hid (Thr F w.heap.size wr (.slice to j cap) th) := H
                have B4' : Hid (Below w.heap.size w wr) := B
                have k0 : decide ((k : Int) < 0) = false := decide_eq_false (by omega)
                clear hfk hgk hin hth' hks T H B hk
                by_cases hev : i % 2 = 0
                · have m1 : ((i : Int) % 2 == 0) = true := by rw [beq_iff_eq]; omega
                  clear hev
                  go_wp2_with fail
                  refine (at_c T4'.out n (i : Int) n1 (by omega) (by omega) (.inl hks'.out)).mono ?_
                  rw [hI.out, hN.out]
                  rintro e w5 ⟨rfl, T5, F5⟩
                  have T5' : Hid (TB (F) w5 t bm (ks) (made)) := T5
                  have H5 : Hid (Thr (F) w.heap.size w5 (.slice to j cap) (th)) := H4.out.fr T4'.out F5
                  have B5' : Hid (Below w.heap.size w w5) := fr_below F5 B4'.out ht hbm B4'.out.size
                  clear T5 F5 T4' H4 B4'
                  have hkj : Hid ((ks).length = j) := ((same_len hnd.out T5'.out.srt hmem.out).symm.trans hm.out : (ks).length = j)
                  have jl : j ≤ 16384 := by rw [← hkj.out]; exact T5'.out.few
                  go_wp2_with fail
                  refine (sizes_c T5'.out).mono ?_
                  rintro e w6 ⟨v, rfl, o6, T6, F6⟩
                  rw [hkj.out] at o6
                  obtain ⟨lo, lc, rfl⟩ := owns_slice o6
                  have T6' : Hid (TB (F) w6 t bm (ks) (made)) := T6
                  have H6 : Hid (Thr (F) w.heap.size w6 (.slice to j cap) (th)) := H5.out.fr T5'.out F6
                  have B6 : Hid (Below w.heap.size w w6) := fr_below F6 B5'.out ht hbm B5'.out.size
                  have s1 : Hid (t < w5.heap.size) := T5'.out.lt
                  have s2 : Hid (bm < w5.heap.size) := T5'.out.blt
                  have o6' : Hid (w6.ownsRow w5.heap.size 3 1 (.slice lo j lc) j (il (ks))) := o6
                  clear T6 F6 o6 T5' H5 B5'
                  go_wp2_with fail
                  refine (made_c T6'.out).mono ?_
                  rintro e w7 ⟨rfl, T7, F7⟩
                  have T7' : Hid (TB (F) w7 t bm (ks) (made)) := T7
                  have H7 : Hid (Thr (F) w.heap.size w7 (.slice to j cap) (th)) := H6.out.fr T6'.out F7
                  have B7 : Hid (Below w.heap.size w w7) := fr_below F7 B6.out ht hbm B6.out.size
                  have o7 : Hid (w7.ownsRow w5.heap.size 3 1 (.slice lo j lc) j (il (ks))) := F7.owns o6'.out (fun b hb hs => by have := (o6'.out.lt b hb).1; have := s1.out; have := s2.out; rcases hs with e | e <;> omega)
                  clear T7 F7 T6' H6 B6 o6'
                  go_wp2_with fail
                  go_loopw [15, 119] (fun _ sq wx => ∃ q d : Nat, q ≤ j ∧ sq = .int .i64 (q : Int) ∧ wx = w7.drewN d) (fun _ sq _ => j - (RowKit.intOf sq).toNat)
                  case atStart => exact ⟨0, 0, Nat.zero_le _, rfl, rfl⟩
                  case round =>
                    obtain ⟨q, d, hqj, rfl, rfl⟩ := hrel
                    by_cases hql : q < j
                    · have hql' : (q : Int) < (j : Int) := by omega
                      by_cases hq0 : q = 0
                      · subst hq0
                        generalize hwx : w7.drewN d = wx
                        have hw : Hid (w7.drewN d = wx) := hwx
                        clear hwx
                        go_wp2_with fail
                        go_quiet (fail)
                        go_wp2_with fail
                        go_roundw
                        case rel => exact ⟨0 + 1, d + nq, by omega, by go_num, by rw [← hw.out, World.drewN_drewN]⟩
                        case measure => simp [RowKit.intOf]; omega
                      · have hq1 : (0 : Int) < (q : Int) := by omega
                        have hq2 : 0 < q := by omega
                        have hq3 : decide ((q : Int) > 0) = true := decide_eq_true hq1
                        obtain ⟨p1, hp1⟩ : ∃ p1, Hid (q = p1 + 1) := ⟨q - 1, (by omega : q = q - 1 + 1)⟩
                        have hp2 : (q : Int) - 1 = (p1 : Int) := by have := hp1.out; omega
                        have hp3 : p1 < j := by have := hp1.out; omega
                        have hp3' : (p1 : Int) < (j : Int) := by omega
                        have hp4 : (0 : Int) ≤ (p1 : Int) := by omega
                        have hp5 := wrap_small p1 (by omega)
                        obtain ⟨lb, rfl, hlc⟩ := row_cells o7.out (by omega) hkj.out
                        have c1 : (w7.drewN d).cell? ⟨lb, q, none⟩ = some (.int .i64 (((ks).getD q 0 : Nat) : Int)) := hlc q hql
                        have c2 : (w7.drewN d).cell? ⟨lb, p1, none⟩ = some (.int .i64 (((ks).getD p1 0 : Nat) : Int)) := hlc p1 hp3
                        have hrise : ¬ ((ks).getD q 0 ≤ (ks).getD p1 0) := by
                          have := srt_at T7'.out.srt (i := p1) (j := q) (by have := hp1.out; omega) (by rw [hkj.out]; exact hql)
                          omega
                        clear hlc
                        generalize (ks).getD q 0 = x1 at *
                        generalize (ks).getD p1 0 = x2 at *
                        have hle : decide ((x1 : Int) ≤ (x2 : Int)) = false := decide_eq_false (by omega)
                        generalize hwx : w7.drewN d = wx at c1 c2 ⊢
                        have hw : Hid (w7.drewN d = wx) := hwx
                        clear hwx
                        go_wp2_with fail
                        go_quiet (fail)
                        go_wp2_with fail
                        go_roundw
                        case rel => exact ⟨q + 1, d + nq, by omega, by go_num, by rw [← hw.out, World.drewN_drewN]⟩
                        case measure => simp [RowKit.intOf]; omega
                    · have hql' : decide ((q : Int) < (j : Int)) = false := decide_eq_false (by omega)
                      have bD : Below w7.heap.size w7 (w7.drewN d) := below_drewN (Below.refl _ _) d
                      have T8 : Hid (TB (F) (w7.drewN d) t bm (ks) (made)) := T7'.out.below bD
                      have H8 : Hid (Thr (F) w.heap.size (w7.drewN d) (.slice to j cap) (th)) := H7.out.below bD
                      have B8 : Hid (Below w.heap.size w (w7.drewN d)) := below_drewN B7.out d
                      clear bD
                      go_wp2_with fail
                      go_roundw
                      case rel => exact ⟨i + 1, made, ks, th, _, by omega, by go_num, rfl, by omega, T8, H8, hnd, hmem, B8⟩
                      case measure => simp [RowKit.intOf]; omega
                · have m1 : ((i : Int) % 2 == 0) = false := beq_eq_false_iff_ne.2 (by omega)
                  clear hev
                  go_wp2_with fail
                  refine (list_t T4'.out n n1 (by omega) (by omega) (.inl hks'.out)).mono ?_
                  rw [hI.out, hN.out]
                  rintro e w5 ⟨wm, G, C5, rfl, Tm, Fm, Bm, hG, o5⟩
                  have T5' : Hid (TB (F) w5 t bm (ks) (made)) := Tm.below Bm
                  have H5 : Hid (Thr (F) w.heap.size w5 (.slice to j cap) (th)) := (H4.out.fr T4'.out Fm).below Bm
                  have B5' : Hid (Below w.heap.size w w5) := below_tr (fr_below Fm B4'.out ht hbm B4'.out.size) Bm
                  clear Tm Fm Bm hG o5 T4' H4 B4'
                  have hkj : Hid ((ks).length = j) := ((same_len hnd.out T5'.out.srt hmem.out).symm.trans hm.out : (ks).length = j)
                  have jl : j ≤ 16384 := by rw [← hkj.out]; exact T5'.out.few
                  go_wp2_with fail
                  refine (sizes_c T5'.out).mono ?_
                  rintro e w6 ⟨v, rfl, o6, T6, F6⟩
                  rw [hkj.out] at o6
                  obtain ⟨lo, lc, rfl⟩ := owns_slice o6
                  have T6' : Hid (TB (F) w6 t bm (ks) (made)) := T6
                  have H6 : Hid (Thr (F) w.heap.size w6 (.slice to j cap) (th)) := H5.out.fr T5'.out F6
                  have B6 : Hid (Below w.heap.size w w6) := fr_below F6 B5'.out ht hbm B5'.out.size
                  have s1 : Hid (t < w5.heap.size) := T5'.out.lt
                  have s2 : Hid (bm < w5.heap.size) := T5'.out.blt
                  have o6' : Hid (w6.ownsRow w5.heap.size 3 1 (.slice lo j lc) j (il (ks))) := o6
                  clear T6 F6 o6 T5' H5 B5'
                  go_wp2_with fail
                  refine (made_c T6'.out).mono ?_
                  rintro e w7 ⟨rfl, T7, F7⟩
                  have T7' : Hid (TB (F) w7 t bm (ks) (made)) := T7
                  have H7 : Hid (Thr (F) w.heap.size w7 (.slice to j cap) (th)) := H6.out.fr T6'.out F7
                  have B7 : Hid (Below w.heap.size w w7) := fr_below F7 B6.out ht hbm B6.out.size
                  have o7 : Hid (w7.ownsRow w5.heap.size 3 1 (.slice lo j lc) j (il (ks))) := F7.owns o6'.out (fun b hb hs => by have := (o6'.out.lt b hb).1; have := s1.out; have := s2.out; rcases hs with e | e <;> omega)
                  clear T7 F7 T6' H6 B6 o6'
                  go_wp2_with fail
                  go_loopw [15, 119] (fun _ sq wx => ∃ q d : Nat, q ≤ j ∧ sq = .int .i64 (q : Int) ∧ wx = w7.drewN d) (fun _ sq _ => j - (RowKit.intOf sq).toNat)
                  case atStart => exact ⟨0, 0, Nat.zero_le _, rfl, rfl⟩
                  case round =>
                    obtain ⟨q, d, hqj, rfl, rfl⟩ := hrel
                    by_cases hql : q < j
                    · have hql' : (q : Int) < (j : Int) := by omega
                      by_cases hq0 : q = 0
                      · subst hq0
                        generalize hwx : w7.drewN d = wx
                        have hw : Hid (w7.drewN d = wx) := hwx
                        clear hwx
                        go_wp2_with fail
                        go_quiet (fail)
                        go_wp2_with fail
                        go_roundw
                        case rel => exact ⟨0 + 1, d + nq, by omega, by go_num, by rw [← hw.out, World.drewN_drewN]⟩
                        case measure => simp [RowKit.intOf]; omega
                      · have hq1 : (0 : Int) < (q : Int) := by omega
                        have hq2 : 0 < q := by omega
                        have hq3 : decide ((q : Int) > 0) = true := decide_eq_true hq1
                        obtain ⟨p1, hp1⟩ : ∃ p1, Hid (q = p1 + 1) := ⟨q - 1, (by omega : q = q - 1 + 1)⟩
                        have hp2 : (q : Int) - 1 = (p1 : Int) := by have := hp1.out; omega
                        have hp3 : p1 < j := by have := hp1.out; omega
                        have hp3' : (p1 : Int) < (j : Int) := by omega
                        have hp4 : (0 : Int) ≤ (p1 : Int) := by omega
                        have hp5 := wrap_small p1 (by omega)
                        obtain ⟨lb, rfl, hlc⟩ := row_cells o7.out (by omega) hkj.out
                        have c1 : (w7.drewN d).cell? ⟨lb, q, none⟩ = some (.int .i64 (((ks).getD q 0 : Nat) : Int)) := hlc q hql
                        have c2 : (w7.drewN d).cell? ⟨lb, p1, none⟩ = some (.int .i64 (((ks).getD p1 0 : Nat) : Int)) := hlc p1 hp3
                        have hrise : ¬ ((ks).getD q 0 ≤ (ks).getD p1 0) := by
                          have := srt_at T7'.out.srt (i := p1) (j := q) (by have := hp1.out; omega) (by rw [hkj.out]; exact hql)
                          omega
                        clear hlc
                        generalize (ks).getD q 0 = x1 at *
                        generalize (ks).getD p1 0 = x2 at *
                        have hle : decide ((x1 : Int) ≤ (x2 : Int)) = false := decide_eq_false (by omega)
                        generalize hwx : w7.drewN d = wx at c1 c2 ⊢
                        have hw : Hid (w7.drewN d = wx) := hwx
                        clear hwx
                        go_wp2_with fail
                        go_quiet (fail)
                        go_wp2_with fail
                        go_roundw
                        case rel => exact ⟨q + 1, d + nq, by omega, by go_num, by rw [← hw.out, World.drewN_drewN]⟩
                        case measure => simp [RowKit.intOf]; omega
                    · have hql' : decide ((q : Int) < (j : Int)) = false := decide_eq_false (by omega)
                      have bD : Below w7.heap.size w7 (w7.drewN d) := below_drewN (Below.refl _ _) d
                      have T8 : Hid (TB (F) (w7.drewN d) t bm (ks) (made)) := T7'.out.below bD
                      have H8 : Hid (Thr (F) w.heap.size (w7.drewN d) (.slice to j cap) (th)) := H7.out.below bD
                      have B8 : Hid (Below w.heap.size w (w7.drewN d)) := below_drewN B7.out d
                      clear bD
                      go_wp2_with fail
                      go_roundw
                      case rel => exact ⟨i + 1, made, ks, th, _, by omega, by go_num, rfl, by omega, T8, H8, hnd, hmem, B8⟩
                      case measure => simp [RowKit.intOf]; omega
              · rw [fnd_out hin j (by rw [hm.out]; exact Nat.le_refl _)]
                have hks : n ∉ ks := fun e => hin ((hmem.out n).2 e)
                obtain ⟨m5, hm5⟩ : ∃ m5, Hid (made + 1 = m5) := ⟨_, rfl⟩
                have qm : (made : Int) + 1 = (m5 : Int) := by have := hm5.out; omega
                have mb : m5 ≤ i + 1 := by have := hm5.out; omega
                have hN : Hid (nm n ks made = m5) := ((nm_out hks).trans hm5.out : nm n ks made = m5)
                have hnd5 : Hid ((th ++ [n]).Nodup) := (List.nodup_append.2 ⟨hnd.out, by simp, fun a ha b hb => by simp at hb; subst hb; exact fun e => hin (e ▸ ha)⟩ : (th ++ [n]).Nodup)
                have hmem5 : Hid (∀ x, x ∈ th ++ [n] ↔ x ∈ ins n ks) := (fun x => by rw [List.mem_append, mem_ins, hmem.out x]; simp; exact or_comm : ∀ x, x ∈ th ++ [n] ↔ x ∈ ins n ks)
                have hml' : Hid (th.length ≤ 16384) := (by rw [hm.out]; exact hml : th.length ≤ 16384)
                have Hown := H.out.own
                rw [hm.out] at Hown
                have hsz := B.out.size
                clear hin hth' hks hnd hmem
                go_wp2_with (at_builtin; refine wpList_append_own_at _ rfl _ _ 28 rfl w.heap.size 3 i0 (.int .i64 0) 1 8 Tryd.underlying28 hi0 hz0 hz1 hz2 rfl (by decide) _ _ _ rfl (Hown.alloc _) ⟨wr.heap.size, 0, none⟩ 1 1 [.int .i64 (n : Int)] rfl rfl (cell_one_new _ _ _) (by simp [Value.oneCell']) (by unfold maxLen; omega) (by omega) (by simp; omega) ?_)
                intro v' w4 hown' hgrow _ hat
                rw [← hm.out] at hown'
                obtain ⟨T4, H4a, B4⟩ := thr_push T.out H.out hown' hgrow hat B.out hsz
                have T4' : Hid (TB (fun k => (F k ∧ k < wr.heap.size) ∨ w4.heap.size ≤ k) w4 t bm ks made) := T4.wide
                have B4' : Hid (Below w.heap.size w w4) := B4
                obtain ⟨to5, cap5, e5, _⟩ := thr_cells H4a
                obtain ⟨j5, hm6⟩ : ∃ j5, Hid ((th ++ [n]).length = j5) := ⟨_, rfl⟩
                rw [hm6.out] at e5
                subst e5
                have H4 : Hid (Thr (fun k => (F k ∧ k < wr.heap.size) ∨ w4.heap.size ≤ k) w.heap.size w4 (.slice to5 j5 cap5) (th ++ [n])) := H4a.wide
                clear T4 H4a B4 hown' hgrow hat T H B Hown hsz
                by_cases hev : i % 2 = 0
                · have m1 : ((i : Int) % 2 == 0) = true := by rw [beq_iff_eq]; omega
                  clear hev
                  go_wp2_with fail
                  refine (at_c T4'.out n (i : Int) n1 (by omega) (by omega) (.inr fun k hk => .inr hk)).mono ?_
                  rw [hN.out]
                  rintro e w5 ⟨rfl, T5, F5⟩
                  have T5' : Hid (TB (fun k => (F k ∧ k < wr.heap.size) ∨ w4.heap.size ≤ k) w5 t bm (ins n ks) (m5)) := T5
                  have H5 : Hid (Thr (fun k => (F k ∧ k < wr.heap.size) ∨ w4.heap.size ≤ k) w.heap.size w5 (.slice to5 j5 cap5) (th ++ [n])) := H4.out.fr T4'.out F5
                  have B5' : Hid (Below w.heap.size w w5) := fr_below F5 B4'.out ht hbm B4'.out.size
                  clear T5 F5 T4' H4 B4'
                  have hkj : Hid ((ins n ks).length = j5) := ((same_len hnd5.out T5'.out.srt hmem5.out).symm.trans hm6.out : (ins n ks).length = j5)
                  have jl : j5 ≤ 16384 := by rw [← hkj.out]; exact T5'.out.few
                  go_wp2_with fail
                  refine (sizes_c T5'.out).mono ?_
                  rintro e w6 ⟨v, rfl, o6, T6, F6⟩
                  rw [hkj.out] at o6
                  obtain ⟨lo, lc, rfl⟩ := owns_slice o6
                  have T6' : Hid (TB (fun k => (F k ∧ k < wr.heap.size) ∨ w4.heap.size ≤ k) w6 t bm (ins n ks) (m5)) := T6
                  have H6 : Hid (Thr (fun k => (F k ∧ k < wr.heap.size) ∨ w4.heap.size ≤ k) w.heap.size w6 (.slice to5 j5 cap5) (th ++ [n])) := H5.out.fr T5'.out F6
                  have B6 : Hid (Below w.heap.size w w6) := fr_below F6 B5'.out ht hbm B5'.out.size
                  have s1 : Hid (t < w5.heap.size) := T5'.out.lt
                  have s2 : Hid (bm < w5.heap.size) := T5'.out.blt
                  have o6' : Hid (w6.ownsRow w5.heap.size 3 1 (.slice lo j5 lc) j5 (il (ins n ks))) := o6
                  clear T6 F6 o6 T5' H5 B5'
                  go_wp2_with fail
                  refine (made_c T6'.out).mono ?_
                  rintro e w7 ⟨rfl, T7, F7⟩
                  have T7' : Hid (TB (fun k => (F k ∧ k < wr.heap.size) ∨ w4.heap.size ≤ k) w7 t bm (ins n ks) (m5)) := T7
                  have H7 : Hid (Thr (fun k => (F k ∧ k < wr.heap.size) ∨ w4.heap.size ≤ k) w.heap.size w7 (.slice to5 j5 cap5) (th ++ [n])) := H6.out.fr T6'.out F7
                  have B7 : Hid (Below w.heap.size w w7) := fr_below F7 B6.out ht hbm B6.out.size
                  have o7 : Hid (w7.ownsRow w5.heap.size 3 1 (.slice lo j5 lc) j5 (il (ins n ks))) := F7.owns o6'.out (fun b hb hs => by have := (o6'.out.lt b hb).1; have := s1.out; have := s2.out; rcases hs with e | e <;> omega)
                  clear T7 F7 T6' H6 B6 o6'
                  go_wp2_with fail
                  go_loopw [15, 119] (fun _ sq wx => ∃ q d : Nat, q ≤ j5 ∧ sq = .int .i64 (q : Int) ∧ wx = w7.drewN d) (fun _ sq _ => j5 - (RowKit.intOf sq).toNat)
                  case atStart => exact ⟨0, 0, Nat.zero_le _, rfl, rfl⟩
                  case round =>
                    obtain ⟨q, d, hqj, rfl, rfl⟩ := hrel
                    by_cases hql : q < j5
                    · have hql' : (q : Int) < (j5 : Int) := by omega
                      by_cases hq0 : q = 0
                      · subst hq0
                        generalize hwx : w7.drewN d = wx
                        have hw : Hid (w7.drewN d = wx) := hwx
                        clear hwx
                        go_wp2_with fail
                        go_quiet (fail)
                        go_wp2_with fail
                        go_roundw
                        case rel => exact ⟨0 + 1, d + nq, by omega, by go_num, by rw [← hw.out, World.drewN_drewN]⟩
                        case measure => simp [RowKit.intOf]; omega
                      · have hq1 : (0 : Int) < (q : Int) := by omega
                        have hq2 : 0 < q := by omega
                        have hq3 : decide ((q : Int) > 0) = true := decide_eq_true hq1
                        obtain ⟨p1, hp1⟩ : ∃ p1, Hid (q = p1 + 1) := ⟨q - 1, (by omega : q = q - 1 + 1)⟩
                        have hp2 : (q : Int) - 1 = (p1 : Int) := by have := hp1.out; omega
                        have hp3 : p1 < j5 := by have := hp1.out; omega
                        have hp3' : (p1 : Int) < (j5 : Int) := by omega
                        have hp4 : (0 : Int) ≤ (p1 : Int) := by omega
                        have hp5 := wrap_small p1 (by omega)
                        obtain ⟨lb, rfl, hlc⟩ := row_cells o7.out (by omega) hkj.out
                        have c1 : (w7.drewN d).cell? ⟨lb, q, none⟩ = some (.int .i64 (((ins n ks).getD q 0 : Nat) : Int)) := hlc q hql
                        have c2 : (w7.drewN d).cell? ⟨lb, p1, none⟩ = some (.int .i64 (((ins n ks).getD p1 0 : Nat) : Int)) := hlc p1 hp3
                        have hrise : ¬ ((ins n ks).getD q 0 ≤ (ins n ks).getD p1 0) := by
                          have := srt_at T7'.out.srt (i := p1) (j := q) (by have := hp1.out; omega) (by rw [hkj.out]; exact hql)
                          omega
                        clear hlc
                        generalize (ins n ks).getD q 0 = x1 at *
                        generalize (ins n ks).getD p1 0 = x2 at *
                        have hle : decide ((x1 : Int) ≤ (x2 : Int)) = false := decide_eq_false (by omega)
                        generalize hwx : w7.drewN d = wx at c1 c2 ⊢
                        have hw : Hid (w7.drewN d = wx) := hwx
                        clear hwx
                        go_wp2_with fail
                        go_quiet (fail)
                        go_wp2_with fail
                        go_roundw
                        case rel => exact ⟨q + 1, d + nq, by omega, by go_num, by rw [← hw.out, World.drewN_drewN]⟩
                        case measure => simp [RowKit.intOf]; omega
                    · have hql' : decide ((q : Int) < (j5 : Int)) = false := decide_eq_false (by omega)
                      have bD : Below w7.heap.size w7 (w7.drewN d) := below_drewN (Below.refl _ _) d
                      have T8 : Hid (TB (fun k => (F k ∧ k < wr.heap.size) ∨ w4.heap.size ≤ k) (w7.drewN d) t bm (ins n ks) (m5)) := T7'.out.below bD
                      have H8 : Hid (Thr (fun k => (F k ∧ k < wr.heap.size) ∨ w4.heap.size ≤ k) w.heap.size (w7.drewN d) (.slice to5 j5 cap5) (th ++ [n])) := H7.out.below bD
                      have B8 : Hid (Below w.heap.size w (w7.drewN d)) := below_drewN B7.out d
                      clear bD
                      go_wp2_with fail
                      go_roundw
                      case rel => exact ⟨i + 1, m5, ins n ks, th ++ [n], _, by omega, by go_num, rfl, by omega, T8, H8, hnd5, hmem5, B8⟩
                      case measure => simp [RowKit.intOf]; omega
                · have m1 : ((i : Int) % 2 == 0) = false := beq_eq_false_iff_ne.2 (by omega)
                  clear hev
                  go_wp2_with fail
                  refine (list_t T4'.out n n1 (by omega) (by omega) (.inr fun k hk => .inr hk)).mono ?_
                  rw [hN.out]
                  rintro e w5 ⟨wm, G, C5, rfl, Tm, Fm, Bm, hG, o5⟩
                  have T5' : Hid (TB (fun k => (F k ∧ k < wr.heap.size) ∨ w4.heap.size ≤ k) w5 t bm (ins n ks) (m5)) := Tm.below Bm
                  have H5 : Hid (Thr (fun k => (F k ∧ k < wr.heap.size) ∨ w4.heap.size ≤ k) w.heap.size w5 (.slice to5 j5 cap5) (th ++ [n])) := (H4.out.fr T4'.out Fm).below Bm
                  have B5' : Hid (Below w.heap.size w w5) := below_tr (fr_below Fm B4'.out ht hbm B4'.out.size) Bm
                  clear Tm Fm Bm hG o5 T4' H4 B4'
                  have hkj : Hid ((ins n ks).length = j5) := ((same_len hnd5.out T5'.out.srt hmem5.out).symm.trans hm6.out : (ins n ks).length = j5)
                  have jl : j5 ≤ 16384 := by rw [← hkj.out]; exact T5'.out.few
                  go_wp2_with fail
                  refine (sizes_c T5'.out).mono ?_
                  rintro e w6 ⟨v, rfl, o6, T6, F6⟩
                  rw [hkj.out] at o6
                  obtain ⟨lo, lc, rfl⟩ := owns_slice o6
                  have T6' : Hid (TB (fun k => (F k ∧ k < wr.heap.size) ∨ w4.heap.size ≤ k) w6 t bm (ins n ks) (m5)) := T6
                  have H6 : Hid (Thr (fun k => (F k ∧ k < wr.heap.size) ∨ w4.heap.size ≤ k) w.heap.size w6 (.slice to5 j5 cap5) (th ++ [n])) := H5.out.fr T5'.out F6
                  have B6 : Hid (Below w.heap.size w w6) := fr_below F6 B5'.out ht hbm B5'.out.size
                  have s1 : Hid (t < w5.heap.size) := T5'.out.lt
                  have s2 : Hid (bm < w5.heap.size) := T5'.out.blt
                  have o6' : Hid (w6.ownsRow w5.heap.size 3 1 (.slice lo j5 lc) j5 (il (ins n ks))) := o6
                  clear T6 F6 o6 T5' H5 B5'
                  go_wp2_with fail
                  refine (made_c T6'.out).mono ?_
                  rintro e w7 ⟨rfl, T7, F7⟩
                  have T7' : Hid (TB (fun k => (F k ∧ k < wr.heap.size) ∨ w4.heap.size ≤ k) w7 t bm (ins n ks) (m5)) := T7
                  have H7 : Hid (Thr (fun k => (F k ∧ k < wr.heap.size) ∨ w4.heap.size ≤ k) w.heap.size w7 (.slice to5 j5 cap5) (th ++ [n])) := H6.out.fr T6'.out F7
                  have B7 : Hid (Below w.heap.size w w7) := fr_below F7 B6.out ht hbm B6.out.size
                  have o7 : Hid (w7.ownsRow w5.heap.size 3 1 (.slice lo j5 lc) j5 (il (ins n ks))) := F7.owns o6'.out (fun b hb hs => by have := (o6'.out.lt b hb).1; have := s1.out; have := s2.out; rcases hs with e | e <;> omega)
                  clear T7 F7 T6' H6 B6 o6'
                  go_wp2_with fail
                  go_loopw [15, 119] (fun _ sq wx => ∃ q d : Nat, q ≤ j5 ∧ sq = .int .i64 (q : Int) ∧ wx = w7.drewN d) (fun _ sq _ => j5 - (RowKit.intOf sq).toNat)
                  case atStart => exact ⟨0, 0, Nat.zero_le _, rfl, rfl⟩
                  case round =>
                    obtain ⟨q, d, hqj, rfl, rfl⟩ := hrel
                    by_cases hql : q < j5
                    · have hql' : (q : Int) < (j5 : Int) := by omega
                      by_cases hq0 : q = 0
                      · subst hq0
                        generalize hwx : w7.drewN d = wx
                        have hw : Hid (w7.drewN d = wx) := hwx
                        clear hwx
                        go_wp2_with fail
                        go_quiet (fail)
                        go_wp2_with fail
                        go_roundw
                        case rel => exact ⟨0 + 1, d + nq, by omega, by go_num, by rw [← hw.out, World.drewN_drewN]⟩
                        case measure => simp [RowKit.intOf]; omega
                      · have hq1 : (0 : Int) < (q : Int) := by omega
                        have hq2 : 0 < q := by omega
                        have hq3 : decide ((q : Int) > 0) = true := decide_eq_true hq1
                        obtain ⟨p1, hp1⟩ : ∃ p1, Hid (q = p1 + 1) := ⟨q - 1, (by omega : q = q - 1 + 1)⟩
                        have hp2 : (q : Int) - 1 = (p1 : Int) := by have := hp1.out; omega
                        have hp3 : p1 < j5 := by have := hp1.out; omega
                        have hp3' : (p1 : Int) < (j5 : Int) := by omega
                        have hp4 : (0 : Int) ≤ (p1 : Int) := by omega
                        have hp5 := wrap_small p1 (by omega)
                        obtain ⟨lb, rfl, hlc⟩ := row_cells o7.out (by omega) hkj.out
                        have c1 : (w7.drewN d).cell? ⟨lb, q, none⟩ = some (.int .i64 (((ins n ks).getD q 0 : Nat) : Int)) := hlc q hql
                        have c2 : (w7.drewN d).cell? ⟨lb, p1, none⟩ = some (.int .i64 (((ins n ks).getD p1 0 : Nat) : Int)) := hlc p1 hp3
                        have hrise : ¬ ((ins n ks).getD q 0 ≤ (ins n ks).getD p1 0) := by
                          have := srt_at T7'.out.srt (i := p1) (j := q) (by have := hp1.out; omega) (by rw [hkj.out]; exact hql)
                          omega
                        clear hlc
                        generalize (ins n ks).getD q 0 = x1 at *
                        generalize (ins n ks).getD p1 0 = x2 at *
                        have hle : decide ((x1 : Int) ≤ (x2 : Int)) = false := decide_eq_false (by omega)
                        generalize hwx : w7.drewN d = wx at c1 c2 ⊢
                        have hw : Hid (w7.drewN d = wx) := hwx
                        clear hwx
                        go_wp2_with fail
                        go_quiet (fail)
                        go_wp2_with fail
                        go_roundw
                        case rel => exact ⟨q + 1, d + nq, by omega, by go_num, by rw [← hw.out, World.drewN_drewN]⟩
                        case measure => simp [RowKit.intOf]; omega
                    · have hql' : decide ((q : Int) < (j5 : Int)) = false := decide_eq_false (by omega)
                      have bD : Below w7.heap.size w7 (w7.drewN d) := below_drewN (Below.refl _ _) d
                      have T8 : Hid (TB (fun k => (F k ∧ k < wr.heap.size) ∨ w4.heap.size ≤ k) (w7.drewN d) t bm (ins n ks) (m5)) := T7'.out.below bD
                      have H8 : Hid (Thr (fun k => (F k ∧ k < wr.heap.size) ∨ w4.heap.size ≤ k) w.heap.size (w7.drewN d) (.slice to5 j5 cap5) (th ++ [n])) := H7.out.below bD
                      have B8 : Hid (Below w.heap.size w (w7.drewN d)) := below_drewN B7.out d
                      clear bD
                      go_wp2_with fail
                      go_roundw
                      case rel => exact ⟨i + 1, m5, ins n ks, th ++ [n], _, by omega, by go_num, rfl, by omega, T8, H8, hnd5, hmem5, B8⟩
                      case measure => simp [RowKit.intOf]; omega
            · rw [hbv] at cb
              clear hbv
              by_cases hin : n ∈ th
              · obtain ⟨k, hk, hfk, hgk⟩ := fnd_in hin
                rw [hm.out] at hfk hk
                rw [hfk]
                have hgk' : Hid (th.getD k 0 = n) := hgk
                have hks : Hid (n ∈ ks) := (hmem.out n).1 hin
                obtain ⟨g, rfl, hcg⟩ := hth'.out (fun e => by rw [e] at hin; simp at hin)
                have hcg' : Hid (∀ j, j < th.length → wr.cell? ⟨g, j, none⟩ = some (.int .i64 ((th.getD j 0 : Nat) : Int))) := hcg
                clear hcg hth' hfk hgk hin
                go_wp2_with fail
                refine (drop_c T.out n (by omega)).mono ?_
                rintro e w3 ⟨rfl, T3, F3⟩
                rw [decide_eq_true hks.out]
                have H3 : Hid (Thr F w.heap.size w3 (.slice (some ⟨g, 0, none⟩) j cap) th) := H.out.fr T.out F3
                have T3' : Hid (TB F w3 t bm (del n ks) made) := T3
                have B3' : Hid (Below w.heap.size w w3) := fr_below F3 B.out ht hbm B.out.size
                clear T3 F3 T H B hcg'
                go_wp2_with fail
                refine (made_c T3'.out).mono ?_
                rintro e w4 ⟨rfl, T4, F4⟩
                have H4 : Hid (Thr F w.heap.size w4 (.slice (some ⟨g, 0, none⟩) j cap) th) := H3.out.fr T3'.out F4
                have T4' : Hid (TB F w4 t bm (del n ks) made) := T4
                have B4' : Hid (Below w.heap.size w w4) := fr_below F4 B3'.out ht hbm B3'.out.size
                clear T4 F4 T3' H3 B3'
                have k0 : (0 : Int) ≤ (k : Int) := by omega
                have k1 : (k : Int) < (j : Int) := by omega
                have hjc : j ≤ cap := by
                  rcases H4.out.own.2 with ⟨h, _⟩ | ⟨_, _, _, h, _, _, h3, _⟩
                  · cases h
                  · cases h; exact h3
                have q1 : (k : Int) ≤ (cap : Int) := by omega
                have q2 : k ≤ cap := by omega
                obtain ⟨K1, hK1⟩ : ∃ K1, Hid (k + 1 = K1) := ⟨_, rfl⟩
                have q3 : (k : Int) + 1 = (K1 : Int) := by have := hK1.out; omega
                have q4 : K1 ≤ j := by have := hK1.out; omega
                have q4' : (K1 : Int) ≤ (j : Int) := by omega
                have q5 : (j : Int) ≤ (cap : Int) := by omega
                have q6 : (0 : Int) ≤ (K1 : Int) := by omega
                have q7 := wrap_small K1 (by omega)
                have hgl : Hid (g < w4.heap.size) := (H4.out.own.lt g rfl).2
                have hcg : Hid (∀ q, q < th.length → w4.cell? ⟨g, q, none⟩ = some (.int .i64 ((th.getD q 0 : Nat) : Int))) := fun q hq => H4.out.cell hq
                have l1 : Hid ((il (th.take k)).length = k * 1) := (by rw [il_len, List.length_take, hm.out]; omega : (il (th.take k)).length = k * 1)
                have l2 : Hid ((il (th.drop K1)).length = (j - K1) * 1) := (by rw [il_len, List.length_drop, hm.out]; omega : (il (th.drop K1)).length = (j - K1) * 1)
                have n1' : Hid (∀ W : World, (∀ q, q < th.length → W.cell? ⟨g, q, none⟩ = w4.cell? ⟨g, q, none⟩) → ∀ q u, (il (th.take k))[q]? = some u → W.cell? (Addr.add ⟨g, 0, none⟩ q) = some u) := fun W hW => news_take fun q hq => (hW q hq).trans (hcg.out q hq)
                have n2' : Hid (∀ (W : World) (ad : Addr), (∀ q, q < th.length → W.cell? ⟨g, q, none⟩ = w4.cell? ⟨g, q, none⟩) → (0 < th.length - K1 → ad = ⟨g, K1, none⟩) → ∀ q u, (il (th.drop K1))[q]? = some u → W.cell? (ad.add q) = some u) := fun W ad hW ha => news_drop (fun q hq => (hW q hq).trans (hcg.out q hq)) ha
                have hgc : Hid (∀ o : Obj, ∀ q : Nat, (w4.alloc o).cell? ⟨g, q, none⟩ = w4.cell? ⟨g, q, none⟩) := fun o q => World.cell?_alloc_lt w4 o ⟨g, q, none⟩ hgl.out
                have hct : Hid (cutk k th = th.take k ++ th.drop K1) := (by unfold cutk; rw [hK1.out] : cutk k th = th.take k ++ th.drop K1)
                have hth2 : Hid ((cutk k th).Nodup) := cutk_nodup hnd.out (by rw [hm.out]; exact hk)
                have hth3 : Hid (∀ x, x ∈ cutk k th ↔ x ∈ del n ks) := (fun x => by rw [cutk_mem hnd.out (by rw [hm.out]; exact hk) hgk'.out, mem_del, hmem.out x] : ∀ x, x ∈ cutk k th ↔ x ∈ del n ks)
                have hcl : Hid ((cutk k th).length = k + (j - K1)) := (by rw [hct.out, List.length_append, List.length_take, List.length_drop, hm.out]; omega : (cutk k th).length = k + (j - K1))
                have tok1 : True := trivial
                by_cases hne : cap = K1
                · subst hne
                  have ej : Hid (j - cap = 0) := (by omega : j - cap = 0)
                  rw [ej.out] at l2 hcl
                  go_wp2_with fail
                  go_region_held3 (fun _ => True) (trivial) ((first
                    | (have _t := tok1
                       refine step_app (by rfl) _ _ _ (by rfl) w4.heap.size 3 i0 (.int .i64 0) 1 8 Tryd.underlying28 hi0 hz0 hz1 hz2 rfl (by decide) _ _ _ (by rfl) (emptyI w4 w4.heap.size (Nat.le_refl _)) ⟨g, 0, none⟩ k cap (il (th.take k)) (by rfl) l1.out (n1'.out _ (fun q _ => hgc.out _ q)) (il_one _) (by unfold maxLen; omega) (by omega) (by simp) ?_
                       intro v5 w5 o5 g5
                       clear tok1)
                    | (refine step_app (by rfl) _ _ _ (by rfl) w4.heap.size 3 i0 (.int .i64 0) 1 8 Tryd.underlying28 hi0 hz0 hz1 hz2 rfl (by decide) v5 _ _ (by rfl) o5.out _ (0) _ (il (th.drop cap)) (by rfl) l2.out (n2'.out _ _ (fun q _ => (g5.out.cell_far ⟨g, q, none⟩ (by have := hgl.out; simp; omega) (fun e => by have := hgl.out; have e2 : g = w4.heap.size := Option.some.inj e; omega)).trans (hgc.out _ q)) (fun h => by have := hm.out; omega)) (il_one _) (by unfold maxLen; omega) (by omega) (by have := g5.out.size; simp at this; omega) ?_
                       intro v6 w6 o6 g6)))
                  have b5 : Below w4.heap.size w4 w5 := (((Below.refl w4.heap.size w4).alloc (Nat.le_refl _) _).drew).grown g5.out (by simp) (fun b e => by have e2 : w4.heap.size = b := Option.some.inj e; omega)
                  have b6 : Hid (Below w4.heap.size w4 w6) := b5.grown g6.out (by have := b5.size; simpa using this) (fun b e => (o5.out.lt b e).1)
                  have o6' : Hid (w6.ownsRow w4.heap.size 3 1 v6 (cutk k th).length (il (cutk k th))) := (by
                    have := o6.out
                    rw [hcl.out, hct.out]
                    simpa [il] using this : w6.ownsRow w4.heap.size 3 1 v6 (cutk k th).length (il (cutk k th)))
                  obtain ⟨T6, H6⟩ := thr_new (N := w.heap.size) T4'.out o6'.out b6.out B4'.out.size
                  have T6' : Hid (TB (fun k => F k ∧ k < w4.heap.size) w6 t bm (del n ks) made) := T6
                  have H6' : Hid (Thr (fun k => F k ∧ k < w4.heap.size) w.heap.size w6 v6 (cutk k th)) := H6
                  have B6' : Hid (Below w.heap.size w w6) := below_tr B4'.out b6.out
                  clear T6 H6 b6 o6' o6 g6 o5 g5 T4' H4 B4' l1 l2 n1' n2' hgc hcg
                  go_wp2_with fail
                  go_roundw
                  case rel => exact ⟨i + 1, made, del n ks, cutk k th, _, by omega, by go_num, rfl, by omega, T6', H6', hth2, hth3, B6'⟩
                  case measure => simp [RowKit.intOf]; omega
                · go_wp2_with fail
                  go_region_held3 (fun _ => True) (trivial) ((first
                    | (have _t := tok1
                       refine step_app (by rfl) _ _ _ (by rfl) w4.heap.size 3 i0 (.int .i64 0) 1 8 Tryd.underlying28 hi0 hz0 hz1 hz2 rfl (by decide) _ _ _ (by rfl) (emptyI w4 w4.heap.size (Nat.le_refl _)) ⟨g, 0, none⟩ k cap (il (th.take k)) (by rfl) l1.out (n1'.out _ (fun q _ => hgc.out _ q)) (il_one _) (by unfold maxLen; omega) (by omega) (by simp) ?_
                       intro v5 w5 o5 g5
                       clear tok1)
                    | (refine step_app (by rfl) _ _ _ (by rfl) w4.heap.size 3 i0 (.int .i64 0) 1 8 Tryd.underlying28 hi0 hz0 hz1 hz2 rfl (by decide) v5 _ _ (by rfl) o5.out _ (j - K1) _ (il (th.drop K1)) (by rfl) l2.out (n2'.out _ _ (fun q _ => (g5.out.cell_far ⟨g, q, none⟩ (by have := hgl.out; simp; omega) (fun e => by have := hgl.out; have e2 : g = w4.heap.size := Option.some.inj e; omega)).trans (hgc.out _ q)) (fun _ => rfl)) (il_one _) (by unfold maxLen; omega) (by omega) (by have := g5.out.size; simp at this; omega) ?_
                       intro v6 w6 o6 g6)))
                  have b5 : Below w4.heap.size w4 w5 := (((Below.refl w4.heap.size w4).alloc (Nat.le_refl _) _).drew).grown g5.out (by simp) (fun b e => by have e2 : w4.heap.size = b := Option.some.inj e; omega)
                  have b6 : Hid (Below w4.heap.size w4 w6) := b5.grown g6.out (by have := b5.size; simpa using this) (fun b e => (o5.out.lt b e).1)
                  have o6' : Hid (w6.ownsRow w4.heap.size 3 1 v6 (cutk k th).length (il (cutk k th))) := (by
                    have := o6.out
                    rw [hcl.out, hct.out]
                    simpa [il] using this : w6.ownsRow w4.heap.size 3 1 v6 (cutk k th).length (il (cutk k th)))
                  obtain ⟨T6, H6⟩ := thr_new (N := w.heap.size) T4'.out o6'.out b6.out B4'.out.size
                  have T6' : Hid (TB (fun k => F k ∧ k < w4.heap.size) w6 t bm (del n ks) made) := T6
                  have H6' : Hid (Thr (fun k => F k ∧ k < w4.heap.size) w.heap.size w6 v6 (cutk k th)) := H6
                  have B6' : Hid (Below w.heap.size w w6) := below_tr B4'.out b6.out
                  clear T6 H6 b6 o6' o6 g6 o5 g5 T4' H4 B4' l1 l2 n1' n2' hgc hcg
                  go_wp2_with fail
                  go_roundw
                  case rel => exact ⟨i + 1, made, del n ks, cutk k th, _, by omega, by go_num, rfl, by omega, T6', H6', hth2, hth3, B6'⟩
                  case measure => simp [RowKit.intOf]; omega
              · rw [fnd_out hin j (by rw [hm.out]; exact Nat.le_refl _)]
                have hks : n ∉ ks := fun e => hin ((hmem.out n).2 e)
                have hd0 : Hid (decide (n ∈ ks) = false) := decide_eq_false hks
                have hd1 : Hid (del n ks = ks) := del_out hks
                clear hks hin hth'
                go_wp2_with fail
                refine (drop_c T.out n (by omega)).mono ?_
                rw [hd0.out, hd1.out]
                rintro e w3 ⟨rfl, T3, F3⟩
                have H3 : Hid (Thr F w.heap.size w3 (.slice to j cap) th) := H.out.fr T.out F3
                have T3' : Hid (TB F w3 t bm ks made) := T3
                have B3' : Hid (Below w.heap.size w w3) := fr_below F3 B.out ht hbm B.out.size
                clear T3 F3 T H B
                go_wp2_with fail
                refine (made_c T3'.out).mono ?_
                rintro e w4 ⟨rfl, T4, F4⟩
                have H4 : Hid (Thr F w.heap.size w4 (.slice to j cap) th) := H3.out.fr T3'.out F4
                have T4' : Hid (TB F w4 t bm ks made) := T4
                have B4' : Hid (Below w.heap.size w w4) := fr_below F4 B3'.out ht hbm B3'.out.size
                clear T4 F4 T3' H3 B3'
                go_wp2_with fail
                go_roundw
                case rel => exact ⟨i + 1, made, ks, th, F, by omega, by go_num, rfl, by omega, T4', H4, hnd, hmem, B4'⟩
                case measure => simp [RowKit.intOf]; omega
          · have hdm' : decide ((i : Int) < (M : Int)) = false := decide_eq_false (by omega)
            by_cases hin : n ∈ th
            · obtain ⟨k, hk, hfk, hgk⟩ := fnd_in hin
              rw [hm.out] at hfk hk
              rw [hfk]
              have hks : n ∈ ks := (hmem.out n).1 hin
              have hI : Hid (ins n ks = ks) := ins_in T.out.srt hks
              have hN : Hid (nm n ks made = made) := nm_in hks
              have hks' : Hid (n ∈ ks) := hks
              have T4' : Hid (TB F wr t bm ks made) := T
              have H4 : Hid (Thr F w.heap.size wr (.slice to j cap) th) := H
              have B4' : Hid (Below w.heap.size w wr) := B
              have k0 : decide ((k : Int) < 0) = false := decide_eq_false (by omega)
              clear hfk hgk hin hth' hks T H B hk
              by_cases hev : i % 2 = 0
              · have m1 : ((i : Int) % 2 == 0) = true := by rw [beq_iff_eq]; omega
                clear hev
                go_wp2_with fail
                refine (at_c T4'.out n (i : Int) n1 (by omega) (by omega) (.inl hks'.out)).mono ?_
                rw [hI.out, hN.out]
                rintro e w5 ⟨rfl, T5, F5⟩
                have T5' : Hid (TB (F) w5 t bm (ks) (made)) := T5
                have H5 : Hid (Thr (F) w.heap.size w5 (.slice to j cap) (th)) := H4.out.fr T4'.out F5
                have B5' : Hid (Below w.heap.size w w5) := fr_below F5 B4'.out ht hbm B4'.out.size
                clear T5 F5 T4' H4 B4'
                have hkj : Hid ((ks).length = j) := ((same_len hnd.out T5'.out.srt hmem.out).symm.trans hm.out : (ks).length = j)
                have jl : j ≤ 16384 := by rw [← hkj.out]; exact T5'.out.few
                go_wp2_with fail
                refine (sizes_c T5'.out).mono ?_
                rintro e w6 ⟨v, rfl, o6, T6, F6⟩
                rw [hkj.out] at o6
                obtain ⟨lo, lc, rfl⟩ := owns_slice o6
                have T6' : Hid (TB (F) w6 t bm (ks) (made)) := T6
                have H6 : Hid (Thr (F) w.heap.size w6 (.slice to j cap) (th)) := H5.out.fr T5'.out F6
                have B6 : Hid (Below w.heap.size w w6) := fr_below F6 B5'.out ht hbm B5'.out.size
                have s1 : Hid (t < w5.heap.size) := T5'.out.lt
                have s2 : Hid (bm < w5.heap.size) := T5'.out.blt
                have o6' : Hid (w6.ownsRow w5.heap.size 3 1 (.slice lo j lc) j (il (ks))) := o6
                clear T6 F6 o6 T5' H5 B5'
                go_wp2_with fail
                refine (made_c T6'.out).mono ?_
                rintro e w7 ⟨rfl, T7, F7⟩
                have T7' : Hid (TB (F) w7 t bm (ks) (made)) := T7
                have H7 : Hid (Thr (F) w.heap.size w7 (.slice to j cap) (th)) := H6.out.fr T6'.out F7
                have B7 : Hid (Below w.heap.size w w7) := fr_below F7 B6.out ht hbm B6.out.size
                have o7 : Hid (w7.ownsRow w5.heap.size 3 1 (.slice lo j lc) j (il (ks))) := F7.owns o6'.out (fun b hb hs => by have := (o6'.out.lt b hb).1; have := s1.out; have := s2.out; rcases hs with e | e <;> omega)
                clear T7 F7 T6' H6 B6 o6'
                go_wp2_with fail
                go_loopw [15, 119] (fun _ sq wx => ∃ q d : Nat, q ≤ j ∧ sq = .int .i64 (q : Int) ∧ wx = w7.drewN d) (fun _ sq _ => j - (RowKit.intOf sq).toNat)
                case atStart => exact ⟨0, 0, Nat.zero_le _, rfl, rfl⟩
                case round =>
                  obtain ⟨q, d, hqj, rfl, rfl⟩ := hrel
                  by_cases hql : q < j
                  · have hql' : (q : Int) < (j : Int) := by omega
                    by_cases hq0 : q = 0
                    · subst hq0
                      generalize hwx : w7.drewN d = wx
                      have hw : Hid (w7.drewN d = wx) := hwx
                      clear hwx
                      go_wp2_with fail
                      go_quiet (fail)
                      go_wp2_with fail
                      go_roundw
                      case rel => exact ⟨0 + 1, d + nq, by omega, by go_num, by rw [← hw.out, World.drewN_drewN]⟩
                      case measure => simp [RowKit.intOf]; omega
                    · have hq1 : (0 : Int) < (q : Int) := by omega
                      have hq2 : 0 < q := by omega
                      have hq3 : decide ((q : Int) > 0) = true := decide_eq_true hq1
                      obtain ⟨p1, hp1⟩ : ∃ p1, Hid (q = p1 + 1) := ⟨q - 1, (by omega : q = q - 1 + 1)⟩
                      have hp2 : (q : Int) - 1 = (p1 : Int) := by have := hp1.out; omega
                      have hp3 : p1 < j := by have := hp1.out; omega
                      have hp3' : (p1 : Int) < (j : Int) := by omega
                      have hp4 : (0 : Int) ≤ (p1 : Int) := by omega
                      have hp5 := wrap_small p1 (by omega)
                      obtain ⟨lb, rfl, hlc⟩ := row_cells o7.out (by omega) hkj.out
                      have c1 : (w7.drewN d).cell? ⟨lb, q, none⟩ = some (.int .i64 (((ks).getD q 0 : Nat) : Int)) := hlc q hql
                      have c2 : (w7.drewN d).cell? ⟨lb, p1, none⟩ = some (.int .i64 (((ks).getD p1 0 : Nat) : Int)) := hlc p1 hp3
                      have hrise : ¬ ((ks).getD q 0 ≤ (ks).getD p1 0) := by
                        have := srt_at T7'.out.srt (i := p1) (j := q) (by have := hp1.out; omega) (by rw [hkj.out]; exact hql)
                        omega
                      clear hlc
                      generalize (ks).getD q 0 = x1 at *
                      generalize (ks).getD p1 0 = x2 at *
                      have hle : decide ((x1 : Int) ≤ (x2 : Int)) = false := decide_eq_false (by omega)
                      generalize hwx : w7.drewN d = wx at c1 c2 ⊢
                      have hw : Hid (w7.drewN d = wx) := hwx
                      clear hwx
                      go_wp2_with fail
                      go_quiet (fail)
                      go_wp2_with fail
                      go_roundw
                      case rel => exact ⟨q + 1, d + nq, by omega, by go_num, by rw [← hw.out, World.drewN_drewN]⟩
                      case measure => simp [RowKit.intOf]; omega
                  · have hql' : decide ((q : Int) < (j : Int)) = false := decide_eq_false (by omega)
                    have bD : Below w7.heap.size w7 (w7.drewN d) := below_drewN (Below.refl _ _) d
                    have T8 : Hid (TB (F) (w7.drewN d) t bm (ks) (made)) := T7'.out.below bD
                    have H8 : Hid (Thr (F) w.heap.size (w7.drewN d) (.slice to j cap) (th)) := H7.out.below bD
                    have B8 : Hid (Below w.heap.size w (w7.drewN d)) := below_drewN B7.out d
                    clear bD
                    go_wp2_with fail
                    go_roundw
                    case rel => exact ⟨i + 1, made, ks, th, _, by omega, by go_num, rfl, by omega, T8, H8, hnd, hmem, B8⟩
                    case measure => simp [RowKit.intOf]; omega
              · have m1 : ((i : Int) % 2 == 0) = false := beq_eq_false_iff_ne.2 (by omega)
                clear hev
                go_wp2_with fail
                refine (list_t T4'.out n n1 (by omega) (by omega) (.inl hks'.out)).mono ?_
                rw [hI.out, hN.out]
                rintro e w5 ⟨wm, G, C5, rfl, Tm, Fm, Bm, hG, o5⟩
                have T5' : Hid (TB (F) w5 t bm (ks) (made)) := Tm.below Bm
                have H5 : Hid (Thr (F) w.heap.size w5 (.slice to j cap) (th)) := (H4.out.fr T4'.out Fm).below Bm
                have B5' : Hid (Below w.heap.size w w5) := below_tr (fr_below Fm B4'.out ht hbm B4'.out.size) Bm
                clear Tm Fm Bm hG o5 T4' H4 B4'
                have hkj : Hid ((ks).length = j) := ((same_len hnd.out T5'.out.srt hmem.out).symm.trans hm.out : (ks).length = j)
                have jl : j ≤ 16384 := by rw [← hkj.out]; exact T5'.out.few
                go_wp2_with fail
                refine (sizes_c T5'.out).mono ?_
                rintro e w6 ⟨v, rfl, o6, T6, F6⟩
                rw [hkj.out] at o6
                obtain ⟨lo, lc, rfl⟩ := owns_slice o6
                have T6' : Hid (TB (F) w6 t bm (ks) (made)) := T6
                have H6 : Hid (Thr (F) w.heap.size w6 (.slice to j cap) (th)) := H5.out.fr T5'.out F6
                have B6 : Hid (Below w.heap.size w w6) := fr_below F6 B5'.out ht hbm B5'.out.size
                have s1 : Hid (t < w5.heap.size) := T5'.out.lt
                have s2 : Hid (bm < w5.heap.size) := T5'.out.blt
                have o6' : Hid (w6.ownsRow w5.heap.size 3 1 (.slice lo j lc) j (il (ks))) := o6
                clear T6 F6 o6 T5' H5 B5'
                go_wp2_with fail
                refine (made_c T6'.out).mono ?_
                rintro e w7 ⟨rfl, T7, F7⟩
                have T7' : Hid (TB (F) w7 t bm (ks) (made)) := T7
                have H7 : Hid (Thr (F) w.heap.size w7 (.slice to j cap) (th)) := H6.out.fr T6'.out F7
                have B7 : Hid (Below w.heap.size w w7) := fr_below F7 B6.out ht hbm B6.out.size
                have o7 : Hid (w7.ownsRow w5.heap.size 3 1 (.slice lo j lc) j (il (ks))) := F7.owns o6'.out (fun b hb hs => by have := (o6'.out.lt b hb).1; have := s1.out; have := s2.out; rcases hs with e | e <;> omega)
                clear T7 F7 T6' H6 B6 o6'
                go_wp2_with fail
                go_loopw [15, 119] (fun _ sq wx => ∃ q d : Nat, q ≤ j ∧ sq = .int .i64 (q : Int) ∧ wx = w7.drewN d) (fun _ sq _ => j - (RowKit.intOf sq).toNat)
                case atStart => exact ⟨0, 0, Nat.zero_le _, rfl, rfl⟩
                case round =>
                  obtain ⟨q, d, hqj, rfl, rfl⟩ := hrel
                  by_cases hql : q < j
                  · have hql' : (q : Int) < (j : Int) := by omega
                    by_cases hq0 : q = 0
                    · subst hq0
                      generalize hwx : w7.drewN d = wx
                      have hw : Hid (w7.drewN d = wx) := hwx
                      clear hwx
                      go_wp2_with fail
                      go_quiet (fail)
                      go_wp2_with fail
                      go_roundw
                      case rel => exact ⟨0 + 1, d + nq, by omega, by go_num, by rw [← hw.out, World.drewN_drewN]⟩
                      case measure => simp [RowKit.intOf]; omega
                    · have hq1 : (0 : Int) < (q : Int) := by omega
                      have hq2 : 0 < q := by omega
                      have hq3 : decide ((q : Int) > 0) = true := decide_eq_true hq1
                      obtain ⟨p1, hp1⟩ : ∃ p1, Hid (q = p1 + 1) := ⟨q - 1, (by omega : q = q - 1 + 1)⟩
                      have hp2 : (q : Int) - 1 = (p1 : Int) := by have := hp1.out; omega
                      have hp3 : p1 < j := by have := hp1.out; omega
                      have hp3' : (p1 : Int) < (j : Int) := by omega
                      have hp4 : (0 : Int) ≤ (p1 : Int) := by omega
                      have hp5 := wrap_small p1 (by omega)
                      obtain ⟨lb, rfl, hlc⟩ := row_cells o7.out (by omega) hkj.out
                      have c1 : (w7.drewN d).cell? ⟨lb, q, none⟩ = some (.int .i64 (((ks).getD q 0 : Nat) : Int)) := hlc q hql
                      have c2 : (w7.drewN d).cell? ⟨lb, p1, none⟩ = some (.int .i64 (((ks).getD p1 0 : Nat) : Int)) := hlc p1 hp3
                      have hrise : ¬ ((ks).getD q 0 ≤ (ks).getD p1 0) := by
                        have := srt_at T7'.out.srt (i := p1) (j := q) (by have := hp1.out; omega) (by rw [hkj.out]; exact hql)
                        omega
                      clear hlc
                      generalize (ks).getD q 0 = x1 at *
                      generalize (ks).getD p1 0 = x2 at *
                      have hle : decide ((x1 : Int) ≤ (x2 : Int)) = false := decide_eq_false (by omega)
                      generalize hwx : w7.drewN d = wx at c1 c2 ⊢
                      have hw : Hid (w7.drewN d = wx) := hwx
                      clear hwx
                      go_wp2_with fail
                      go_quiet (fail)
                      go_wp2_with fail
                      go_roundw
                      case rel => exact ⟨q + 1, d + nq, by omega, by go_num, by rw [← hw.out, World.drewN_drewN]⟩
                      case measure => simp [RowKit.intOf]; omega
                  · have hql' : decide ((q : Int) < (j : Int)) = false := decide_eq_false (by omega)
                    have bD : Below w7.heap.size w7 (w7.drewN d) := below_drewN (Below.refl _ _) d
                    have T8 : Hid (TB (F) (w7.drewN d) t bm (ks) (made)) := T7'.out.below bD
                    have H8 : Hid (Thr (F) w.heap.size (w7.drewN d) (.slice to j cap) (th)) := H7.out.below bD
                    have B8 : Hid (Below w.heap.size w (w7.drewN d)) := below_drewN B7.out d
                    clear bD
                    go_wp2_with fail
                    go_roundw
                    case rel => exact ⟨i + 1, made, ks, th, _, by omega, by go_num, rfl, by omega, T8, H8, hnd, hmem, B8⟩
                    case measure => simp [RowKit.intOf]; omega
            · rw [fnd_out hin j (by rw [hm.out]; exact Nat.le_refl _)]
              have hks : n ∉ ks := fun e => hin ((hmem.out n).2 e)
              obtain ⟨m5, hm5⟩ : ∃ m5, Hid (made + 1 = m5) := ⟨_, rfl⟩
              have qm : (made : Int) + 1 = (m5 : Int) := by have := hm5.out; omega
              have mb : m5 ≤ i + 1 := by have := hm5.out; omega
              have hN : Hid (nm n ks made = m5) := ((nm_out hks).trans hm5.out : nm n ks made = m5)
              have hnd5 : Hid ((th ++ [n]).Nodup) := (List.nodup_append.2 ⟨hnd.out, by simp, fun a ha b hb => by simp at hb; subst hb; exact fun e => hin (e ▸ ha)⟩ : (th ++ [n]).Nodup)
              have hmem5 : Hid (∀ x, x ∈ th ++ [n] ↔ x ∈ ins n ks) := (fun x => by rw [List.mem_append, mem_ins, hmem.out x]; simp; exact or_comm : ∀ x, x ∈ th ++ [n] ↔ x ∈ ins n ks)
              have hml' : Hid (th.length ≤ 16384) := (by rw [hm.out]; exact hml : th.length ≤ 16384)
              have Hown := H.out.own
              rw [hm.out] at Hown
              have hsz := B.out.size
              clear hin hth' hks hnd hmem
              go_wp2_with (at_builtin; refine wpList_append_own_at _ rfl _ _ 28 rfl w.heap.size 3 i0 (.int .i64 0) 1 8 Tryd.underlying28 hi0 hz0 hz1 hz2 rfl (by decide) _ _ _ rfl (Hown.alloc _) ⟨wr.heap.size, 0, none⟩ 1 1 [.int .i64 (n : Int)] rfl rfl (cell_one_new _ _ _) (by simp [Value.oneCell']) (by unfold maxLen; omega) (by omega) (by simp; omega) ?_)
              intro v' w4 hown' hgrow _ hat
              rw [← hm.out] at hown'
              obtain ⟨T4, H4a, B4⟩ := thr_push T.out H.out hown' hgrow hat B.out hsz
              have T4' : Hid (TB (fun k => (F k ∧ k < wr.heap.size) ∨ w4.heap.size ≤ k) w4 t bm ks made) := T4.wide
              have B4' : Hid (Below w.heap.size w w4) := B4
              obtain ⟨to5, cap5, e5, _⟩ := thr_cells H4a
              obtain ⟨j5, hm6⟩ : ∃ j5, Hid ((th ++ [n]).length = j5) := ⟨_, rfl⟩
              rw [hm6.out] at e5
              subst e5
              have H4 : Hid (Thr (fun k => (F k ∧ k < wr.heap.size) ∨ w4.heap.size ≤ k) w.heap.size w4 (.slice to5 j5 cap5) (th ++ [n])) := H4a.wide
              clear T4 H4a B4 hown' hgrow hat T H B Hown hsz
              by_cases hev : i % 2 = 0
              · have m1 : ((i : Int) % 2 == 0) = true := by rw [beq_iff_eq]; omega
                clear hev
                go_wp2_with fail
                refine (at_c T4'.out n (i : Int) n1 (by omega) (by omega) (.inr fun k hk => .inr hk)).mono ?_
                rw [hN.out]
                rintro e w5 ⟨rfl, T5, F5⟩
                have T5' : Hid (TB (fun k => (F k ∧ k < wr.heap.size) ∨ w4.heap.size ≤ k) w5 t bm (ins n ks) (m5)) := T5
                have H5 : Hid (Thr (fun k => (F k ∧ k < wr.heap.size) ∨ w4.heap.size ≤ k) w.heap.size w5 (.slice to5 j5 cap5) (th ++ [n])) := H4.out.fr T4'.out F5
                have B5' : Hid (Below w.heap.size w w5) := fr_below F5 B4'.out ht hbm B4'.out.size
                clear T5 F5 T4' H4 B4'
                have hkj : Hid ((ins n ks).length = j5) := ((same_len hnd5.out T5'.out.srt hmem5.out).symm.trans hm6.out : (ins n ks).length = j5)
                have jl : j5 ≤ 16384 := by rw [← hkj.out]; exact T5'.out.few
                go_wp2_with fail
                refine (sizes_c T5'.out).mono ?_
                rintro e w6 ⟨v, rfl, o6, T6, F6⟩
                rw [hkj.out] at o6
                obtain ⟨lo, lc, rfl⟩ := owns_slice o6
                have T6' : Hid (TB (fun k => (F k ∧ k < wr.heap.size) ∨ w4.heap.size ≤ k) w6 t bm (ins n ks) (m5)) := T6
                have H6 : Hid (Thr (fun k => (F k ∧ k < wr.heap.size) ∨ w4.heap.size ≤ k) w.heap.size w6 (.slice to5 j5 cap5) (th ++ [n])) := H5.out.fr T5'.out F6
                have B6 : Hid (Below w.heap.size w w6) := fr_below F6 B5'.out ht hbm B5'.out.size
                have s1 : Hid (t < w5.heap.size) := T5'.out.lt
                have s2 : Hid (bm < w5.heap.size) := T5'.out.blt
                have o6' : Hid (w6.ownsRow w5.heap.size 3 1 (.slice lo j5 lc) j5 (il (ins n ks))) := o6
                clear T6 F6 o6 T5' H5 B5'
                go_wp2_with fail
                refine (made_c T6'.out).mono ?_
                rintro e w7 ⟨rfl, T7, F7⟩
                have T7' : Hid (TB (fun k => (F k ∧ k < wr.heap.size) ∨ w4.heap.size ≤ k) w7 t bm (ins n ks) (m5)) := T7
                have H7 : Hid (Thr (fun k => (F k ∧ k < wr.heap.size) ∨ w4.heap.size ≤ k) w.heap.size w7 (.slice to5 j5 cap5) (th ++ [n])) := H6.out.fr T6'.out F7
                have B7 : Hid (Below w.heap.size w w7) := fr_below F7 B6.out ht hbm B6.out.size
                have o7 : Hid (w7.ownsRow w5.heap.size 3 1 (.slice lo j5 lc) j5 (il (ins n ks))) := F7.owns o6'.out (fun b hb hs => by have := (o6'.out.lt b hb).1; have := s1.out; have := s2.out; rcases hs with e | e <;> omega)
                clear T7 F7 T6' H6 B6 o6'
                go_wp2_with fail
                go_loopw [15, 119] (fun _ sq wx => ∃ q d : Nat, q ≤ j5 ∧ sq = .int .i64 (q : Int) ∧ wx = w7.drewN d) (fun _ sq _ => j5 - (RowKit.intOf sq).toNat)
                case atStart => exact ⟨0, 0, Nat.zero_le _, rfl, rfl⟩
                case round =>
                  obtain ⟨q, d, hqj, rfl, rfl⟩ := hrel
                  by_cases hql : q < j5
                  · have hql' : (q : Int) < (j5 : Int) := by omega
                    by_cases hq0 : q = 0
                    · subst hq0
                      generalize hwx : w7.drewN d = wx
                      have hw : Hid (w7.drewN d = wx) := hwx
                      clear hwx
                      go_wp2_with fail
                      go_quiet (fail)
                      go_wp2_with fail
                      go_roundw
                      case rel => exact ⟨0 + 1, d + nq, by omega, by go_num, by rw [← hw.out, World.drewN_drewN]⟩
                      case measure => simp [RowKit.intOf]; omega
                    · have hq1 : (0 : Int) < (q : Int) := by omega
                      have hq2 : 0 < q := by omega
                      have hq3 : decide ((q : Int) > 0) = true := decide_eq_true hq1
                      obtain ⟨p1, hp1⟩ : ∃ p1, Hid (q = p1 + 1) := ⟨q - 1, (by omega : q = q - 1 + 1)⟩
                      have hp2 : (q : Int) - 1 = (p1 : Int) := by have := hp1.out; omega
                      have hp3 : p1 < j5 := by have := hp1.out; omega
                      have hp3' : (p1 : Int) < (j5 : Int) := by omega
                      have hp4 : (0 : Int) ≤ (p1 : Int) := by omega
                      have hp5 := wrap_small p1 (by omega)
                      obtain ⟨lb, rfl, hlc⟩ := row_cells o7.out (by omega) hkj.out
                      have c1 : (w7.drewN d).cell? ⟨lb, q, none⟩ = some (.int .i64 (((ins n ks).getD q 0 : Nat) : Int)) := hlc q hql
                      have c2 : (w7.drewN d).cell? ⟨lb, p1, none⟩ = some (.int .i64 (((ins n ks).getD p1 0 : Nat) : Int)) := hlc p1 hp3
                      have hrise : ¬ ((ins n ks).getD q 0 ≤ (ins n ks).getD p1 0) := by
                        have := srt_at T7'.out.srt (i := p1) (j := q) (by have := hp1.out; omega) (by rw [hkj.out]; exact hql)
                        omega
                      clear hlc
                      generalize (ins n ks).getD q 0 = x1 at *
                      generalize (ins n ks).getD p1 0 = x2 at *
                      have hle : decide ((x1 : Int) ≤ (x2 : Int)) = false := decide_eq_false (by omega)
                      generalize hwx : w7.drewN d = wx at c1 c2 ⊢
                      have hw : Hid (w7.drewN d = wx) := hwx
                      clear hwx
                      go_wp2_with fail
                      go_quiet (fail)
                      go_wp2_with fail
                      go_roundw
                      case rel => exact ⟨q + 1, d + nq, by omega, by go_num, by rw [← hw.out, World.drewN_drewN]⟩
                      case measure => simp [RowKit.intOf]; omega
                  · have hql' : decide ((q : Int) < (j5 : Int)) = false := decide_eq_false (by omega)
                    have bD : Below w7.heap.size w7 (w7.drewN d) := below_drewN (Below.refl _ _) d
                    have T8 : Hid (TB (fun k => (F k ∧ k < wr.heap.size) ∨ w4.heap.size ≤ k) (w7.drewN d) t bm (ins n ks) (m5)) := T7'.out.below bD
                    have H8 : Hid (Thr (fun k => (F k ∧ k < wr.heap.size) ∨ w4.heap.size ≤ k) w.heap.size (w7.drewN d) (.slice to5 j5 cap5) (th ++ [n])) := H7.out.below bD
                    have B8 : Hid (Below w.heap.size w (w7.drewN d)) := below_drewN B7.out d
                    clear bD
                    go_wp2_with fail
                    go_roundw
                    case rel => exact ⟨i + 1, m5, ins n ks, th ++ [n], _, by omega, by go_num, rfl, by omega, T8, H8, hnd5, hmem5, B8⟩
                    case measure => simp [RowKit.intOf]; omega
              · have m1 : ((i : Int) % 2 == 0) = false := beq_eq_false_iff_ne.2 (by omega)
                clear hev
                go_wp2_with fail
                refine (list_t T4'.out n n1 (by omega) (by omega) (.inr fun k hk => .inr hk)).mono ?_
                rw [hN.out]
                rintro e w5 ⟨wm, G, C5, rfl, Tm, Fm, Bm, hG, o5⟩
                have T5' : Hid (TB (fun k => (F k ∧ k < wr.heap.size) ∨ w4.heap.size ≤ k) w5 t bm (ins n ks) (m5)) := Tm.below Bm
                have H5 : Hid (Thr (fun k => (F k ∧ k < wr.heap.size) ∨ w4.heap.size ≤ k) w.heap.size w5 (.slice to5 j5 cap5) (th ++ [n])) := (H4.out.fr T4'.out Fm).below Bm
                have B5' : Hid (Below w.heap.size w w5) := below_tr (fr_below Fm B4'.out ht hbm B4'.out.size) Bm
                clear Tm Fm Bm hG o5 T4' H4 B4'
                have hkj : Hid ((ins n ks).length = j5) := ((same_len hnd5.out T5'.out.srt hmem5.out).symm.trans hm6.out : (ins n ks).length = j5)
                have jl : j5 ≤ 16384 := by rw [← hkj.out]; exact T5'.out.few
                go_wp2_with fail
                refine (sizes_c T5'.out).mono ?_
                rintro e w6 ⟨v, rfl, o6, T6, F6⟩
                rw [hkj.out] at o6
                obtain ⟨lo, lc, rfl⟩ := owns_slice o6
                have T6' : Hid (TB (fun k => (F k ∧ k < wr.heap.size) ∨ w4.heap.size ≤ k) w6 t bm (ins n ks) (m5)) := T6
                have H6 : Hid (Thr (fun k => (F k ∧ k < wr.heap.size) ∨ w4.heap.size ≤ k) w.heap.size w6 (.slice to5 j5 cap5) (th ++ [n])) := H5.out.fr T5'.out F6
                have B6 : Hid (Below w.heap.size w w6) := fr_below F6 B5'.out ht hbm B5'.out.size
                have s1 : Hid (t < w5.heap.size) := T5'.out.lt
                have s2 : Hid (bm < w5.heap.size) := T5'.out.blt
                have o6' : Hid (w6.ownsRow w5.heap.size 3 1 (.slice lo j5 lc) j5 (il (ins n ks))) := o6
                clear T6 F6 o6 T5' H5 B5'
                go_wp2_with fail
                refine (made_c T6'.out).mono ?_
                rintro e w7 ⟨rfl, T7, F7⟩
                have T7' : Hid (TB (fun k => (F k ∧ k < wr.heap.size) ∨ w4.heap.size ≤ k) w7 t bm (ins n ks) (m5)) := T7
                have H7 : Hid (Thr (fun k => (F k ∧ k < wr.heap.size) ∨ w4.heap.size ≤ k) w.heap.size w7 (.slice to5 j5 cap5) (th ++ [n])) := H6.out.fr T6'.out F7
                have B7 : Hid (Below w.heap.size w w7) := fr_below F7 B6.out ht hbm B6.out.size
                have o7 : Hid (w7.ownsRow w5.heap.size 3 1 (.slice lo j5 lc) j5 (il (ins n ks))) := F7.owns o6'.out (fun b hb hs => by have := (o6'.out.lt b hb).1; have := s1.out; have := s2.out; rcases hs with e | e <;> omega)
                clear T7 F7 T6' H6 B6 o6'
                go_wp2_with fail
                go_loopw [15, 119] (fun _ sq wx => ∃ q d : Nat, q ≤ j5 ∧ sq = .int .i64 (q : Int) ∧ wx = w7.drewN d) (fun _ sq _ => j5 - (RowKit.intOf sq).toNat)
                case atStart => exact ⟨0, 0, Nat.zero_le _, rfl, rfl⟩
                case round =>
                  obtain ⟨q, d, hqj, rfl, rfl⟩ := hrel
                  by_cases hql : q < j5
                  · have hql' : (q : Int) < (j5 : Int) := by omega
                    by_cases hq0 : q = 0
                    · subst hq0
                      generalize hwx : w7.drewN d = wx
                      have hw : Hid (w7.drewN d = wx) := hwx
                      clear hwx
                      go_wp2_with fail
                      go_quiet (fail)
                      go_wp2_with fail
                      go_roundw
                      case rel => exact ⟨0 + 1, d + nq, by omega, by go_num, by rw [← hw.out, World.drewN_drewN]⟩
                      case measure => simp [RowKit.intOf]; omega
                    · have hq1 : (0 : Int) < (q : Int) := by omega
                      have hq2 : 0 < q := by omega
                      have hq3 : decide ((q : Int) > 0) = true := decide_eq_true hq1
                      obtain ⟨p1, hp1⟩ : ∃ p1, Hid (q = p1 + 1) := ⟨q - 1, (by omega : q = q - 1 + 1)⟩
                      have hp2 : (q : Int) - 1 = (p1 : Int) := by have := hp1.out; omega
                      have hp3 : p1 < j5 := by have := hp1.out; omega
                      have hp3' : (p1 : Int) < (j5 : Int) := by omega
                      have hp4 : (0 : Int) ≤ (p1 : Int) := by omega
                      have hp5 := wrap_small p1 (by omega)
                      obtain ⟨lb, rfl, hlc⟩ := row_cells o7.out (by omega) hkj.out
                      have c1 : (w7.drewN d).cell? ⟨lb, q, none⟩ = some (.int .i64 (((ins n ks).getD q 0 : Nat) : Int)) := hlc q hql
                      have c2 : (w7.drewN d).cell? ⟨lb, p1, none⟩ = some (.int .i64 (((ins n ks).getD p1 0 : Nat) : Int)) := hlc p1 hp3
                      have hrise : ¬ ((ins n ks).getD q 0 ≤ (ins n ks).getD p1 0) := by
                        have := srt_at T7'.out.srt (i := p1) (j := q) (by have := hp1.out; omega) (by rw [hkj.out]; exact hql)
                        omega
                      clear hlc
                      generalize (ins n ks).getD q 0 = x1 at *
                      generalize (ins n ks).getD p1 0 = x2 at *
                      have hle : decide ((x1 : Int) ≤ (x2 : Int)) = false := decide_eq_false (by omega)
                      generalize hwx : w7.drewN d = wx at c1 c2 ⊢
                      have hw : Hid (w7.drewN d = wx) := hwx
                      clear hwx
                      go_wp2_with fail
                      go_quiet (fail)
                      go_wp2_with fail
                      go_roundw
                      case rel => exact ⟨q + 1, d + nq, by omega, by go_num, by rw [← hw.out, World.drewN_drewN]⟩
                      case measure => simp [RowKit.intOf]; omega
                  · have hql' : decide ((q : Int) < (j5 : Int)) = false := decide_eq_false (by omega)
                    have bD : Below w7.heap.size w7 (w7.drewN d) := below_drewN (Below.refl _ _) d
                    have T8 : Hid (TB (fun k => (F k ∧ k < wr.heap.size) ∨ w4.heap.size ≤ k) (w7.drewN d) t bm (ins n ks) (m5)) := T7'.out.below bD
                    have H8 : Hid (Thr (fun k => (F k ∧ k < wr.heap.size) ∨ w4.heap.size ≤ k) w.heap.size (w7.drewN d) (.slice to5 j5 cap5) (th ++ [n])) := H7.out.below bD
                    have B8 : Hid (Below w.heap.size w (w7.drewN d)) := below_drewN B7.out d
                    clear bD
                    go_wp2_with fail
                    go_roundw
                    case rel => exact ⟨i + 1, m5, ins n ks, th ++ [n], _, by omega, by go_num, rfl, by omega, T8, H8, hnd5, hmem5, B8⟩
                    case measure => simp [RowKit.intOf]; omega
    · have hlt' : decide ((i : Int) < (L : Int)) = false := decide_eq_false (by omega)
      go_wp2_with fail
      go_ret
      exact ⟨rfl, B.out⟩
end Go.Proofs.YtljopkmpcolgfaaDoor
namespace Go.Proofs.YtljopkmpcolgfaaDoor.tablesCounts
open Go.RowKit
theorem walk (v : Value) (zs : List Int) (u : Value) (bs : List Bool) (w : World) (al : List Addr) (he : Errs w al) (hv : RdZ w v zs) (hl : zs.length ≤ 17592186043904) (hu : RdB w u bs) (hm : bs.length ≤ 140737488351232) :
    Calls Tryd.prog 5 #[v, u] w fun e w' => e = .returned (.bool true) ∧ Below w.heap.size w w' := by
  obtain ⟨ao, cap, rfl, hin⟩ := hv
  obtain ⟨bo, dap, rfl, hjn⟩ := hu
  exact tc8_w ao zs.length cap zs bo bs.length dap bs w al he rfl hl hin rfl (by omega) hjn
end Go.Proofs.YtljopkmpcolgfaaDoor.tablesCounts
