/-
  The walk of TablesRoots.
-/
import Derived.Test.YtljopkmpcolgfaaDoorTd8
import Derived.Test.YtljopkmpcolgfaaDoorIlz
import Derived.Test.YtljopkmpcolgfaaDoorLaid
import Derived.Test.YtljopkmpcolgfaaDoorRows
namespace Go.Proofs.YtljopkmpcolgfaaDoor
open Flo Go.RowKit Go.Maps Go.MuLone
set_option maxRecDepth 100000 in
set_option maxHeartbeats 8000000 in
theorem tr8_no (n : Int) (v : Value) (d : Int) (w : World) (al : List Addr) (he : Errs w al) (hn : inn n = false) (hb : -9223372036854775808 ≤ n ∧ n ≤ 9223372036854775807) :
    Calls Tryd.prog 4 #[.int .i64 n, v, .int .i64 d] w fun e w' => e = .returned (.bool true) ∧ Below w.heap.size w w' := by
  have he' : Hid (Errs w al) := he
  have hn' : Hid (inn n = false) := hn
  have hb' : Hid (-9223372036854775808 ≤ n ∧ n ≤ 9223372036854775807) := hb
  have hx : ¬ (1 ≤ n ∧ n ≤ 16384) := of_decide_eq_false hn
  clear he hn hb
  by_cases c1 : n < 1
  · clear hx
    go_enter Tryd.func4, Tryd.ntmps4
    go_wp2_with fail
    refine (fixed8_c _ al he'.out).mono ?_
    rintro e w1 ⟨rfl, B1⟩
    have B1' : Hid (Below w.heap.size w w1) := B1
    clear B1
    go_wp2_with fail
    refine (new_c _).mono ?_
    rintro e w2 ⟨t, bm, rfl, ht0, hbm0, T2, B2⟩
    have ht : w.heap.size ≤ t := Nat.le_trans B1'.out.size ht0
    have hbm : w.heap.size ≤ bm := Nat.le_trans B1'.out.size hbm0
    have T2' : Hid (TB (fun _ => True) w2 t bm [] 0) := T2
    have B2' : Hid (Below w.heap.size w w2) := below_tr B1'.out B2
    clear T2 B2 B1' ht0 hbm0
    go_wp2_with fail
    refine (atNo_c T2'.out n 0 hn'.out hb'.out al (EK.mk he'.out B2'.out ht hbm)).mono ?_
    rintro e w3 ⟨rfl, T3, F3⟩
    have T3' : Hid (TB (fun _ => True) w3 t bm [] 0) := T3
    have B3' : Hid (Below w.heap.size w w3) := fr_below F3 B2'.out ht hbm B2'.out.size
    clear T3 F3 T2' B2'
    go_wp2_with fail
    refine (listNo_c T3'.out n hn'.out hb'.out al (EK.mk he'.out B3'.out ht hbm)).mono ?_
    rintro e w4 ⟨rfl, T4, F4⟩
    have T4' : Hid (TB (fun _ => True) w4 t bm [] 0) := T4
    have B4' : Hid (Below w.heap.size w w4) := fr_below F4 B3'.out ht hbm B3'.out.size
    clear T4 F4 T3' B3'
    go_wp2_with fail
    refine (numE_c (Er.mk al 6 (by decide)) _ (he'.out.below B4'.out)).mono ?_
    rintro e w5 ⟨rfl, B5⟩
    have T5' : Hid (TB (fun _ => True) w5 t bm [] 0) := T4'.out.below B5
    have B5' : Hid (Below w.heap.size w w5) := below_tr B4'.out B5
    clear B5 T4' B4'
    go_wp2_with fail
    refine (numE_c (Er.mk al 6 (by decide)) _ (he'.out.below B5'.out)).mono ?_
    rintro e w6 ⟨rfl, B6⟩
    have T6' : Hid (TB (fun _ => True) w6 t bm [] 0) := T5'.out.below B6
    have B6' : Hid (Below w.heap.size w w6) := below_tr B5'.out B6
    clear B6 T5' B5'
    go_wp2_with fail
    refine (made_c T6'.out).mono ?_
    rintro e w7 ⟨rfl, T7, F7⟩
    have T7' : Hid (TB (fun _ => True) w7 t bm [] 0) := T7
    have B7' : Hid (Below w.heap.size w w7) := fr_below F7 B6'.out ht hbm B6'.out.size
    clear T7 F7 T6' B6'
    go_wp2_with fail
    refine (dropNo_c T7'.out n hn'.out hb'.out).mono ?_
    rintro e w8 ⟨rfl, T8, F8⟩
    have B8' : Hid (Below w.heap.size w w8) := fr_below F8 B7'.out ht hbm B7'.out.size
    clear T8 F8 T7' B7'
    go_wp2_with fail
    go_ret
    exact ⟨rfl, B8'.out⟩
  · have c1' : decide (n < 1) = false := decide_eq_false c1
    have c2 : n > 16384 := by omega
    clear hx
    go_enter Tryd.func4, Tryd.ntmps4
    go_wp2_with fail
    refine (fixed8_c _ al he'.out).mono ?_
    rintro e w1 ⟨rfl, B1⟩
    have B1' : Hid (Below w.heap.size w w1) := B1
    clear B1
    go_wp2_with fail
    refine (new_c _).mono ?_
    rintro e w2 ⟨t, bm, rfl, ht0, hbm0, T2, B2⟩
    have ht : w.heap.size ≤ t := Nat.le_trans B1'.out.size ht0
    have hbm : w.heap.size ≤ bm := Nat.le_trans B1'.out.size hbm0
    have T2' : Hid (TB (fun _ => True) w2 t bm [] 0) := T2
    have B2' : Hid (Below w.heap.size w w2) := below_tr B1'.out B2
    clear T2 B2 B1' ht0 hbm0
    go_wp2_with fail
    refine (atNo_c T2'.out n 0 hn'.out hb'.out al (EK.mk he'.out B2'.out ht hbm)).mono ?_
    rintro e w3 ⟨rfl, T3, F3⟩
    have T3' : Hid (TB (fun _ => True) w3 t bm [] 0) := T3
    have B3' : Hid (Below w.heap.size w w3) := fr_below F3 B2'.out ht hbm B2'.out.size
    clear T3 F3 T2' B2'
    go_wp2_with fail
    refine (listNo_c T3'.out n hn'.out hb'.out al (EK.mk he'.out B3'.out ht hbm)).mono ?_
    rintro e w4 ⟨rfl, T4, F4⟩
    have T4' : Hid (TB (fun _ => True) w4 t bm [] 0) := T4
    have B4' : Hid (Below w.heap.size w w4) := fr_below F4 B3'.out ht hbm B3'.out.size
    clear T4 F4 T3' B3'
    go_wp2_with fail
    refine (numE_c (Er.mk al 6 (by decide)) _ (he'.out.below B4'.out)).mono ?_
    rintro e w5 ⟨rfl, B5⟩
    have T5' : Hid (TB (fun _ => True) w5 t bm [] 0) := T4'.out.below B5
    have B5' : Hid (Below w.heap.size w w5) := below_tr B4'.out B5
    clear B5 T4' B4'
    go_wp2_with fail
    refine (numE_c (Er.mk al 6 (by decide)) _ (he'.out.below B5'.out)).mono ?_
    rintro e w6 ⟨rfl, B6⟩
    have T6' : Hid (TB (fun _ => True) w6 t bm [] 0) := T5'.out.below B6
    have B6' : Hid (Below w.heap.size w w6) := below_tr B5'.out B6
    clear B6 T5' B5'
    go_wp2_with fail
    refine (made_c T6'.out).mono ?_
    rintro e w7 ⟨rfl, T7, F7⟩
    have T7' : Hid (TB (fun _ => True) w7 t bm [] 0) := T7
    have B7' : Hid (Below w.heap.size w w7) := fr_below F7 B6'.out ht hbm B6'.out.size
    clear T7 F7 T6' B6'
    go_wp2_with fail
    refine (dropNo_c T7'.out n hn'.out hb'.out).mono ?_
    rintro e w8 ⟨rfl, T8, F8⟩
    have B8' : Hid (Below w.heap.size w w8) := fr_below F8 B7'.out ht hbm B7'.out.size
    clear T8 F8 T7' B7'
    go_wp2_with fail
    go_ret
    exact ⟨rfl, B8'.out⟩
set_option maxRecDepth 100000 in
set_option maxHeartbeats 16000000 in
theorem tr8_yes (n : Nat) (ao : Option Addr) (L C : Nat) (zs : List Int) (d : Int) (w : World) (al : List Addr) (he : Errs w al) (h1 : 1 ≤ n) (h2 : n ≤ 16384) (hL : zs.length = L) (hLb : L ≤ 17592186043904)
    (hin : zs ≠ [] → ∃ b off, ao = some ⟨b, off, none⟩ ∧ b < w.heap.size ∧ ∀ i, i < zs.length → w.cell? ⟨b, off + i, none⟩ = some (.int .i64 (zs.getD i 0))) :
    Calls Tryd.prog 4 #[.int .i64 (n : Int), .slice ao L C, .int .i64 d] w fun e w' => e = .returned (.bool true) ∧ Below w.heap.size w w' := by
  have he' : Hid (Errs w al) := he
  have hL' : Hid (zs.length = L) := hL
  have hi : Hid (zs ≠ [] → ∃ b off, ao = some ⟨b, off, none⟩ ∧ b < w.heap.size ∧ ∀ i, i < zs.length → w.cell? ⟨b, off + i, none⟩ = some (.int .i64 (zs.getD i 0))) := hin
  have c1 : decide ((n : Int) < 1) = false := decide_eq_false (by omega)
  have c2 : decide ((n : Int) > 16384) = false := decide_eq_false (by omega)
  have hlim : Hid (∀ j, Rp.pc n j < 18446744073709551616 ∧ Rp.pim n j < 18446744073709551616) := fun j => ⟨(Rp.pc_fin j h1 (by omega)).1, (Rp.pim_fin j h1 (by omega)).1⟩
  clear he hL hin
  go_enter Tryd.func4, Tryd.ntmps4
  go_wp2_with fail
  refine (fixed8_c _ al he'.out).mono ?_
  rintro e w1 ⟨rfl, B1⟩
  have B1' : Hid (Below w.heap.size w w1) := B1
  clear B1
  go_wp2_with fail
  refine (new_c _).mono ?_
  rintro e w2 ⟨t, bm, rfl, ht0, hbm0, T2, B2⟩
  have ht : w.heap.size ≤ t := Nat.le_trans B1'.out.size ht0
  have hbm : w.heap.size ≤ bm := Nat.le_trans B1'.out.size hbm0
  have T2' : Hid (TB (fun _ => True) w2 t bm [] 0) := T2
  have B2' : Hid (Below w.heap.size w w2) := below_tr B1'.out B2
  clear T2 B2 B1' ht0 hbm0
  go_wp2_with fail
  go_loopw [12, 13, 14, 15, 16, 17, 66] (fun _ _ _ _ _ _ si wx => ∃ (i made : Nat) (ks : List Nat), i ≤ L ∧ si = .int .i64 (i : Int) ∧ made ≤ i ∧ Hid (TB (fun _ => True) wx t bm ks made) ∧ Hid (Below w.heap.size w wx)) (fun _ _ _ _ _ _ si _ => L - (RowKit.intOf si).toNat)
  case atStart => exact ⟨0, 0, [], Nat.zero_le _, rfl, Nat.le_refl _, T2', B2'⟩
  case round =>
    clear T2' B2'
    obtain ⟨i, made, ks, hiL, rfl, hmi, T, B⟩ := hrel
    by_cases hlt : i < L
    · have hlt' : (i : Int) < (L : Int) := by omega
      obtain ⟨b, off, rfl, hbl, hcell⟩ := hi.out (fun e => by have := hL'.out; rw [e] at this; simp at this; omega)
      have cz0 : wr.cell? ⟨b, off + i, none⟩ = some (.int .i64 (zs.getD i 0)) := (B.out.cell (p := ⟨b, off + i, none⟩) hbl).trans (hcell i (by have := hL'.out; omega))
      clear hcell
      obtain ⟨k, hk⟩ : ∃ k, Hid (zs.getD i 0 = k) := ⟨_, rfl⟩
      rw [hk.out] at cz0
      by_cases hd : (i : Int) = d
      · have hd' : ((i : Int) == d) = true := by rw [beq_iff_eq]; exact hd
        clear hd
        go_wp2_with fail
        refine (drop_c T.out n h2).mono ?_
        rintro e w3 ⟨rfl, T3, F3⟩
        have T3' : Hid (TB (fun _ => True) w3 t bm (del n ks) made) := T3
        have B3' : Hid (Below w.heap.size w w3) := fr_below F3 B.out ht hbm B.out.size
        clear T3 F3
        go_wp2_with fail
        refine (at_c T3'.out n k h1 h2 (by omega) (.inr fun _ _ => trivial)).mono ?_
        rintro e w4 ⟨rfl, T4, F4⟩
        have T4' : Hid (TB (fun _ => True) w4 t bm (ins n (del n ks)) (nm n (del n ks) made)) := T4
        have B4' : Hid (Below w.heap.size w w4) := fr_below F4 B3'.out ht hbm B3'.out.size
        clear T4 F4 T3' B3' T B
        go_wp2_with fail
        refine (rootOk_c n k _ h1 (by omega)).mono ?_
        rintro e w5 ⟨rfl, B5⟩
        have T5' : Hid (TB (fun _ => True) w5 t bm (ins n (del n ks)) (nm n (del n ks) made)) := T4'.out.below B5
        have B5' : Hid (Below w.heap.size w w5) := below_tr B4'.out B5
        clear B5 T4' B4'
        obtain ⟨lx, ly⟩ := hlim.out (Rp.md n k)
        generalize Rp.pc n (Rp.md n k) = x at *
        generalize Rp.pim n (Rp.md n k) = y at *
        go_wp2_with fail
        refine (r2Same_q x y _ lx ly).mono ?_
        rintro e w6 ⟨rfl, rfl⟩
        go_wp2_with fail
        go_roundw
        case rel => exact ⟨i + 1, nm n (del n ks) made, ins n (del n ks), by omega, by go_num, by have := nm_le n (del n ks) made; omega, T5', B5'⟩
        case measure => simp [RowKit.intOf]; omega
      · have hd' : ((i : Int) == d) = false := beq_eq_false_iff_ne.2 hd
        have T3' : Hid (TB (fun _ => True) wr t bm ks made) := T
        have B3' : Hid (Below w.heap.size w wr) := B
        clear hd
        go_wp2_with fail
        refine (at_c T3'.out n k h1 h2 (by omega) (.inr fun _ _ => trivial)).mono ?_
        rintro e w4 ⟨rfl, T4, F4⟩
        have T4' : Hid (TB (fun _ => True) w4 t bm (ins n (ks)) (nm n (ks) made)) := T4
        have B4' : Hid (Below w.heap.size w w4) := fr_below F4 B3'.out ht hbm B3'.out.size
        clear T4 F4 T3' B3' T B
        go_wp2_with fail
        refine (rootOk_c n k _ h1 (by omega)).mono ?_
        rintro e w5 ⟨rfl, B5⟩
        have T5' : Hid (TB (fun _ => True) w5 t bm (ins n (ks)) (nm n (ks) made)) := T4'.out.below B5
        have B5' : Hid (Below w.heap.size w w5) := below_tr B4'.out B5
        clear B5 T4' B4'
        obtain ⟨lx, ly⟩ := hlim.out (Rp.md n k)
        generalize Rp.pc n (Rp.md n k) = x at *
        generalize Rp.pim n (Rp.md n k) = y at *
        go_wp2_with fail
        refine (r2Same_q x y _ lx ly).mono ?_
        rintro e w6 ⟨rfl, rfl⟩
        go_wp2_with fail
        go_roundw
        case rel => exact ⟨i + 1, nm n (ks) made, ins n (ks), by omega, by go_num, by have := nm_le n (ks) made; omega, T5', B5'⟩
        case measure => simp [RowKit.intOf]; omega
    · have hlt' : decide ((i : Int) < (L : Int)) = false := decide_eq_false (by omega)
      by_cases h20 : n > 2000
      · have h20' : (n : Int) > 2000 := by omega
        clear h20
        go_wp2_with fail
        go_ret
        exact ⟨rfl, B.out⟩
      · have h20' : decide ((n : Int) > 2000) = false := decide_eq_false (by omega)
        have h20'' : n ≤ 2000 := by omega
        clear h20
        go_wp2_with fail
        refine (list_t T.out n h1 h2 (by omega) (.inr fun _ _ => trivial)).mono ?_
        rintro e w4 ⟨wm, G, C4, rfl, Tm, Fm, Bm, hG, o4⟩
        have Bm' : Hid (Below w.heap.size w wm) := fr_below Fm B.out ht hbm B.out.size
        have B4' : Hid (Below w.heap.size w w4) := below_tr Bm'.out Bm
        have C4' : Hid (Cel w4 G n) := Cel.own o4 h1
        clear Tm Fm Bm o4 hG Bm' T B
        go_wp2_with fail
        refine (allOk_c n _ h1 h2).mono ?_
        rintro e w5 ⟨G5, rfl, g5, o5, B5⟩
        have B5' : Hid (Below w.heap.size w w5) := below_tr B4'.out B5
        have C5' : Hid (Cel w5 G n) := C4'.out.below B5
        have D5' : Hid (Cel w5 G5 n) := Cel.own o5 h1
        clear B5 o5 g5 C4' B4'
        go_wp2_with fail
        refine (sameRoots_c G G5 n _ _ _ h1 h2 C5'.out D5'.out).mono ?_
        rintro e w6 ⟨rfl, q, rfl⟩
        have B6' : Hid (Below w.heap.size w (w5.drewN q)) := below_drewN B5'.out q
        clear B5' C5' D5'
        go_wp2_with fail
        go_ret
        exact ⟨rfl, B6'.out⟩
end Go.Proofs.YtljopkmpcolgfaaDoor
namespace Go.Proofs.YtljopkmpcolgfaaDoor.tablesRoots
open Go.RowKit
theorem walk (n : Int) (v : Value) (zs : List Int) (d : Int) (w : World) (al : List Addr) (he : Errs w al) (hb : -9223372036854775808 ≤ n ∧ n ≤ 9223372036854775807) (hv : RdZ w v zs) (hl : zs.length ≤ 17592186043904) :
    Calls Tryd.prog 4 #[.int .i64 n, v, .int .i64 d] w fun e w' => e = .returned (.bool true) ∧ Below w.heap.size w w' := by
  cases hc : inn n
  · exact tr8_no n v d w al he hc hb
  · obtain ⟨h1, h2⟩ := of_decide_eq_true hc
    obtain ⟨m, rfl⟩ := Int.eq_ofNat_of_zero_le (show 0 ≤ n by omega)
    obtain ⟨ao, cap, rfl, hin⟩ := hv
    exact tr8_yes m ao zs.length cap zs d w al he (by omega) (by omega) rfl hl hin
end Go.Proofs.YtljopkmpcolgfaaDoor.tablesRoots
