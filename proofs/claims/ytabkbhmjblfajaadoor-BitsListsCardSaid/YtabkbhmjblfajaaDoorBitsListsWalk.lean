/-
  The walk of the statement BitsLists: at all lists of bits it returns true, and nothing that was in memory has turned.
-/
import Derived.Test.YtabkbhmjblfajaaDoorLsW
import Derived.Test.YtabkbhmjblfajaaDoorRows
import Derived.Outline
namespace Go.Proofs.YtabkbhmjblfajaaDoor.bitsLists
open Flo Go.RowKit
theorem lof_q (b : Int) (w : World) :
    Calls Tryd.prog 10 #[.int .u64 b] w fun e w' => e = .returned (.float .f64 b.toNat) ∧ w' = w :=
  (lof_c b w).mono fun _ _ h => ⟨h.1, h.2.symm⟩
theorem inS_at {w : World} {bo : Option Addr} {n bc : Nat} {zs : List Nat} (h : InS w (.slice bo n bc) zs) (hz : zs ≠ []) :
    ∃ b off, bo = some ⟨b, off, none⟩ ∧ b < w.heap.size ∧ ∀ i, i < zs.length → w.cell? ⟨b, off + i, none⟩ = some (.int .u64 ((zs.getD i 0 : Nat) : Int)) := by
  obtain ⟨ao, cap, e, h2⟩ := h
  simp only [Value.slice.injEq] at e
  obtain ⟨rfl, _, _⟩ := e
  exact h2 hz
theorem store_float (a : Addr) (x : Nat) (w : World) (m : Mode) : (store a (.float .f64 x) m).run Tryd.prog w = stored Tryd.prog w a (.float .f64 x) m := run_store Tryd.prog w a _ m rfl
set_option maxHeartbeats 2000000 in
theorem walk1 (va : Value) (bo : Option Addr) (bc : Nat) (zs ys : List Nat) (w : World) (ia : InS w va zs) (ib : InS w (.slice bo ys.length bc) ys) (la : lim zs) (lb : lim ys) (ra : zs.length * 8 ≤ 140737488351232) (rb : ys.length * 8 ≤ 140737488351232) :
    Calls Tryd.prog 5 #[va, .slice bo ys.length bc] w fun e w' => e = .returned (.bool true) ∧ Below w.heap.size w w' := by
  go_enter Tryd.func5, Tryd.ntmps5
  go_wp2_with (go_at_call 9; refine (lives_c _).mono ?_; rintro e w' ⟨rfl, rfl⟩)
  refine (floats_f va zs w ia ra).mono ?_
  rintro e w1 ⟨g1, c1, rfl, f1, hc1, hm1, hb1⟩
  have ia1 := ia.below hb1
  have ib1 := ib.below hb1
  go_wp2_with fail
  refine (floats_f _ ys w1 ib1 rb).mono ?_
  rintro e w2 ⟨g2, c2, rfl, f2, hc2, hm2, hb2⟩
  have f1' := f1.below hb2 f1.hi
  have ia2 := ia1.below hb2
  have hb12 : Below w.heap.size w w2 := hb1.trans (hb2.mono hb1.size)
  go_wp2_with fail
  refine (sameList_c _ _ zs ys w2 (f1'.rd c1) (f2.rd c2) la lb ra).mono ?_
  rintro e w' ⟨rfl, rfl⟩
  go_wp2_with fail
  refine (rsameList_c _ _ zs ys w2 (f1'.rd c1) (f2.rd c2) la lb ra).mono ?_
  rintro e w3 ⟨rfl, q, rfl⟩
  have hb3 : Below w2.heap.size w2 (w2.drewN q) := below_drewN (Below.refl _ _) q
  go_wp2_with fail
  refine (floats_f va zs (w2.drewN q) (ia2.below hb3) ra).mono ?_
  rintro e w4 ⟨g4, c4, rfl, f4, hc4, hm4, hb4⟩
  have f1'' := (f1'.below hb3 (f1'.hi)).below hb4 f1'.hi
  go_wp2_with fail
  have hss := sl_self zs
  refine (sameList_c _ _ zs zs w4 (f1''.rd c1) (f4.rd c4) la la ra).mono ?_
  rintro e w' ⟨rfl, rfl⟩
  go_wp2_with fail
  refine (sameList_0 _ _ _ _ _).mono ?_
  rintro e w' ⟨rfl, rfl⟩
  have hb5 : Below w4.heap.size w4 (w4.alloc (.cells #[] 24)) := (Below.refl _ _).alloc (Nat.le_refl _) _
  have F1 := f1''.below hb5 f1''.hi
  have F2 := ((f2.below hb3 f2.hi).below hb4 f2.hi).below hb5 (Nat.lt_of_lt_of_le f2.hi hb4.size)
  have HB : Below w.heap.size w (w4.alloc (.cells #[] 24)) := ((hb12.trans (hb3.mono hb12.size)).trans (hb4.mono hb12.size)).trans (hb5.mono (Nat.le_trans hb12.size hb4.size))
  have hg12 : g1 ≠ g2 := by have x1 := f1.hi; have x2 := f2.lo; omega
  have hB1 : w.heap.size ≤ g1 := f1.lo
  generalize w4.alloc (.cells #[] 24) = w5 at F1 F2 HB ⊢
  clear f1'' f4 hb4 hb5 hb3 f1' f2 f1 hb12 ia2 ia1 ib1 hb1 hb2 hss
  go_wp2_with fail
  go_loopw [36] (fun i wx => ∃ k : Nat, k ≤ zs.length ∧ i = .int .i64 k ∧ Fs wx w.heap.size g1 zs.length (nx zs k) ∧ Fs wx w1.heap.size g2 ys.length ys ∧ Below w.heap.size w wx) (fun i _ => zs.length - (intOf i).toNat)
  case atStart => exact ⟨0, Nat.zero_le _, rfl, F1.start, F2, HB⟩
  case round =>
    obtain ⟨k, hk, rfl, G1, G2, GB⟩ := hrel
    by_cases hlt : k < zs.length
    · have hlt' : (k : Int) < (zs.length : Int) := by omega
      have cz : wr.cell? ⟨g1, k, none⟩ = some (.float .f64 (zs.getD k 0)) := by rw [G1.cell k hlt, nx_get zs k k hlt, if_neg (by omega)]
      have fz := G1.free k
      have lz := lim_at la k hlt
      cases hn : nanB (zs.getD k 0)
      · have hne : (FloatKind.f64.format.order (zs.getD k 0) (zs.getD k 0) != some Ordering.eq) = false := (ne_self _ lz).trans hn
        have N1 := G1.next k hlt rfl (by unfold fx; rw [hn]; rfl)
        clear hn G1
        generalize zs.getD k 0 = z at cz lz hne
        go_wp2
        go_roundw
        case rel => exact ⟨k + 1, by omega, by go_num, N1, G2, GB⟩
        case measure => simp [intOf]; omega
      · have hne : (FloatKind.f64.format.order (zs.getD k 0) (zs.getD k 0) != some Ordering.eq) = true := (ne_self _ lz).trans hn
        have N1 := G1.put k hlt rfl
        have ex : fx (zs.getD k 0) = 18442240474082181121 := by unfold fx; rw [hn]; rfl
        rw [ex] at N1
        have N2 := G2.keep (a := ⟨g1, k, none⟩) hg12 (.float .f64 18442240474082181121)
        have NB := GB.setCell (p := ⟨g1, k, none⟩) hB1 (.float .f64 18442240474082181121)
        clear hn G1 G2 GB ex
        have hst := store_float
        generalize zs.getD k 0 = z at cz lz hne
        go_wp2_with (go_at_call 10; refine (lof_c _ _).mono ?_; rintro e w' ⟨rfl, rfl⟩)
        go_roundw
        case rel => exact ⟨k + 1, by omega, by go_num, N1, N2, NB⟩
        case measure => simp [intOf]; omega
    · have hlt' : decide ((k : Int) < (zs.length : Int)) = false := decide_eq_false (by omega)
      have ek : k = zs.length := by omega
      subst ek
      go_wp2_with fail
      refine (floats_f va zs wr (ia.below GB) ra).mono ?_
      rintro e w6 ⟨g6, c6, rfl, f6, hc6, hm6, hb6⟩
      have H1 := G1.below hb6 G1.hi
      have H2 := G2.below hb6 G2.hi
      have HB6 := GB.trans (hb6.mono GB.size)
      have hnx := sl_nx zs zs.length
      go_wp2_with fail
      refine (sameList_c _ _ (nx zs zs.length) zs w6 (H1.rd c1) (f6.rd c6) (nx_lim la _) la (by rw [nx_len]; exact ra)).mono ?_
      rintro e w' ⟨rfl, rfl⟩
      clear G1 G2 GB hb6 f6
      by_cases hz : 0 < zs.length
      · have hz' : (0 : Int) < (zs.length : Int) := by omega
        have hz1 : (1 : Int) ≤ (zs.length : Int) := by omega
        have hcc : (zs.length : Int) ≤ (c1 : Int) := by omega
        have hd1 : (((zs.length - 1 : Nat) : Int) == ((zs.length : Nat) : Int)) = false := beq_eq_false_iff_ne.2 (by omega)
        have hd2 : (((zs.length : Nat) : Int) == ((zs.length - 1 : Nat) : Int)) = false := beq_eq_false_iff_ne.2 (by omega)
        have hD : Hid (_ ∧ _) := And.intro hd1 hd2
        clear hd1 hd2
        go_wp2_with fail
        all_goals
          refine (sameList_ne _ _ (zs.length - 1) zs.length _ _ _ hD.out.1).mono ?_
          rintro e w' ⟨rfl, rfl⟩
          go_wp2_with fail
          refine (sameList_ne _ _ zs.length (zs.length - 1) _ _ _ hD.out.2).mono ?_
          rintro e w' ⟨rfl, rfl⟩
          go_wp2_with fail
          go_loopw [7, 79] (fun o i wx => ∃ k d : Nat, k ≤ ys.length ∧ o = .bool true ∧ i = .int .i64 k ∧ wx = w6.drewN d) (fun _ i _ => ys.length - (intOf i).toNat)
          case atStart => exact ⟨0, 0, Nat.zero_le _, rfl, rfl, rfl⟩
          case round =>
            obtain ⟨k, d, hk, rfl, rfl, rfl⟩ := hrel
            by_cases hlt : k < ys.length
            · obtain ⟨b, off, hbo, h3, h4⟩ := inS_at (InS.below ib HB6) (by intro e; rw [e] at hlt; cases hlt)
              have hlt' : (k : Int) < (ys.length : Int) := by omega
              have cy : (w6.drewN d).cell? ⟨g2, k, none⟩ = some (.float .f64 (ys.getD k 0)) := H2.cell k hlt
              have cb : (w6.drewN d).cell? ⟨b, off + k, none⟩ = some (.int .u64 ((ys.getD k 0 : Nat) : Int)) := h4 k hlt
              have hto := run_tobits
              clear h4
              generalize ys.getD k 0 = y at cy cb
              generalize hwx : w6.drewN d = wx at cy cb ⊢
              have hw : Hid (w6.drewN d = wx) := hwx
              clear hwx
              subst hbo
              go_wp2_with fail
              go_quiet ((go_at_call 10; exact Calls.quiet_of_same (lof_q _ _)))
              go_wp2_with fail
              go_roundw
              case rel => exact ⟨k + 1, d + nq, by omega, rfl, by go_num, by rw [← hw.out, World.drewN_drewN]⟩
              case measure => simp [intOf]; omega
            · have hlt' : decide ((k : Int) < (ys.length : Int)) = false := decide_eq_false (by omega)
              go_wp2_with fail
              go_ret
              exact ⟨rfl, below_drewN HB6 d⟩
      · have hz' : decide ((0 : Int) < (zs.length : Int)) = false := decide_eq_false (by omega)
        go_wp2_with fail
        go_loopw [7, 79] (fun o i wx => ∃ k d : Nat, k ≤ ys.length ∧ o = .bool true ∧ i = .int .i64 k ∧ wx = w6.drewN d) (fun _ i _ => ys.length - (intOf i).toNat)
        case atStart => exact ⟨0, 0, Nat.zero_le _, rfl, rfl, rfl⟩
        case round =>
          obtain ⟨k, d, hk, rfl, rfl, rfl⟩ := hrel
          by_cases hlt : k < ys.length
          · obtain ⟨b, off, hbo, h3, h4⟩ := inS_at (InS.below ib HB6) (by intro e; rw [e] at hlt; cases hlt)
            have hlt' : (k : Int) < (ys.length : Int) := by omega
            have cy : (w6.drewN d).cell? ⟨g2, k, none⟩ = some (.float .f64 (ys.getD k 0)) := H2.cell k hlt
            have cb : (w6.drewN d).cell? ⟨b, off + k, none⟩ = some (.int .u64 ((ys.getD k 0 : Nat) : Int)) := h4 k hlt
            have hto := run_tobits
            clear h4
            generalize ys.getD k 0 = y at cy cb
            generalize hwx : w6.drewN d = wx at cy cb ⊢
            have hw : Hid (w6.drewN d = wx) := hwx
            clear hwx
            subst hbo
            go_wp2_with fail
            go_quiet ((go_at_call 10; exact Calls.quiet_of_same (lof_q _ _)))
            go_wp2_with fail
            go_roundw
            case rel => exact ⟨k + 1, d + nq, by omega, rfl, by go_num, by rw [← hw.out, World.drewN_drewN]⟩
            case measure => simp [intOf]; omega
          · have hlt' : decide ((k : Int) < (ys.length : Int)) = false := decide_eq_false (by omega)
            go_wp2_with fail
            go_ret
            exact ⟨rfl, below_drewN HB6 d⟩
end Go.Proofs.YtabkbhmjblfajaaDoor.bitsLists
