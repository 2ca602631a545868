/-
  Package tables: List (slices.Clone of a table).
-/
import Derived.Test.YtljopkmpcolgfaaDoorTb8
import Derived.Test.YtljopkmpcolgfaaDoorCpy
import Derived.Test.YtljopkmpcolgfaaDoorNum
namespace Go.Proofs.YtljopkmpcolgfaaDoor
open Flo Go.RowKit Go.Maps Go.MuLone
theorem nilc_some (a : Addr) (m c : Nat) (w : World) : (binOp .eql 40 (.slice (some a) m c) (.slice none 0 0)).run Tryd.prog w = .ok (.bool false) w := by kernel_rfl
set_option maxRecDepth 100000 in
set_option maxHeartbeats 1000000 in
theorem clone8_c (g n : Nat) (w : World) (h1 : 0 < n) (h2 : n ≤ 16384) (hc : Cel w g n) :
    Calls Tryd.prog 28 #[.slice (some ⟨g, 0, none⟩) n n] w fun e w' => ∃ G C, e = .returned (.slice (some ⟨G, 0, none⟩) n C) ∧ w.heap.size ≤ G ∧ w'.ownsRow w.heap.size 35 1 (.slice (some ⟨G, 0, none⟩) n C) n (cz (rl n)) ∧ Below w.heap.size w w' := by
  obtain ⟨i0, hi, hz0, hz1, hz2⟩ := info_cx
  have hh : Hid (∀ o : Obj, ∀ j u, (cz (rl n))[j]? = some u → (w.alloc o).cell? (Addr.add ⟨g, 0, none⟩ j) = some u) := fun o j u hj => by
    have hl : j < n := by
      have := (List.getElem?_eq_some_iff.1 hj).1
      rwa [cz_len, rl_len] at this
    rw [rl_at hl] at hj
    cases hj
    have := hc.at_ j hl
    have e : Addr.add ⟨g, 0, none⟩ j = ⟨g, j, none⟩ := by simp [Addr.add]; omega
    rw [e, World.cell?_alloc_lt w o _ hc.lt]; exact this
  have hone : Hid (∀ u ∈ cz (rl n), u.oneCell' = true) := fun u hu => by
    obtain ⟨z, _, rfl⟩ := List.mem_map.1 hu
    rfl
  have hlen : Hid ((cz (rl n)).length = n * 1) := (by rw [cz_len, rl_len, Nat.mul_one] : (cz (rl n)).length = n * 1)
  have hq := nilc_some ⟨g, 0, none⟩ n n
  have hE : Hid ((w.alloc (.cells #[] 35)).ownsRow w.heap.size 35 1 (.slice (some ⟨w.heap.size, 0, none⟩) 0 0) 0 []) := emptyCx w _ (Nat.le_refl _)
  have hb2 : Hid (n ≤ 16384) := h2
  clear hc h2
  go_enter Tryd.func28, Tryd.ntmps28
  go_wp2_with (at_builtin; refine wpList_append_own _ rfl _ _ 40 rfl w.heap.size 35 i0 (.complex .f64 0 0) 1 16 Tryd.underlying40 hi hz0 hz1 hz2 rfl (by decide) _ _ _ rfl hE.out ⟨g, 0, none⟩ n n (cz (rl n)) rfl hlen.out (hh.out _) hone.out (by have := hb2.out; unfold maxLen; omega) (by have := hb2.out; omega) (by simp) ?_)
  intro v' w2 ho hg _
  have hoH : Hid (w2.ownsRow w.heap.size 35 1 v' n (cz (rl n))) := (by simpa using ho : w2.ownsRow w.heap.size 35 1 v' n (cz (rl n)))
  have hbH : Hid (Below w.heap.size w w2) := ((Below.refl w.heap.size w).alloc (Nat.le_refl _) _).grown hg (by simp) (fun k hk => by cases hk; exact Nat.le_refl _)
  obtain ⟨G, C, rfl, hG⟩ : ∃ G C, v' = .slice (some ⟨G, 0, none⟩) n C ∧ w.heap.size ≤ G := by
    rcases hoH.out.2 with ⟨_, h⟩ | ⟨G, C, _, h, hG, _⟩
    · omega
    · exact ⟨G, C, h, hG⟩
  clear ho hg hh hone hlen hE
  go_wp2
  go_ret
  exact ⟨G, C, rfl, hG, hoH.out, hbH.out⟩
section
variable {F : Nat → Prop} {w : World} {t bm made : Nat} {ks : List Nat}
set_option maxHeartbeats 2000000 in
theorem list_t (h : TB F w t bm ks made) (n : Nat) (h1 : 1 ≤ n) (h2 : n ≤ 16384) (hm : made < 4611686018427387904) (hF : n ∈ ks ∨ ∀ k, w.heap.size ≤ k → F k) :
    Calls Tryd.prog 13 #[.pointer (some ⟨t, 0, none⟩), .int .i64 (n : Int)] w fun e w' => ∃ wm G C, e = .returned (.tuple #[.slice (some ⟨G, 0, none⟩) n C, .nilIface]) ∧ TB F wm t bm (ins n ks) (nm n ks made) ∧ Fr (tb t bm) w wm ∧ Below wm.heap.size wm w' ∧ wm.heap.size ≤ G ∧
      w'.ownsRow wm.heap.size 35 1 (.slice (some ⟨G, 0, none⟩) n C) n (cz (rl n)) := by
  have ht := table_c h n h1 h2 hm hF
  clear h hm hF
  go_enter Tryd.func13, Tryd.ntmps13
  go_wp2_with fail
  refine ht.mono ?_
  rintro e1 w1 ⟨g, rfl, T1, F1, C1⟩
  have T1' : Hid (TB F w1 t bm (ins n ks) (nm n ks made)) := T1
  have F1' : Hid (Fr (tb t bm) w w1) := F1
  clear T1 F1 ht
  go_wp2_with fail
  refine (clone8_c g n w1 h1 h2 C1).mono ?_
  rintro e2 w2 ⟨G, C, rfl, g2, o2, B2⟩
  have o2' : Hid (w2.ownsRow w1.heap.size 35 1 (.slice (some ⟨G, 0, none⟩) n C) n (cz (rl n))) := o2
  have B2' : Hid (Below w1.heap.size w1 w2) := B2
  clear o2 B2 C1
  go_wp2_with fail
  go_ret2
  exact ⟨w1, G, C, rfl, T1'.out, F1'.out, B2'.out, g2, o2'.out⟩
end
end Go.Proofs.YtljopkmpcolgfaaDoor
namespace Go.Proofs.YtljopkmpcolgfaaDoor
open Flo Go.RowKit Go.Maps Go.MuLone
theorem r2Same_q (a b : Nat) (w : World) (ha : a < 18446744073709551616) (hb : b < 18446744073709551616) :
    Calls Tryd.prog 18 #[.complex .f64 a b, .complex .f64 a b] w fun e w' => e = .returned (.bool true) ∧ w' = w :=
  (r2Same_c a b a b w ha hb ha hb).mono fun _ _ h => ⟨by rw [h.1]; simp [cs], h.2.symm⟩
set_option maxHeartbeats 2000000 in
theorem sameRoots_c (g h n c d : Nat) (w : World) (h1 : 0 < n) (h2 : n ≤ 16384) (hg : Cel w g n) (hh : Cel w h n) :
    Calls Tryd.prog 20 #[.slice (some ⟨g, 0, none⟩) n c, .slice (some ⟨h, 0, none⟩) n d] w fun e w' => e = .returned (.bool true) ∧ ∃ q, w' = w.drewN q := by
  have hG : Hid (Cel w g n) := hg
  have hH : Hid (Cel w h n) := hh
  have hlim : Hid (∀ j, Rp.pc n j < 18446744073709551616 ∧ Rp.pim n j < 18446744073709551616) := fun j => ⟨(Rp.pc_fin j h1 (by omega)).1, (Rp.pim_fin j h1 (by omega)).1⟩
  clear hg hh
  go_enter Tryd.func20, Tryd.ntmps20
  go_wp2
  go_loopw [5] (fun i wx => ∃ k q : Nat, k ≤ n ∧ i = .int .i64 k ∧ wx = w.drewN q) (fun i _ => n - (RowKit.intOf i).toNat)
  case atStart => exact ⟨0, 0, Nat.zero_le _, rfl, rfl⟩
  case round =>
    obtain ⟨k, q, hk, rfl, rfl⟩ := hrel
    by_cases hlt : k < n
    · have hlt' : (k : Int) < (n : Int) := by omega
      have c1 : (w.drewN q).cell? ⟨g, k, none⟩ = some (.complex .f64 (Rp.pc n k) (Rp.pim n k)) := hG.out.at_ k hlt
      have c2 : (w.drewN q).cell? ⟨h, k, none⟩ = some (.complex .f64 (Rp.pc n k) (Rp.pim n k)) := hH.out.at_ k hlt
      obtain ⟨lx, ly⟩ := hlim.out k
      generalize Rp.pc n k = x at *
      generalize Rp.pim n k = y at *
      generalize hwx : w.drewN q = wx at c1 c2 ⊢
      have hw : Hid (w.drewN q = wx) := hwx
      clear hwx
      go_wp2_with fail
      go_quiet ((go_at_call 18; exact Calls.quiet_of_same (r2Same_q _ _ _ lx ly)))
      go_wp2_with fail
      go_roundw
      case rel => exact ⟨k + 1, q + nq, by omega, by go_num, by rw [← hw.out, World.drewN_drewN]⟩
      case measure => simp [RowKit.intOf]; omega
    · have hlt' : decide ((k : Int) < (n : Int)) = false := decide_eq_false (by omega)
      go_wp2_with fail
      go_ret
      exact ⟨rfl, q, rfl⟩
theorem fr_below {N : Nat} {a w w' : World} {t bm : Nat} (h : Fr (tb t bm) w w') (hb : Below N a w) (h1 : N ≤ t) (h2 : N ≤ bm) (hN : N ≤ w.heap.size) : Below N a w' :=
  h.below hb hN fun k _ hk => by rcases hk with rfl | rfl <;> assumption
theorem m43 : Rp.md 4 (-3) = Rp.md 4 1 := by decide
set_option maxRecDepth 100000 in
set_option maxHeartbeats 4000000 in
theorem fixed8_c (w : World) (al : List Addr) (he : Errs w al) :
    Calls Tryd.prog 7 #[] w fun e w' => e = .returned (.bool true) ∧ Below w.heap.size w w' := by
  have he' : Hid (Errs w al) := he
  have o1 : FloatKind.f64.format.order 0 0 = some .eq := by decide +kernel
  have o2 : FloatKind.f64.format.order 13830554455654793216 13830554455654793216 = some .eq := by decide +kernel
  clear he
  go_enter Tryd.func7, Tryd.ntmps7
  go_wp2_with fail
  refine (new_c _).mono ?_
  rintro e w1 ⟨t, bm, rfl, ht, hbm, T1, B1⟩
  have T1' : Hid (TB (fun _ => True) w1 t bm [] 0) := T1
  have B1' : Hid (Below w.heap.size w w1) := B1
  clear T1 B1
  go_wp2_with fail
  refine (at_c T1'.out 4 1 (by decide) (by decide) (by decide) (.inr fun _ _ => trivial)).mono ?_
  rw [w41.1, w41.2]
  rintro e w2 ⟨rfl, T2, F2⟩
  have T2' : Hid (TB (fun _ => True) w2 t bm [4] 1) := T2
  have B2' : Hid (Below w.heap.size w w2) := fr_below F2 B1'.out ht hbm B1'.out.size
  clear T2 F2 T1' B1'
  go_wp2_with fail
  refine (at_c T2'.out 4 (-3) (by decide) (by decide) (by decide) (.inr fun _ _ => trivial)).mono ?_
  rw [m43, w41.1, w41.2]
  rintro e w3 ⟨rfl, T3, F3⟩
  have T3' : Hid (TB (fun _ => True) w3 t bm [4] 1) := T3
  have B3' : Hid (Below w.heap.size w w3) := fr_below F3 B2'.out ht hbm B2'.out.size
  clear T3 F3 T2' B2'
  go_wp2_with fail
  refine (atNo_c T3'.out 0 1 (by decide) (by decide) al (EK.mk he'.out B3'.out ht hbm)).mono ?_
  rintro e w4 ⟨rfl, T4, F4⟩
  have T4' : Hid (TB (fun _ => True) w4 t bm [4] 1) := T4
  have B4' : Hid (Below w.heap.size w w4) := fr_below F4 B3'.out ht hbm B3'.out.size
  clear T4 F4 T3' B3'
  go_wp2_with fail
  refine (made_c T4'.out).mono ?_
  rintro e w5 ⟨rfl, T5, F5⟩
  have T5' : Hid (TB (fun _ => True) w5 t bm [4] 1) := T5
  have B5' : Hid (Below w.heap.size w w5) := fr_below F5 B4'.out ht hbm B4'.out.size
  clear T5 F5 T4' B4'
  go_wp2_with fail
  refine (numE_c (Er.mk al 6 (by decide)) _ (he'.out.below B5'.out)).mono ?_
  rintro e w6 ⟨rfl, B6⟩
  have T6' : Hid (TB (fun _ => True) w6 t bm [4] 1) := T5'.out.below B6
  have B6' : Hid (Below w.heap.size w w6) := below_tr B5'.out B6
  clear B6 T5' B5'
  go_wp2_with fail
  refine (drop_c T6'.out 4 (by decide)).mono ?_
  rintro e w7 ⟨rfl, T7, F7⟩
  have T7' : Hid (TB (fun _ => True) w7 t bm [] 1) := T7
  have B7' : Hid (Below w.heap.size w w7) := fr_below F7 B6'.out ht hbm B6'.out.size
  clear T7 F7 T6' B6'
  go_wp2_with fail
  refine (drop_c T7'.out 4 (by decide)).mono ?_
  rintro e w8 ⟨rfl, T8, F8⟩
  have B8' : Hid (Below w.heap.size w w8) := fr_below F8 B7'.out ht hbm B7'.out.size
  clear T8 F8 T7' B7'
  go_wp2_with fail
  go_ret
  exact ⟨rfl, B8'.out⟩
end Go.Proofs.YtljopkmpcolgfaaDoor
