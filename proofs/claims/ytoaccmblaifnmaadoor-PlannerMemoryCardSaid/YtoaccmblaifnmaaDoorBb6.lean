/-
  What PlannerLists and its fellows rest on, joined: Oy2 Oy3.
-/
import Derived.WalkKit
import Ieee.Arith
import Derived.WalkLawsBesides
import Derived.Test.YtoaccmblaifnmaaDoorProg
import Derived.Deep.DeepCutAuto
import Derived.Deep.QuietTactic
import Derived.Laws.Rows
import Derived.Lib.ItoaNum
import Derived.Laws.IdiomStrings
import Derived.Deep.RegionHeld3
import Derived.Lib.SmallJoins
import Derived.Lib.HexFns
import Derived.Test.YtoaccmblaifnmaaDoorRows
import Derived.LaidEql
import Derived.LaidLaws
import Derived.LaidHandle
import Derived.Stop.Joined
import Derived.Deep.RegionWith
import Derived.Recover
import Derived.RegionDies
import Derived.Outline
import Derived.Laws.CopyOwn
import Derived.Lib.AppendIntMem
import Derived.Laws.AppendOwn
import Derived.OwnWalk
import Derived.BigCall
import Derived.BigQuiet
import Derived.WalkSmall
import Derived.Deep.RegionHeldLaw
import Derived.Test.YtoaccmblaifnmaaDoorBb5
namespace Go.Proofs.YtoaccmblaifnmaaDoor
open Flo Go.RowKit Tr
set_option maxHeartbeats 1000000 in
theorem partsLeft_c (t : Tr) : ∀ (v : Value) (m : Nat) (w : World), Od w t v → pt t ≤ m → m ≤ 65536 → Calls Tryd.prog 62 #[v, .int .i64 (m : Int)] w fun e w' => e = .returned (.int .i64 ((m - pt t : Nat) : Int)) ∧ Below w.heap.size w w' := by
  refine Tr.ind (P := fun t => ∀ (v : Value) (m : Nat) (w : World), Od w t v → pt t ≤ m → m ≤ 65536 → Calls Tryd.prog 62 #[v, .int .i64 (m : Int)] w fun e w' => e = .returned (.int .i64 ((m - pt t : Nat) : Int)) ∧ Below w.heap.size w w') (fun k n ks ih0 v m w ho hpm hm => ?_) t
  obtain ⟨ao, cap, rfl, hl0, hk0⟩ := ho.kds
  obtain ⟨L, hL⟩ : ∃ L, Hid (ks.length = L) := ⟨_, (rfl : _ = _)⟩
  have hk : Hid (Kds w ao L ks) := by show Kds _ _ _ _; rw [← hL.out]; exact hk0
  have hl : L ≤ 9223372036854775807 := by rw [← hL.out]; exact hl0
  have ih : Hid (∀ t ∈ ks, ∀ (v : Value) (m : Nat) (w : World), Od w t v → pt t ≤ m → m ≤ 65536 → Calls Tryd.prog 62 #[v, .int .i64 (m : Int)] w fun e w' => e = .returned (.int .i64 ((m - pt t : Nat) : Int)) ∧ Below w.heap.size w w') := ih0
  have hpt : Hid (pt ⟨k, n, ks⟩ = 1 + pti ks L) := by show _ = _; rw [← hL.out]; exact pt_any k n ks
  have hpi : Hid (∀ i, 1 + pti ks i ≤ m) := fun i => Nat.le_trans (pti_le k n ks i) hpm
  have h1m : 1 ≤ m := by have := pt_pos ⟨k, n, ks⟩; omega
  rw [hL.out]
  rw [hpt.out]
  obtain ⟨wa, ewa⟩ : ∃ wa, Hid (w.alloc (.cells #[.int .i64 k, .int .i64 n, .slice ao L cap] 24) = wa) := ⟨_, (rfl : _ = _)⟩
  have Ba : Hid (Below w.heap.size w wa) := by show Below _ _ _; rw [← ewa.out]; exact (Below.refl _ _).alloc (Nat.le_refl _) _
  have Xa : Hid (Bo wa w.heap.size k n (.slice ao L cap)) := by show Bo _ _ _ _ _; rw [← ewa.out]; exact Bo.new _ _ _ _
  have hBa : Hid (w.heap.size < wa.heap.size) := Xa.out.lt
  clear hk0 hl0 ih0 ho hpm
  go_enter Tryd.func62, Tryd.ntmps62
  go_upto_region 1 with fail
  rw [ewa.out]
  obtain ⟨g, hg⟩ : ∃ g, Hid (w.heap.size = g) := ⟨_, (rfl : _ = _)⟩
  rw [hg.out] at Xa hBa ⊢
  obtain ⟨m1, hm1, hm1'⟩ : ∃ m1 : Nat, Hid (m1 = m - 1) ∧ (m : Int) - 1 = (m1 : Int) := ⟨m - 1, (rfl : _ = _), by omega⟩
  have hm1b : m1 ≤ 65536 := by rw [hm1.out]; omega
  go_wp2_with fail
  go_loopw [5, 6] (fun sl si wx => ∃ (i x : Nat), i ≤ L ∧ x ≤ 65536 ∧ Hid (x + (1 + pti ks i) = m) ∧ sl = .int .i64 (x : Int) ∧ si = .int .i64 (i : Int) ∧ Hid (Below w.heap.size w wx) ∧ Hid (Bo wx g k n (.slice ao L cap))) (fun _ si _ => L - (intOf si).toNat)
  case atStart => exact ⟨0, m1, Nat.zero_le _, hm1b, (by show _ = _; rw [pti_zero, hm1.out]; omega), rfl, rfl, Ba, Xa⟩
  case round =>
    obtain ⟨i, x, hi, hx, hxe, rfl, rfl, hb, hX⟩ := hrel
    have c2 := hX.out.c2
    by_cases hlt : i < L
    · have hlt' : (i : Int) < (L : Int) := by omega
      have hx0 : (x : Int) ≥ 0 := by omega
      obtain ⟨b, off, s, t', et, K0⟩ := hk.out i hlt
      have K := K0.below hb.out
      obtain rfl := K.at0
      obtain ⟨a1, l1, p1, rfl⟩ := K.slc
      have d0 := K.c0
      have d1 := K.c1
      have d2 := K.c2
      have hod : Hid (Od wr t' (.agg #[.int .i64 t'.k, .int .i64 t'.n, .slice a1 l1 p1])) := K.od
      have hmem : Hid (t' ∈ ks) := List.mem_of_getElem? et
      have hst : Hid (pti ks (i + 1) = pti ks i + pt t') := by
        have hi' : i < ks.length := by rw [hL.out]; exact hlt
        have e2 : ks[i] = t' := by rw [List.getElem?_eq_getElem hi'] at et; exact Option.some.inj et
        show _ = _
        rw [pti_succ hi', e2]
      have hpx : pt t' ≤ x := by have h1 := hpi.out (i + 1); rw [hst.out] at h1; have := hxe.out; omega
      clear K K0 et
      generalize t'.k = k1 at *
      generalize t'.n = n1 at *
      obtain ⟨y, hy⟩ : ∃ y : Nat, Hid (x - pt t' = y) := ⟨_, (rfl : _ = _)⟩
      have hyb : y ≤ 65536 := by rw [← hy.out]; omega
      have hc : Hid (Calls Tryd.prog 62 #[.agg #[.int .i64 k1, .int .i64 n1, .slice a1 l1 p1], .int .i64 (x : Int)] wr fun e w' => e = .returned (.int .i64 (y : Int)) ∧ Below wr.heap.size wr w') := by
        have := ih.out t' hmem.out _ x wr hod.out hpx hx
        rw [hy.out] at this; exact this
      have hye : Hid (y + (1 + pti ks (i + 1)) = m) := by show _ = _; rw [hst.out, ← hy.out]; have := hxe.out; omega
      clear hpx
      go_wp2_with fail
      refine hc.out.mono ?_
      rintro e w1 ⟨rfl, B1⟩
      have hb1 : Hid (Below w.heap.size w w1) := btr hb.out B1
      have hX1 : Hid (Bo w1 g k n (.slice (some ⟨b, off, none⟩) L cap)) := hX.out.bel B1
      clear B1 hc d0 d1 d2 c2
      go_wp2_with fail
      go_roundw
      case rel => exact ⟨i + 1, y, by omega, hyb, hye, rfl, by go_num, hb1, hX1⟩
      case measure => simp [intOf]; omega
    · have hlt' : decide ((i : Int) < (L : Int)) = false := decide_eq_false (by omega)
      have ei : i = L := by omega
      subst ei
      have hr : Hid (x = m - (1 + pti ks i)) := by show _ = _; have := hxe.out; omega
      go_wp2_with fail
      go_ret
      exact ⟨by rw [← hr.out]; rfl, hb.out⟩
set_option maxHeartbeats 2000000 in
set_option maxRecDepth 100000 in
theorem byParts_c (t : Tr) : ∀ (v : Value) (w : World), Od w t v → pt t ≤ 65536 → Calls Tryd.prog 63 #[v] w fun e w' => ∃ u, e = .returned u ∧ Os (nw w) w' t u ∧ Below w.heap.size w w' := by
  refine Tr.ind (P := fun t => ∀ (v : Value) (w : World), Od w t v → pt t ≤ 65536 → Calls Tryd.prog 63 #[v] w fun e w' => ∃ u, e = .returned u ∧ Os (nw w) w' t u ∧ Below w.heap.size w w') (fun k n ks ih0 v w ho hpt0 => ?_) t
  have hfit : Hid (fit k n) := ho.fits
  obtain ⟨ao, cap, rfl, hl0, hk0⟩ := ho.kds
  obtain ⟨L, hL⟩ : ∃ L, Hid (ks.length = L) := ⟨_, (rfl : _ = _)⟩
  have hk : Hid (Kds w ao L ks) := by show Kds _ _ _ _; rw [← hL.out]; exact hk0
  have hl : L ≤ 9223372036854775807 := by rw [← hL.out]; exact hl0
  have hL6 : L ≤ 65536 := by
    have h1 : ∀ l : List Tr, l.length ≤ (l.map pt).sum := fun l => by
      induction l with
      | nil => simp
      | cons a r ih => have := pt_pos a; simp; omega
    have h2 := h1 ks
    rw [pt_eq] at hpt0
    rw [← hL.out]; omega
  have ih : Hid (∀ t ∈ ks, ∀ (v : Value) (w : World), Od w t v → Calls Tryd.prog 63 #[v] w fun e w' => ∃ u, e = .returned u ∧ Os (nw w) w' t u ∧ Below w.heap.size w w') := fun t ht v w h => ih0 t ht v w h (by have := pt_kid (k := k) (n := n) ht; omega)
  rw [hL.out]
  obtain ⟨wa, ewa⟩ : ∃ wa, Hid (w.alloc (.cells #[.int .i64 k, .int .i64 n, .slice ao L cap] 24) = wa) := ⟨_, (rfl : _ = _)⟩
  obtain ⟨wb, ewb⟩ : ∃ wb, Hid (wa.alloc (.cells #[.int .i64 0, .int .i64 0, .slice none 0 0] 24) = wb) := ⟨_, (rfl : _ = _)⟩
  have sa : wa.heap.size = w.heap.size + 1 := by rw [← ewa.out]; simp
  have Bb : Hid (Below w.heap.size w wb) := by show Below _ _ _; rw [← ewb.out, ← ewa.out]; exact ((Below.refl _ _).alloc (Nat.le_refl _) _).alloc (by simp) _
  have Xb : Hid (Bo wb w.heap.size k n (.slice ao L cap)) := by show Bo _ _ _ _ _; rw [← ewb.out, ← ewa.out]; exact (Bo.new w k n (.slice ao L cap)).bel ((Below.refl _ _).alloc (Nat.le_refl _) _)
  have Yb : Hid (Bo wb (w.heap.size + 1) 0 0 (.slice none 0 0)) := by show Bo _ _ _ _ _; rw [← ewb.out, ← sa]; exact Bo.new _ _ _ _
  have sb : wb.heap.size = w.heap.size + 2 := by rw [← ewb.out]; simp [sa]
  obtain ⟨i0, hi0, hz0, hz1, hz2⟩ := info_o
  clear hk0 hl0 ih0 ho hpt0 sa
  go_enter Tryd.func63, Tryd.ntmps63
  go_upto_region 1 with fail
  rw [ewa.out, ewb.out]
  obtain ⟨g, hg⟩ : ∃ g, Hid (w.heap.size = g) := ⟨_, (rfl : _ = _)⟩
  rw [hg.out] at Xb Yb sb ⊢
  have hgr0 : Hid (Gr (g + 2) wb (.slice none 0 0) (ks.take 0) []) := Gr.nil _ _
  have c2 := Xb.out.c2
  go_wp2_with fail
  clear c2
  go_loopw [3, 9] (fun so si wx => ∃ (i : Nat) (ss : List Value), i ≤ L ∧ si = .int .i64 (i : Int) ∧ Hid (Gr (g + 2) wx so (ks.take i) ss) ∧ Hid (Below w.heap.size w wx) ∧ Hid (Bo wx g k n (.slice ao L cap)) ∧ Hid (Bo wx (g + 1) 0 0 (.slice none 0 0))) (fun _ si _ => L - (intOf si).toNat)
  case atStart => exact ⟨0, [], Nat.zero_le _, rfl, hgr0, Bb, Xb, Yb⟩
  case round =>
    clear hgr0 Bb Xb Yb sb
    obtain ⟨i, ss, hi, rfl, hG, hb, hX, hY⟩ := hrel
    by_cases hlt : i < L
    · have hlt' : (i : Int) < (L : Int) := by omega
      obtain ⟨b, off, s, t', et, K0⟩ := hk.out i hlt
      have K := K0.below hb.out
      obtain rfl := K.at0
      obtain ⟨a1, l1, p1, rfl⟩ := K.slc
      have d0 := K.c0
      have d1 := K.c1
      have d2 := K.c2
      have hod : Hid (Od wr t' (.agg #[.int .i64 t'.k, .int .i64 t'.n, .slice a1 l1 p1])) := K.od
      have hmem : Hid (t' ∈ ks) := List.mem_of_getElem? et
      have hst : Hid (ks.take (i + 1) = ks.take i ++ [t']) := by show _ = _; rw [List.take_add_one, et]; rfl
      have hil : Hid ((ks.take i).length = i) := by show _ = _; rw [List.length_take, hL.out]; omega
      clear K K0 et
      obtain ⟨k1, hk1⟩ : ∃ k1, Hid (t'.k = k1) := ⟨_, (rfl : _ = _)⟩
      obtain ⟨n1, hn1⟩ : ∃ n1, Hid (t'.n = n1) := ⟨_, (rfl : _ = _)⟩
      rw [hk1.out] at d0 hod
      rw [hn1.out] at d1 hod
      obtain ⟨wk, ewk⟩ : ∃ wk, Hid (wr.alloc (.cells #[.int .i64 k1, .int .i64 n1, .slice a1 l1 p1] 24) = wk) := ⟨_, (rfl : _ = _)⟩
      have Bk : Hid (Below wr.heap.size wr wk) := by show Below _ _ _; rw [← ewk.out]; exact (Below.refl _ _).alloc (Nat.le_refl _) _
      have Fk : Hid (Bo wk wr.heap.size k1 n1 (.slice a1 l1 p1)) := by show Bo _ _ _ _ _; rw [← ewk.out]; exact Bo.new _ _ _ _
      go_upto_region 5 with fail
      rw [ewk.out]
      have f0 := Fk.out.c0
      have f1 := Fk.out.c1
      have f2 := Fk.out.c2
      clear d0 d1 d2
      go_wp2_with fail
      refine (ih.out t' hmem.out _ _ (Od.below Bk.out _ _ hod.out)).mono ?_
      rintro e w1 ⟨u, rfl, ou, B1⟩
      obtain ⟨ua, uc, rfl⟩ := ou.shape
      rw [hk1.out, hn1.out] at ou ⊢
      generalize t'.ks.length = ul at *
      have ouH : Hid (Os (nw wk) w1 t' (.agg #[.int .i64 k1, .int .i64 n1, .slice ua ul uc])) := ou
      have BkH : Hid (Below wk.heap.size wk w1) := B1
      have hsz : Hid (g + 2 ≤ wr.heap.size) := by have := hY.out.lt; show _ ≤ _; omega
      have hGk : Hid (Gr (g + 2) w1 u3 (ks.take i) ss) := (hG.out.bel Bk.out).bel B1
      clear ou B1 f0 f1 f2
      have hown := hGk.out.own
      rw [hil.out] at hown
      have hownH : Hid (w1.ownsRow (g + 2) 24 3 u3 i (cso (ks.take i) ss)) := hown
      clear hown
      have hs1 : Hid (g + 2 ≤ w1.heap.size) := by have h1 := hsz.out; have h2 := Bk.out.size; have h3 := BkH.out.size; show _ ≤ _; omega
      go_wp2_with (at_builtin; refine wpList_append_fr _ rfl _ _ 22 rfl (g + 2) 24 i0 _ 3 40 Tryd.underlying22 hi0 hz0 hz1 hz2 rfl (by decide) _ _ _ rfl (hownH.out.alloc _) ⟨w1.heap.size, 0, none⟩ 1 1 [.int .i64 k1, .int .i64 n1, .slice ua ul uc] rfl rfl (by intro j u' hj; match j, hj with | 0, hj => simp at hj; subst hj; simp [Addr.add] | 1, hj => simp at hj; subst hj; simp [Addr.add] | 2, hj => simp at hj; subst hj; simp [Addr.add] | j + 3, hj => simp at hj) (by intro u' hu'; simp at hu'; rcases hu' with h | h | h <;> subst h <;> rfl) (by unfold maxLen; omega) (by omega) (by have := hs1.out; simp; omega) ?_)
      intro v' w4 q1 q2 q3
      have hG4 : Hid (Gr (g + 2) w4 v' (ks.take (i + 1)) (ss ++ [.slice ua ul uc])) := by
        show Gr _ _ _ _ _
        rw [hst.out]
        refine Gr.snoc (hG.out.bel Bk.out) (by have h1 := hsz.out; have h2 := Bk.out.size; omega) BkH.out (by rw [hk1.out, hn1.out]; exact ouH.out) rfl ((Below.refl _ _).alloc (Nat.le_refl _) _) ?_ q2 (fun b hb => by have := q3 b hb; simpa using this)
        rw [hil.out, hk1.out, hn1.out]; exact q1
      have hgk : ∀ x, x < g + 2 → w4.heap[x]? = wr.heap[x]? := fun x hx => by
        have h1 := hsz.out
        have h2 := Bk.out.size
        have h3 := BkH.out.size
        rw [q2.block x (by simp; omega) (fun e => by have := (hownH.out.lt x e.symm).1; omega), Below.heap_alloc _ _ _ (by omega), BkH.out.block x (by omega), Bk.out.block x (by omega)]
      have B4 : Hid (Below w.heap.size w w4) := by
        have hb1 : Below w.heap.size w w1 := btr (btr hb.out Bk.out) BkH.out
        have h1 := hs1.out
        have h2 := hg.out
        exact (hb1.alloc (by have := hb1.size; omega) _).grown q2 (by simp; omega) (fun k' hk' => by have := (hownH.out.lt k' hk').1; omega)
      have X4 : Hid (Bo w4 g k n (.slice (some ⟨b, off, none⟩) L cap)) := ⟨(hgk g (by omega)).trans hX.out.b⟩
      have Y4 : Hid (Bo w4 (g + 1) 0 0 (.slice none 0 0)) := ⟨(hgk (g + 1) (by omega)).trans hY.out.b⟩
      clear q1 q2 q3 hgk
      go_wp2_with fail
      go_roundw
      case rel => exact ⟨i + 1, _, by omega, by go_num, hG4, B4, X4, Y4⟩
      case measure => simp [intOf]; omega
    · have hlt' : decide ((i : Int) < (L : Int)) = false := decide_eq_false (by omega)
      have ei : i = L := by omega
      subst ei
      have etk : ks.take i = ks := List.take_of_length_le (by rw [hL.out]; exact Nat.le_refl _)
      rw [etk] at hG
      obtain ⟨oo, ka, kc, ekv⟩ := hG.out.os (k := k) (n := n) hfit.out (by rw [hL.out]; exact hl)
      subst ekv
      rw [hL.out] at oo ⊢
      have ooH : Hid (Os (fun b => g + 2 ≤ b) wr ⟨k, n, ks⟩ (.agg #[.int .i64 k, .int .i64 n, .slice ka i kc])) := oo
      clear oo etk hG
      have x0 := hX.out.c0
      have x1 := hX.out.c1
      have x2 := hX.out.c2
      have xf := hX.out.fz
      have y0 := hY.out.c0
      have y1 := hY.out.c1
      have y2 := hY.out.c2
      have yf := hY.out.fz
      have hfin : Hid (Os (nw w) (st3 (wr.setCell ⟨g, 2, none⟩ (.slice ka i kc)) (g + 1) k n (.slice ka i kc)) ⟨k, n, ks⟩ (.agg #[.int .i64 k, .int .i64 n, .slice ka i kc]) ∧ Below w.heap.size w (st3 (wr.setCell ⟨g, 2, none⟩ (.slice ka i kc)) (g + 1) k n (.slice ka i kc))) := by
        constructor
        · refine Os.keep (fun b hb => ?_) (fun b hb _ => ?_) _ _ ooH.out
          · have h1 : g + 2 ≤ b := hb
            show w.heap.size ≤ b
            rw [hg.out]; omega
          · have h1 : g + 2 ≤ b := hb
            rw [st3_blk _ _ _ _ _ (by omega), sc_blk _ _ _ (by omega)]
        · have h1 := hb.out.size
          have hb1 : Below w.heap.size w (wr.setCell ⟨g, 2, none⟩ (.slice ka i kc)) := hb.out.grown (Lib.Hx.grownBy_set (Lib.Hx.grownBy_refl wr (some g)) ⟨g, 2, none⟩ rfl _) h1 (fun k hk => by cases hk; rw [hg.out]; exact Nat.le_refl _)
          exact hb1.grown (st3_own _ _ _ _ _) (by rw [sc_size]; exact h1) (fun k hk => by cases hk; rw [hg.out]; omega)
      go_wp2_with fail
      refine bodyPost_ret (v := .agg #[.int .i64 k, .int .i64 n, .slice ka i kc]) (by simp [results, Tryd.results63, go_sem, y0, y1, y2]) rfl ?_
      exact ⟨_, rfl, hfin.out.1, hfin.out.2⟩
end Go.Proofs.YtoaccmblaifnmaaDoor
namespace Go.Proofs.YtoaccmblaifnmaaDoor
open Flo Go.RowKit Tr
set_option maxHeartbeats 1000000 in
set_option maxRecDepth 100000 in
theorem copied_c (t : Tr) (v : Value) (w : World) (ho : Od w t v) (hpt : pt t ≤ 65536) : Calls Tryd.prog 41 #[v] w fun e w' => ∃ u, e = .returned u ∧ Os (nw w) w' t u ∧ Below w.heap.size w w' := by
  obtain ⟨k, n, ks⟩ := t
  obtain ⟨ao, cap, rfl, _, _⟩ := ho.kds
  obtain ⟨L, hL⟩ : ∃ L, Hid (ks.length = L) := ⟨_, (rfl : _ = _)⟩
  obtain ⟨t, ht⟩ : ∃ t, Hid (Tr.mk k n ks = t) := ⟨_, (rfl : _ = _)⟩
  rw [ht.out] at hpt
  rw [hL.out, ht.out] at ho
  rw [hL.out, ht.out]
  obtain ⟨wa, ewa⟩ : ∃ wa, Hid (w.alloc (.cells #[.int .i64 k, .int .i64 n, .slice ao L cap] 24) = wa) := ⟨_, (rfl : _ = _)⟩
  obtain ⟨wb, ewb⟩ : ∃ wb, Hid (wa.alloc (.cells #[.int .i64 0, .int .i64 0, .slice none 0 0] 24) = wb) := ⟨_, (rfl : _ = _)⟩
  have sa : wa.heap.size = w.heap.size + 1 := by rw [← ewa.out]; simp
  have Bb : Below w.heap.size w wb := by rw [← ewb.out, ← ewa.out]; exact ((Below.refl _ _).alloc (Nat.le_refl _) _).alloc (by simp) _
  have BbH : Hid (Below w.heap.size w wb) := Bb
  have Xb : Hid (Bo wb w.heap.size k n (.slice ao L cap)) := by show Bo _ _ _ _ _; rw [← ewb.out, ← ewa.out]; exact (Bo.new w k n (.slice ao L cap)).bel ((Below.refl _ _).alloc (Nat.le_refl _) _)
  have Yb : Hid (Bo wb (w.heap.size + 1) 0 0 (.slice none 0 0)) := by show Bo _ _ _ _ _; rw [← ewb.out, ← sa]; exact Bo.new _ _ _ _
  have hob : Hid (Od wb t (.agg #[.int .i64 k, .int .i64 n, .slice ao L cap])) := Od.below Bb _ _ ho
  clear ho Bb sa
  go_enter Tryd.func41, Tryd.ntmps41
  go_upto_region 1 with fail
  rw [ewa.out, ewb.out]
  obtain ⟨g, hg⟩ : ∃ g, Hid (w.heap.size = g) := ⟨_, (rfl : _ = _)⟩
  rw [hg.out] at Xb Yb ⊢
  have x0 := Xb.out.c0
  have x1 := Xb.out.c1
  have x2 := Xb.out.c2
  obtain ⟨m, hm⟩ : ∃ m : Nat, Hid (65536 - pt t = m) := ⟨_, (rfl : _ = _)⟩
  have hc : Hid (Calls Tryd.prog 62 #[.agg #[.int .i64 k, .int .i64 n, .slice ao L cap], .int .i64 65536] wb fun e w' => e = .returned (.int .i64 (m : Int)) ∧ Below wb.heap.size wb w') := by
    have := partsLeft_c t _ 65536 wb hob.out hpt (Nat.le_refl _)
    rw [hm.out] at this; exact this
  have hm0 : ¬ (m : Int) < 0 := by omega
  have hm0' : decide ((m : Int) < 0) = false := decide_eq_false hm0
  go_wp2_with fail
  refine hc.out.mono ?_
  rintro e w1 ⟨rfl, B1⟩
  have X1 : Hid (Bo w1 g k n (.slice ao L cap)) := Xb.out.bel B1
  have Y1 : Hid (Bo w1 (g + 1) 0 0 (.slice none 0 0)) := Yb.out.bel B1
  have ho1 : Hid (Od w1 t (.agg #[.int .i64 k, .int .i64 n, .slice ao L cap])) := Od.below B1 _ _ hob.out
  have hB1 : Hid (Below w.heap.size w w1) := btr BbH.out B1
  clear x0 x1 x2 B1 hc
  have x0 := X1.out.c0
  have x1 := X1.out.c1
  have x2 := X1.out.c2
  go_wp2_with fail
  refine (byParts_c t _ w1 ho1.out hpt).mono ?_
  rintro e w2 ⟨u, rfl, ou, B2⟩
  obtain ⟨ua, uc, rfl⟩ := ou.shape
  generalize t.ks.length = ul at *
  obtain ⟨tk, htk⟩ : ∃ tk, Hid (t.k = tk) := ⟨_, (rfl : _ = _)⟩
  obtain ⟨tn, htn⟩ : ∃ tn, Hid (t.n = tn) := ⟨_, (rfl : _ = _)⟩
  rw [htk.out, htn.out] at ou ⊢
  have Y2 : Hid (Bo w2 (g + 1) 0 0 (.slice none 0 0)) := Y1.out.bel B2
  have hfin : Hid (Os (nw w) (st3 w2 (g + 1) tk tn (.slice ua ul uc)) t (.agg #[.int .i64 tk, .int .i64 tn, .slice ua ul uc]) ∧ Below w.heap.size w (st3 w2 (g + 1) tk tn (.slice ua ul uc))) := by
    have hy := Y1.out.lt
    have hb2 := btr hB1.out B2
    constructor
    · refine Os.keep (fun b hb => ?_) (fun b hb _ => ?_) _ _ ou
      · have h1 : w1.heap.size ≤ b := hb
        show w.heap.size ≤ b
        rw [hg.out]; omega
      · have h1 : w1.heap.size ≤ b := hb
        rw [st3_blk _ _ _ _ _ (by omega)]
    · exact hb2.grown (st3_own _ _ _ _ _) hb2.size (fun k hk => by cases hk; rw [hg.out]; omega)
  have y0 := Y2.out.c0
  have y1 := Y2.out.c1
  have y2 := Y2.out.c2
  have yf := Y2.out.fz
  clear x0 x1 x2 ou B2
  go_wp2_with fail
  refine bodyPost_ret (v := .agg #[.int .i64 tk, .int .i64 tn, .slice ua ul uc]) (by simp [results, Tryd.results41, go_sem, y0, y1, y2]) rfl ?_
  exact ⟨_, rfl, hfin.out.1, hfin.out.2⟩
set_option maxHeartbeats 2000000 in
set_option maxRecDepth 100000 in
theorem blue_m (x : Tr) (v : Value) (m : Int) (w : World) (ho : Od w x v) (hpt : pt x ≤ 65536) (hf : fit 4 m) : Calls Tryd.prog 12 #[.int .i64 m, v] w fun e w' => ∃ u, e = .returned u ∧ Os (nw w) w' ⟨4, m, [x]⟩ u ∧ Below w.heap.size w w' := by
  obtain ⟨k, n, ks⟩ := x
  obtain ⟨ao, cap, rfl, _, _⟩ := ho.kds
  obtain ⟨L, hL⟩ : ∃ L, Hid (ks.length = L) := ⟨_, (rfl : _ = _)⟩
  obtain ⟨t, ht⟩ : ∃ t, Hid (Tr.mk k n ks = t) := ⟨_, (rfl : _ = _)⟩
  rw [ht.out] at hpt
  rw [hL.out, ht.out] at ho
  rw [hL.out, ht.out]
  obtain ⟨wa, ewa⟩ : ∃ wa, Hid (w.alloc (.cells #[.int .i64 k, .int .i64 n, .slice ao L cap] 24) = wa) := ⟨_, (rfl : _ = _)⟩
  obtain ⟨wb, ewb⟩ : ∃ wb, Hid (wa.alloc (.cells #[.int .i64 0, .int .i64 0, .slice none 0 0] 24) = wb) := ⟨_, (rfl : _ = _)⟩
  have sa : wa.heap.size = w.heap.size + 1 := by rw [← ewa.out]; simp
  have Bb : Below w.heap.size w wb := by rw [← ewb.out, ← ewa.out]; exact ((Below.refl _ _).alloc (Nat.le_refl _) _).alloc (by simp) _
  have BbH : Hid (Below w.heap.size w wb) := Bb
  have Xb : Hid (Bo wb w.heap.size k n (.slice ao L cap)) := by show Bo _ _ _ _ _; rw [← ewb.out, ← ewa.out]; exact (Bo.new w k n (.slice ao L cap)).bel ((Below.refl _ _).alloc (Nat.le_refl _) _)
  have Yb : Hid (Bo wb (w.heap.size + 1) 0 0 (.slice none 0 0)) := by show Bo _ _ _ _ _; rw [← ewb.out, ← sa]; exact Bo.new _ _ _ _
  have hob : Hid (Od wb t (.agg #[.int .i64 k, .int .i64 n, .slice ao L cap])) := Od.below Bb _ _ ho
  have hfH : Hid (fit 4 m) := hf
  clear ho Bb sa hf
  go_enter Tryd.func12, Tryd.ntmps12
  go_upto_region 1 with fail
  rw [ewa.out, ewb.out]
  obtain ⟨g, hg⟩ : ∃ g, Hid (w.heap.size = g) := ⟨_, (rfl : _ = _)⟩
  rw [hg.out] at Xb Yb ⊢
  have x0 := Xb.out.c0
  have x1 := Xb.out.c1
  have x2 := Xb.out.c2
  go_wp2_with fail
  refine (copied_c t _ wb hob.out hpt).mono ?_
  rintro e w2 ⟨u, rfl, ou, B2⟩
  obtain ⟨ua, uc, rfl⟩ := ou.shape
  generalize t.ks.length = ul at *
  have hy := Yb.out.lt
  have Y2 : Hid (Bo w2 (g + 1) 0 0 (.slice none 0 0)) := Yb.out.bel B2
  have hy2 := Y2.out.lt
  have hb2 : Hid (Below w.heap.size w w2) := btr BbH.out B2
  obtain ⟨w8, e8, hOs, hBe, hY⟩ : ∃ w8, Hid ((st3 w2 (g + 1) 4 m (.slice (some ⟨w2.heap.size, 0, none⟩) 1 1)).alloc (.cells #[.int .i64 t.k, .int .i64 t.n, .slice ua ul uc] 24) = w8) ∧ Hid (Os (nw w) w8 ⟨4, m, [t]⟩ (.agg #[.int .i64 4, .int .i64 m, .slice (some ⟨w2.heap.size, 0, none⟩) 1 1])) ∧ Hid (Below w.heap.size w w8) ∧ Hid (Bo w8 (g + 1) 4 m (.slice (some ⟨w2.heap.size, 0, none⟩) 1 1)) := by
    refine ⟨_, (rfl : _ = _), ?_, ?_, ?_⟩
    · have hnew := heap_alloc_new (st3 w2 (g + 1) 4 m (.slice (some ⟨w2.heap.size, 0, none⟩) 1 1)) (.cells #[.int .i64 t.k, .int .i64 t.n, .slice ua ul uc] 24)
      rw [st3_size] at hnew
      refine Os.one hfH.out (show w.heap.size ≤ _ by rw [hg.out]; omega) (Os.keep2 (fun b hb _ => ?_) (fun b hb hl => ?_) _ _ ou) hnew
      · have h1 : wb.heap.size ≤ b := hb
        show w.heap.size ≤ b
        rw [hg.out]; omega
      · have h1 : wb.heap.size ≤ b := hb
        rw [Below.heap_alloc _ _ _ (by rw [st3_size]; exact hl), st3_blk _ _ _ _ _ (by omega)]
    · have h1 : Below w.heap.size w (st3 w2 (g + 1) 4 m (.slice (some ⟨w2.heap.size, 0, none⟩) 1 1)) := hb2.out.grown (st3_own _ _ _ _ _) hb2.out.size (fun k hk => by cases hk; rw [hg.out]; omega)
      exact h1.alloc h1.size _
    · exact (st3_bo Y2.out 4 m _).bel ((Below.refl _ _).alloc (Nat.le_refl _) _)
  have e8' : Hid ((((w2.setCell ⟨g + 1, 0, none⟩ (.int .i64 4)).setCell ⟨g + 1, 1, none⟩ (.int .i64 m)).setCell ⟨g + 1, 2, none⟩ (.slice (some ⟨w2.heap.size, 0, none⟩) 1 1)).alloc (.cells #[.int .i64 t.k, .int .i64 t.n, .slice ua ul uc] 24) = w8) := e8.out
  obtain ⟨tk, htk⟩ : ∃ tk, Hid (t.k = tk) := ⟨_, (rfl : _ = _)⟩
  obtain ⟨tn, htn⟩ : ∃ tn, Hid (t.n = tn) := ⟨_, (rfl : _ = _)⟩
  rw [htk.out, htn.out] at e8' ⊢
  have y0 := Y2.out.c0
  have y1 := Y2.out.c1
  have y2 := Y2.out.c2
  have yf := Y2.out.fz
  clear x0 x1 x2 ou B2 e8
  go_wp2_with fail
  rw [e8'.out]
  have z0 := hY.out.c0
  have z1 := hY.out.c1
  have z2 := hY.out.c2
  refine bodyPost_ret (v := .agg #[.int .i64 4, .int .i64 m, .slice (some ⟨w2.heap.size, 0, none⟩) 1 1]) (by simp [results, Tryd.results12, go_sem, z0, z1, z2]) rfl ?_
  exact ⟨_, rfl, hOs.out, hBe.out⟩
end Go.Proofs.YtoaccmblaifnmaaDoor
