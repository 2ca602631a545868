/-
  The program's partsLeft, copiedByParts.
-/
import Derived.Test.YtfoblbpbhldngaaDoorOy1
import Derived.Test.YtfoblbpbhldngaaDoorApf
namespace Go.Proofs.YtfoblbpbhldngaaDoor
open Flo Go.RowKit Tr
set_option maxHeartbeats 1000000 in
theorem partsLeft_c (t : Tr) : ∀ (v : Value) (m : Nat) (w : World), Od w t v → pt t ≤ m → m ≤ 65536 → Calls Tryd.prog 38 #[v, .int .i64 (m : Int)] w fun e w' => e = .returned (.int .i64 ((m - pt t : Nat) : Int)) ∧ Below w.heap.size w w' := by
  refine Tr.ind (P := fun t => ∀ (v : Value) (m : Nat) (w : World), Od w t v → pt t ≤ m → m ≤ 65536 → Calls Tryd.prog 38 #[v, .int .i64 (m : Int)] w fun e w' => e = .returned (.int .i64 ((m - pt t : Nat) : Int)) ∧ Below w.heap.size w w') (fun k n ks ih0 v m w ho hpm hm => ?_) t
  obtain ⟨ao, cap, rfl, hl0, hk0⟩ := ho.kds
  obtain ⟨L, hL⟩ : ∃ L, Hid (ks.length = L) := ⟨_, (rfl : _ = _)⟩
  have hk : Hid (Kds w ao L ks) := by show Kds _ _ _ _; rw [← hL.out]; exact hk0
  have hl : L ≤ 9223372036854775807 := by rw [← hL.out]; exact hl0
  have ih : Hid (∀ t ∈ ks, ∀ (v : Value) (m : Nat) (w : World), Od w t v → pt t ≤ m → m ≤ 65536 → Calls Tryd.prog 38 #[v, .int .i64 (m : Int)] w fun e w' => e = .returned (.int .i64 ((m - pt t : Nat) : Int)) ∧ Below w.heap.size w w') := ih0
  have hpt : Hid (pt ⟨k, n, ks⟩ = 1 + pti ks L) := by show _ = _; rw [← hL.out]; exact pt_any k n ks
  have hpi : Hid (∀ i, 1 + pti ks i ≤ m) := fun i => Nat.le_trans (pti_le k n ks i) hpm
  have h1m : 1 ≤ m := by have := pt_pos ⟨k, n, ks⟩; omega
  rw [hL.out]
  rw [hpt.out]
  obtain ⟨wa, ewa⟩ : ∃ wa, Hid (w.alloc (.cells #[.int .i64 k, .int .i64 n, .slice ao L cap] 25) = wa) := ⟨_, (rfl : _ = _)⟩
  have Ba : Hid (Below w.heap.size w wa) := by show Below _ _ _; rw [← ewa.out]; exact (Below.refl _ _).alloc (Nat.le_refl _) _
  have Xa : Hid (Bo wa w.heap.size k n (.slice ao L cap)) := by show Bo _ _ _ _ _; rw [← ewa.out]; exact Bo.new _ _ _ _
  have hBa : Hid (w.heap.size < wa.heap.size) := Xa.out.lt
  clear hk0 hl0 ih0 ho hpm
  go_enter Tryd.func38, Tryd.ntmps38
  go_upto_region 1 with fail
  rw [ewa.out]
  obtain ⟨g, hg⟩ : ∃ g, Hid (w.heap.size = g) := ⟨_, (rfl : _ = _)⟩
  rw [hg.out] at Xa hBa ⊢
  obtain ⟨m1, hm1, hm1'⟩ : ∃ m1 : Nat, Hid (m1 = m - 1) ∧ (m : Int) - 1 = (m1 : Int) := ⟨m - 1, (rfl : _ = _), by omega⟩
  have hm1b : m1 ≤ 65536 := by rw [hm1.out]; omega
  go_wp2_with fail
  go_loopw [5, 6] (fun sl si wx => ∃ (i x : Nat), i ≤ L ∧ x ≤ 65536 ∧ Hid (x + (1 + pti ks i) = m) ∧ sl = .int .i64 (x : Int) ∧ si = .int .i64 (i : Int) ∧ Hid (Below w.heap.size w wx) ∧ Hid (Bo wx g k n (.slice ao L cap))) (fun _ si _ => L - (intOf si).toNat)
  case atStart => exact ⟨0, m1, Nat.zero_le _, hm1b, (by show _ = _; rw [pti_zero, hm1.out]; omega), rfl, rfl, Ba, Xa⟩
  case round =>
    obtain ⟨i, x, hi, hx, hxe, rfl, rfl, hb, hX⟩ := hrel
    have c2 := hX.out.c2
    by_cases hlt : i < L
    · have hlt' : (i : Int) < (L : Int) := by omega
      have hx0 : (x : Int) ≥ 0 := by omega
      obtain ⟨b, off, s, t', et, K0⟩ := hk.out i hlt
      have K := K0.below hb.out
      obtain rfl := K.at0
      obtain ⟨a1, l1, p1, rfl⟩ := K.slc
      have d0 := K.c0
      have d1 := K.c1
      have d2 := K.c2
      have hod : Hid (Od wr t' (.agg #[.int .i64 t'.k, .int .i64 t'.n, .slice a1 l1 p1])) := K.od
      have hmem : Hid (t' ∈ ks) := List.mem_of_getElem? et
      have hst : Hid (pti ks (i + 1) = pti ks i + pt t') := by
        have hi' : i < ks.length := by rw [hL.out]; exact hlt
        have e2 : ks[i] = t' := by rw [List.getElem?_eq_getElem hi'] at et; exact Option.some.inj et
        show _ = _
        rw [pti_succ hi', e2]
      have hpx : pt t' ≤ x := by have h1 := hpi.out (i + 1); rw [hst.out] at h1; have := hxe.out; omega
      clear K K0 et
      generalize t'.k = k1 at *
      generalize t'.n = n1 at *
      obtain ⟨y, hy⟩ : ∃ y : Nat, Hid (x - pt t' = y) := ⟨_, (rfl : _ = _)⟩
      have hyb : y ≤ 65536 := by rw [← hy.out]; omega
      have hc : Hid (Calls Tryd.prog 38 #[.agg #[.int .i64 k1, .int .i64 n1, .slice a1 l1 p1], .int .i64 (x : Int)] wr fun e w' => e = .returned (.int .i64 (y : Int)) ∧ Below wr.heap.size wr w') := by
        have := ih.out t' hmem.out _ x wr hod.out hpx hx
        rw [hy.out] at this; exact this
      have hye : Hid (y + (1 + pti ks (i + 1)) = m) := by show _ = _; rw [hst.out, ← hy.out]; have := hxe.out; omega
      clear hpx
      go_wp2_with fail
      refine hc.out.mono ?_
      rintro e w1 ⟨rfl, B1⟩
      have hb1 : Hid (Below w.heap.size w w1) := btr hb.out B1
      have hX1 : Hid (Bo w1 g k n (.slice (some ⟨b, off, none⟩) L cap)) := hX.out.bel B1
      clear B1 hc d0 d1 d2 c2
      go_wp2_with fail
      go_roundw
      case rel => exact ⟨i + 1, y, by omega, hyb, hye, rfl, by go_num, hb1, hX1⟩
      case measure => simp [intOf]; omega
    · have hlt' : decide ((i : Int) < (L : Int)) = false := decide_eq_false (by omega)
      have ei : i = L := by omega
      subst ei
      have hr : Hid (x = m - (1 + pti ks i)) := by show _ = _; have := hxe.out; omega
      go_wp2_with fail
      go_ret
      exact ⟨by rw [← hr.out]; rfl, hb.out⟩
set_option maxHeartbeats 2000000 in
set_option maxRecDepth 100000 in
theorem byParts_c (t : Tr) : ∀ (v : Value) (w : World), Od w t v → pt t ≤ 65536 → Calls Tryd.prog 40 #[v] w fun e w' => ∃ u, e = .returned u ∧ Os (nw w) w' t u ∧ Below w.heap.size w w' := by
  refine Tr.ind (P := fun t => ∀ (v : Value) (w : World), Od w t v → pt t ≤ 65536 → Calls Tryd.prog 40 #[v] w fun e w' => ∃ u, e = .returned u ∧ Os (nw w) w' t u ∧ Below w.heap.size w w') (fun k n ks ih0 v w ho hpt0 => ?_) t
  have hfit : Hid (fit k n) := ho.fits
  obtain ⟨ao, cap, rfl, hl0, hk0⟩ := ho.kds
  obtain ⟨L, hL⟩ : ∃ L, Hid (ks.length = L) := ⟨_, (rfl : _ = _)⟩
  have hk : Hid (Kds w ao L ks) := by show Kds _ _ _ _; rw [← hL.out]; exact hk0
  have hl : L ≤ 9223372036854775807 := by rw [← hL.out]; exact hl0
  have hL6 : L ≤ 65536 := by
    have h1 : ∀ l : List Tr, l.length ≤ (l.map pt).sum := fun l => by
      induction l with
      | nil => simp
      | cons a r ih => have := pt_pos a; simp; omega
    have h2 := h1 ks
    rw [pt_eq] at hpt0
    rw [← hL.out]; omega
  have ih : Hid (∀ t ∈ ks, ∀ (v : Value) (w : World), Od w t v → Calls Tryd.prog 40 #[v] w fun e w' => ∃ u, e = .returned u ∧ Os (nw w) w' t u ∧ Below w.heap.size w w') := fun t ht v w h => ih0 t ht v w h (by have := pt_kid (k := k) (n := n) ht; omega)
  rw [hL.out]
  obtain ⟨wa, ewa⟩ : ∃ wa, Hid (w.alloc (.cells #[.int .i64 k, .int .i64 n, .slice ao L cap] 25) = wa) := ⟨_, (rfl : _ = _)⟩
  obtain ⟨wb, ewb⟩ : ∃ wb, Hid (wa.alloc (.cells #[.int .i64 0, .int .i64 0, .slice none 0 0] 25) = wb) := ⟨_, (rfl : _ = _)⟩
  have sa : wa.heap.size = w.heap.size + 1 := by rw [← ewa.out]; simp
  have Bb : Hid (Below w.heap.size w wb) := by show Below _ _ _; rw [← ewb.out, ← ewa.out]; exact ((Below.refl _ _).alloc (Nat.le_refl _) _).alloc (by simp) _
  have Xb : Hid (Bo wb w.heap.size k n (.slice ao L cap)) := by show Bo _ _ _ _ _; rw [← ewb.out, ← ewa.out]; exact (Bo.new w k n (.slice ao L cap)).bel ((Below.refl _ _).alloc (Nat.le_refl _) _)
  have Yb : Hid (Bo wb (w.heap.size + 1) 0 0 (.slice none 0 0)) := by show Bo _ _ _ _ _; rw [← ewb.out, ← sa]; exact Bo.new _ _ _ _
  have sb : wb.heap.size = w.heap.size + 2 := by rw [← ewb.out]; simp [sa]
  obtain ⟨i0, hi0, hz0, hz1, hz2⟩ := info_o
  clear hk0 hl0 ih0 ho hpt0 sa
  go_enter Tryd.func40, Tryd.ntmps40
  go_upto_region 1 with fail
  rw [ewa.out, ewb.out]
  obtain ⟨g, hg⟩ : ∃ g, Hid (w.heap.size = g) := ⟨_, (rfl : _ = _)⟩
  rw [hg.out] at Xb Yb sb ⊢
  have hgr0 : Hid (Gr (g + 2) wb (.slice none 0 0) (ks.take 0) []) := Gr.nil _ _
  have c2 := Xb.out.c2
  go_wp2_with fail
  clear c2
  go_loopw [3, 9] (fun so si wx => ∃ (i : Nat) (ss : List Value), i ≤ L ∧ si = .int .i64 (i : Int) ∧ Hid (Gr (g + 2) wx so (ks.take i) ss) ∧ Hid (Below w.heap.size w wx) ∧ Hid (Bo wx g k n (.slice ao L cap)) ∧ Hid (Bo wx (g + 1) 0 0 (.slice none 0 0))) (fun _ si _ => L - (intOf si).toNat)
  case atStart => exact ⟨0, [], Nat.zero_le _, rfl, hgr0, Bb, Xb, Yb⟩
  case round =>
    clear hgr0 Bb Xb Yb sb
    obtain ⟨i, ss, hi, rfl, hG, hb, hX, hY⟩ := hrel
    by_cases hlt : i < L
    · have hlt' : (i : Int) < (L : Int) := by omega
      obtain ⟨b, off, s, t', et, K0⟩ := hk.out i hlt
      have K := K0.below hb.out
      obtain rfl := K.at0
      obtain ⟨a1, l1, p1, rfl⟩ := K.slc
      have d0 := K.c0
      have d1 := K.c1
      have d2 := K.c2
      have hod : Hid (Od wr t' (.agg #[.int .i64 t'.k, .int .i64 t'.n, .slice a1 l1 p1])) := K.od
      have hmem : Hid (t' ∈ ks) := List.mem_of_getElem? et
      have hst : Hid (ks.take (i + 1) = ks.take i ++ [t']) := by show _ = _; rw [List.take_add_one, et]; rfl
      have hil : Hid ((ks.take i).length = i) := by show _ = _; rw [List.length_take, hL.out]; omega
      clear K K0 et
      obtain ⟨k1, hk1⟩ : ∃ k1, Hid (t'.k = k1) := ⟨_, (rfl : _ = _)⟩
      obtain ⟨n1, hn1⟩ : ∃ n1, Hid (t'.n = n1) := ⟨_, (rfl : _ = _)⟩
      rw [hk1.out] at d0 hod
      rw [hn1.out] at d1 hod
      obtain ⟨wk, ewk⟩ : ∃ wk, Hid (wr.alloc (.cells #[.int .i64 k1, .int .i64 n1, .slice a1 l1 p1] 25) = wk) := ⟨_, (rfl : _ = _)⟩
      have Bk : Hid (Below wr.heap.size wr wk) := by show Below _ _ _; rw [← ewk.out]; exact (Below.refl _ _).alloc (Nat.le_refl _) _
      have Fk : Hid (Bo wk wr.heap.size k1 n1 (.slice a1 l1 p1)) := by show Bo _ _ _ _ _; rw [← ewk.out]; exact Bo.new _ _ _ _
      go_upto_region 5 with fail
      rw [ewk.out]
      have f0 := Fk.out.c0
      have f1 := Fk.out.c1
      have f2 := Fk.out.c2
      clear d0 d1 d2
      go_wp2_with fail
      refine (ih.out t' hmem.out _ _ (Od.below Bk.out _ _ hod.out)).mono ?_
      rintro e w1 ⟨u, rfl, ou, B1⟩
      obtain ⟨ua, uc, rfl⟩ := ou.shape
      rw [hk1.out, hn1.out] at ou ⊢
      generalize t'.ks.length = ul at *
      have ouH : Hid (Os (nw wk) w1 t' (.agg #[.int .i64 k1, .int .i64 n1, .slice ua ul uc])) := ou
      have BkH : Hid (Below wk.heap.size wk w1) := B1
      have hsz : Hid (g + 2 ≤ wr.heap.size) := by have := hY.out.lt; show _ ≤ _; omega
      have hGk : Hid (Gr (g + 2) w1 u3 (ks.take i) ss) := (hG.out.bel Bk.out).bel B1
      clear ou B1 f0 f1 f2
      have hown := hGk.out.own
      rw [hil.out] at hown
      have hownH : Hid (w1.ownsRow (g + 2) 25 3 u3 i (cso (ks.take i) ss)) := hown
      clear hown
      have hs1 : Hid (g + 2 ≤ w1.heap.size) := by have h1 := hsz.out; have h2 := Bk.out.size; have h3 := BkH.out.size; show _ ≤ _; omega
      go_wp2_with (at_builtin; refine wpList_append_fr _ rfl _ _ 23 rfl (g + 2) 25 i0 _ 3 40 Tryd.underlying23 hi0 hz0 hz1 hz2 rfl (by decide) _ _ _ rfl (hownH.out.alloc _) ⟨w1.heap.size, 0, none⟩ 1 1 [.int .i64 k1, .int .i64 n1, .slice ua ul uc] rfl rfl (by intro j u' hj; match j, hj with | 0, hj => simp at hj; subst hj; simp [Addr.add] | 1, hj => simp at hj; subst hj; simp [Addr.add] | 2, hj => simp at hj; subst hj; simp [Addr.add] | j + 3, hj => simp at hj) (by intro u' hu'; simp at hu'; rcases hu' with h | h | h <;> subst h <;> rfl) (by unfold maxLen; omega) (by omega) (by have := hs1.out; simp; omega) ?_)
      intro v' w4 q1 q2 q3
      have hG4 : Hid (Gr (g + 2) w4 v' (ks.take (i + 1)) (ss ++ [.slice ua ul uc])) := by
        show Gr _ _ _ _ _
        rw [hst.out]
        refine Gr.snoc (hG.out.bel Bk.out) (by have h1 := hsz.out; have h2 := Bk.out.size; omega) BkH.out (by rw [hk1.out, hn1.out]; exact ouH.out) rfl ((Below.refl _ _).alloc (Nat.le_refl _) _) ?_ q2 (fun b hb => by have := q3 b hb; simpa using this)
        rw [hil.out, hk1.out, hn1.out]; exact q1
      have hgk : ∀ x, x < g + 2 → w4.heap[x]? = wr.heap[x]? := fun x hx => by
        have h1 := hsz.out
        have h2 := Bk.out.size
        have h3 := BkH.out.size
        rw [q2.block x (by simp; omega) (fun e => by have := (hownH.out.lt x e.symm).1; omega), Below.heap_alloc _ _ _ (by omega), BkH.out.block x (by omega), Bk.out.block x (by omega)]
      have B4 : Hid (Below w.heap.size w w4) := by
        have hb1 : Below w.heap.size w w1 := btr (btr hb.out Bk.out) BkH.out
        have h1 := hs1.out
        have h2 := hg.out
        exact (hb1.alloc (by have := hb1.size; omega) _).grown q2 (by simp; omega) (fun k' hk' => by have := (hownH.out.lt k' hk').1; omega)
      have X4 : Hid (Bo w4 g k n (.slice (some ⟨b, off, none⟩) L cap)) := ⟨(hgk g (by omega)).trans hX.out.b⟩
      have Y4 : Hid (Bo w4 (g + 1) 0 0 (.slice none 0 0)) := ⟨(hgk (g + 1) (by omega)).trans hY.out.b⟩
      clear q1 q2 q3 hgk
      go_wp2_with fail
      go_roundw
      case rel => exact ⟨i + 1, _, by omega, by go_num, hG4, B4, X4, Y4⟩
      case measure => simp [intOf]; omega
    · have hlt' : decide ((i : Int) < (L : Int)) = false := decide_eq_false (by omega)
      have ei : i = L := by omega
      subst ei
      have etk : ks.take i = ks := List.take_of_length_le (by rw [hL.out]; exact Nat.le_refl _)
      rw [etk] at hG
      obtain ⟨oo, ka, kc, ekv⟩ := hG.out.os (k := k) (n := n) hfit.out (by rw [hL.out]; exact hl)
      subst ekv
      rw [hL.out] at oo ⊢
      have ooH : Hid (Os (fun b => g + 2 ≤ b) wr ⟨k, n, ks⟩ (.agg #[.int .i64 k, .int .i64 n, .slice ka i kc])) := oo
      clear oo etk hG
      have x0 := hX.out.c0
      have x1 := hX.out.c1
      have x2 := hX.out.c2
      have xf := hX.out.fz
      have y0 := hY.out.c0
      have y1 := hY.out.c1
      have y2 := hY.out.c2
      have yf := hY.out.fz
      have hfin : Hid (Os (nw w) (st3 (wr.setCell ⟨g, 2, none⟩ (.slice ka i kc)) (g + 1) k n (.slice ka i kc)) ⟨k, n, ks⟩ (.agg #[.int .i64 k, .int .i64 n, .slice ka i kc]) ∧ Below w.heap.size w (st3 (wr.setCell ⟨g, 2, none⟩ (.slice ka i kc)) (g + 1) k n (.slice ka i kc))) := by
        constructor
        · refine Os.keep (fun b hb => ?_) (fun b hb _ => ?_) _ _ ooH.out
          · have h1 : g + 2 ≤ b := hb
            show w.heap.size ≤ b
            rw [hg.out]; omega
          · have h1 : g + 2 ≤ b := hb
            rw [st3_blk _ _ _ _ _ (by omega), sc_blk _ _ _ (by omega)]
        · have h1 := hb.out.size
          have hb1 : Below w.heap.size w (wr.setCell ⟨g, 2, none⟩ (.slice ka i kc)) := hb.out.grown (Lib.Hx.grownBy_set (Lib.Hx.grownBy_refl wr (some g)) ⟨g, 2, none⟩ rfl _) h1 (fun k hk => by cases hk; rw [hg.out]; exact Nat.le_refl _)
          exact hb1.grown (st3_own _ _ _ _ _) (by rw [sc_size]; exact h1) (fun k hk => by cases hk; rw [hg.out]; omega)
      go_wp2_with fail
      refine bodyPost_ret (v := .agg #[.int .i64 k, .int .i64 n, .slice ka i kc]) (by simp [results, Tryd.results40, go_sem, y0, y1, y2]) rfl ?_
      exact ⟨_, rfl, hfin.out.1, hfin.out.2⟩
end Go.Proofs.YtfoblbpbhldngaaDoor
