/-
  The statement StepsFields: the walk.
-/
import Derived.Test.YtbipgkbnhpdmhaaDoorSf1
import Derived.Deep.RegionWith
namespace Go.Proofs.YtbipgkbnhpdmhaaDoor
open Flo Go.RowKit
/-- the cell of a step's field made another -/
theorem Bst.field {w : World} {g : Nat} {s : Sp.St} (h : Bst w g s.op s.dst s.src s.jump s.count s.n s.k) {i : Nat} (hi : i < 5) : w.cell? ⟨g, dfo i, none⟩ = some (.int .i64 (fld s i)) := by
  match i, hi with
  | 0, _ => exact h.c2
  | 1, _ => exact h.c3
  | 2, _ => exact h.c5
  | 3, _ => exact h.c6
  | 4, _ => exact h.c1
theorem Bst.setF {w : World} {g : Nat} {s : Sp.St} (h : Bst w g s.op s.dst s.src s.jump s.count s.n s.k) {i : Nat} (hi : i < 5) (x : Int) : Bst (w.setCell ⟨g, dfo i, none⟩ (.int .i64 x)) g (setF s i x).op (setF s i x).dst (setF s i x).src (setF s i x).jump (setF s i x).count (setF s i x).n (setF s i x).k := by
  match i, hi with
  | 0, _ => exact ⟨by simp [dfo, Go.Proofs.YtbipgkbnhpdmhaaDoor.setF, World.cell?_setCell_other, h.c0], by simp [dfo, Go.Proofs.YtbipgkbnhpdmhaaDoor.setF, World.cell?_setCell_other, h.c1], World.cell?_setCell_same _ _ _ h.c2, by simp [dfo, Go.Proofs.YtbipgkbnhpdmhaaDoor.setF, World.cell?_setCell_other, h.c3], by simp [dfo, Go.Proofs.YtbipgkbnhpdmhaaDoor.setF, World.cell?_setCell_other, h.c4], by simp [dfo, Go.Proofs.YtbipgkbnhpdmhaaDoor.setF, World.cell?_setCell_other, h.c5], by simp [dfo, Go.Proofs.YtbipgkbnhpdmhaaDoor.setF, World.cell?_setCell_other, h.c6]⟩
  | 1, _ => exact ⟨by simp [dfo, Go.Proofs.YtbipgkbnhpdmhaaDoor.setF, World.cell?_setCell_other, h.c0], by simp [dfo, Go.Proofs.YtbipgkbnhpdmhaaDoor.setF, World.cell?_setCell_other, h.c1], by simp [dfo, Go.Proofs.YtbipgkbnhpdmhaaDoor.setF, World.cell?_setCell_other, h.c2], World.cell?_setCell_same _ _ _ h.c3, by simp [dfo, Go.Proofs.YtbipgkbnhpdmhaaDoor.setF, World.cell?_setCell_other, h.c4], by simp [dfo, Go.Proofs.YtbipgkbnhpdmhaaDoor.setF, World.cell?_setCell_other, h.c5], by simp [dfo, Go.Proofs.YtbipgkbnhpdmhaaDoor.setF, World.cell?_setCell_other, h.c6]⟩
  | 2, _ => exact ⟨by simp [dfo, Go.Proofs.YtbipgkbnhpdmhaaDoor.setF, World.cell?_setCell_other, h.c0], by simp [dfo, Go.Proofs.YtbipgkbnhpdmhaaDoor.setF, World.cell?_setCell_other, h.c1], by simp [dfo, Go.Proofs.YtbipgkbnhpdmhaaDoor.setF, World.cell?_setCell_other, h.c2], by simp [dfo, Go.Proofs.YtbipgkbnhpdmhaaDoor.setF, World.cell?_setCell_other, h.c3], by simp [dfo, Go.Proofs.YtbipgkbnhpdmhaaDoor.setF, World.cell?_setCell_other, h.c4], World.cell?_setCell_same _ _ _ h.c5, by simp [dfo, Go.Proofs.YtbipgkbnhpdmhaaDoor.setF, World.cell?_setCell_other, h.c6]⟩
  | 3, _ => exact ⟨by simp [dfo, Go.Proofs.YtbipgkbnhpdmhaaDoor.setF, World.cell?_setCell_other, h.c0], by simp [dfo, Go.Proofs.YtbipgkbnhpdmhaaDoor.setF, World.cell?_setCell_other, h.c1], by simp [dfo, Go.Proofs.YtbipgkbnhpdmhaaDoor.setF, World.cell?_setCell_other, h.c2], by simp [dfo, Go.Proofs.YtbipgkbnhpdmhaaDoor.setF, World.cell?_setCell_other, h.c3], by simp [dfo, Go.Proofs.YtbipgkbnhpdmhaaDoor.setF, World.cell?_setCell_other, h.c4], by simp [dfo, Go.Proofs.YtbipgkbnhpdmhaaDoor.setF, World.cell?_setCell_other, h.c5], World.cell?_setCell_same _ _ _ h.c6⟩
  | 4, _ => exact ⟨by simp [dfo, Go.Proofs.YtbipgkbnhpdmhaaDoor.setF, World.cell?_setCell_other, h.c0], World.cell?_setCell_same _ _ _ h.c1, by simp [dfo, Go.Proofs.YtbipgkbnhpdmhaaDoor.setF, World.cell?_setCell_other, h.c2], by simp [dfo, Go.Proofs.YtbipgkbnhpdmhaaDoor.setF, World.cell?_setCell_other, h.c3], by simp [dfo, Go.Proofs.YtbipgkbnhpdmhaaDoor.setF, World.cell?_setCell_other, h.c4], by simp [dfo, Go.Proofs.YtbipgkbnhpdmhaaDoor.setF, World.cell?_setCell_other, h.c5], by simp [dfo, Go.Proofs.YtbipgkbnhpdmhaaDoor.setF, World.cell?_setCell_other, h.c6]⟩
theorem setF_op (s : Sp.St) (i : Nat) (x : Int) : (setF s i x).op = s.op := by
  unfold setF
  split
  · rfl
  · split
    · rfl
    · split
      · rfl
      · split <;> rfl
theorem bst_sat {w : World} {g : Nat} {s : Sp.St} (h : Bst w g s.op s.dst s.src s.jump s.count s.n s.k) : SAt w g 0 s := ⟨h.c0, h.c1, h.c2, h.c3, h.c4, h.c5, h.c6⟩
theorem ss_one {w : World} {g : Nat} {s : Sp.St} (h : SAt w g 0 s) : Ss w (some ⟨g, 0, none⟩) [s] := fun i u hi => by
  match i, hi with
  | 0, hi => simp at hi; subst hi; exact ⟨g, 0, rfl, h⟩
  | n + 1, hi => simp at hi
theorem one_eq (s t : Sp.St) : pgeq ⟨0, 0, 0, 0, [s]⟩ ⟨0, 0, 0, 0, [t]⟩ = steq s t := by simp [pgeq, hdeq, sseq]
set_option maxHeartbeats 16000000 in
set_option maxRecDepth 100000 in
theorem stepsFields.walk (ss : List Sp.St) (ao : Option Addr) (c : Nat) (x : Int) (al : List Addr) (w : World) (hs : Ss w ao ss) (hb : ss.length * 56 ≤ 140737488351232) (he : E4 w al) (hO : Ops w) :
    Calls Tryd.prog 8 #[.slice ao ss.length c, .int .i64 x] w fun e w' => e = .returned (.bool true) ∧ Below w.heap.size w w' := by
  have hOH : Hid (Ops w) := hO
  have hsH : Hid (Ss w ao ss) := hs
  have heH : Hid (E4 w al) := he
  have hlv : Hid (Calls Tryd.prog 9 #[] w fun e w' => e = .returned (.bool true) ∧ Below w.heap.size w w') := slives_c al w he hO
  obtain ⟨n, hn⟩ : ∃ n, Hid (ss.length = n) := ⟨_, (rfl : _ = _)⟩
  have hnb : n ≤ 140737488351232 := by have := hn.out; omega
  rw [hn.out]
  clear he hO hs hb
  go_enter Tryd.func8, Tryd.ntmps8
  go_wp2_with fail
  refine hlv.out.mono ?_
  rintro e w1 ⟨rfl, B1⟩
  have B1H : Hid (Below w.heap.size w w1) := B1
  clear B1 hlv
  go_wp2
  go_loopw [17] (fun i wr => ∃ k : Nat, k ≤ n ∧ i = .int .i64 k ∧ Hid (Below w.heap.size w wr)) (fun i _ => n - (intOf i).toNat)
  case atStart => exact ⟨0, Nat.zero_le _, rfl, B1H⟩
  case round =>
    obtain ⟨k, hk, rfl, Bk⟩ := hrel
    by_cases hlt : k < n
    · have hlt' : (k : Int) < (n : Int) := by omega
      obtain ⟨s, hs⟩ : ∃ s, ss[k]? = some s := ⟨_, List.getElem?_eq_getElem (by rw [hn.out]; exact hlt)⟩
      obtain ⟨q, o, rfl, hat⟩ := hsH.out k s hs
      obtain ⟨y0, y1, y2, y3, y4, y5, y6⟩ := hat.below Bk.out
      obtain ⟨wb, ewb⟩ : ∃ wb, Hid (wr.alloc (.cells #[.int .i64 s.op, .int .i64 s.dst, .int .i64 s.src, .int .i64 s.jump, .int .i64 s.count, .int .i64 s.n, .int .i64 s.k] 30) = wb) := ⟨_, (rfl : _ = _)⟩
      have Bb : Hid (Below w.heap.size w wb) := by rw [← ewb.out]; exact Bk.out.alloc Bk.out.size _
      have Xb : Hid (Bst wb wr.heap.size s.op s.dst s.src s.jump s.count s.n s.k) := by show Bst _ _ _ _ _ _ _ _ _; rw [← ewb.out]; exact Bst.new wr _ _ _ _ _ _ _
      obtain ⟨g, hg⟩ : ∃ g, Hid (wr.heap.size = g) := ⟨_, (rfl : _ = _)⟩
      rw [hg.out] at Xb
      have gw : Hid (w.heap.size ≤ g) := by show _ ≤ _; rw [← hg.out]; exact Bk.out.size
      have hfo : Hid (∀ (t : Sp.St) (W : World), Below w.heap.size w W → Calls Tryd.prog 16 #[sva t.op t.dst t.src t.jump t.count t.n t.k] W fun e w' => e = .returned (fev al (Sp.fm t)) ∧ Below W.heap.size W w') := fun t W hW => sform_c t al W (hOH.out.below hW) (heH.out.below hW).prog
      have hf0 := hfo.out s wb Bb.out
      have hf0H : Hid (Calls Tryd.prog 16 #[sva s.op s.dst s.src s.jump s.count s.n s.k] wb fun e w' => e = .returned (fev al (Sp.fm s)) ∧ Below wb.heap.size wb w') := hf0
      obtain ⟨b, hb⟩ : ∃ b, Hid (Sp.fm s = b) := ⟨_, (rfl : _ = _)⟩
      rw [hb.out] at hf0H
      unfold sva at hf0H
      clear hs hat hf0
      go_upto_region 6 with fail
      rw [ewb.out, hg.out]
      clear y0 y1 y2 y3 y4 y5 y6
      obtain ⟨y0, y1, y2, y3, y4, y5, y6⟩ := Xb.out
      go_wp2_with fail
      refine hf0H.out.mono ?_
      rintro e w2 ⟨rfl, B2'⟩
      have B2 : Hid (Below w.heap.size w w2) := Bb.out.trans (B2'.mono Bb.out.size)
      have X2 : Hid (Bst w2 g s.op s.dst s.src s.jump s.count s.n s.k) := Xb.out.below B2'
      clear y0 y1 y2 y3 y4 y5 y6 B2' hf0H Xb
      cases b with
      | false =>
        have e1 : fev al false = ek al 8 := rfl
        have hq := nnil_c al 8
        have hgd := guard_c al 8
        go_wp2
        go_roundw
        case rel => exact ⟨k + 1, by omega, by go_num, B2⟩
        case measure => simp [intOf]; omega
      | true =>
        have e1 : fev al true = .nilIface := rfl
        obtain ⟨y0, y1, y2, y3, y4, y5, y6⟩ := X2.out
        have hac : Hid (∀ W, Below w2.heap.size w2 W → Calls Tryd.prog 17 #[.agg #[.int .i64 s.op, .int .i64 s.dst, .int .i64 s.src, .int .i64 s.jump, .int .i64 s.count, .int .i64 s.n, .int .i64 s.k]] W fun e w' => e = .returned (.int .i64 s.count) ∧ Below w2.heap.size w2 w') := fun W hW => by
          refine (sacts_c s al W (hOH.out.below (B2.out.trans (hW.mono B2.out.size))) (heH.out.below (B2.out.trans (hW.mono B2.out.size))).prog).mono ?_
          rintro e w' ⟨rfl, h2⟩
          exact ⟨by unfold acv; rw [hb.out]; rfl, hW.trans (h2.mono hW.size)⟩
        have hc1 : Hid (1 ≤ s.count) := (Sp.fm_fields hb.out).2.2.2.2.1.1
        have q1 : (s.count != s.count) = false := by simp
        have q2 : decide (s.count < 1) = false := decide_eq_false (by have := hc1.out; omega)
        go_wp2
        first
        | (go_region_with (go_at_call 17; refine (hac.out _ (by first | exact (Below.refl _ _).drew | exact Below.refl _ _)).mono ?_; rintro e w3 ⟨rfl, B3⟩; obtain ⟨y0, y1, y2, y3, y4, y5, y6⟩ := X2.out.below B3; have B3H : Hid (Below w2.heap.size w2 w3) := B3; clear B3))
        | fail
        all_goals (
          have B3w : Hid (Below w.heap.size w w3) := B2.out.trans (B3H.out.mono B2.out.size)
          have X3 : Hid (Bst w3 g s.op s.dst s.src s.jump s.count s.n s.k) := X2.out.below B3H.out
          clear B3H X2 hac hc1 y0 y1 y2 y3 y4 y5 y6
          go_wp2
          rename World => wz
          go_loopw [7] (fun i wr => ∃ j : Nat, j ≤ 5 ∧ i = .int .i64 j ∧ Hid (Below w.heap.size w wr) ∧ Hid (Bst wr g s.op s.dst s.src s.jump s.count s.n s.k)) (fun i _ => 5 - (intOf i).toNat)
          case atStart => exact ⟨0, Nat.zero_le _, rfl, B3w, X3⟩
          case round =>
            obtain ⟨j, hj, rfl, B4, X4⟩ := hrel
            by_cases hl5 : j < 5
            · have hl5' : (j : Int) < 5 := by omega
              obtain ⟨o', ho'⟩ : ∃ o' : Nat, s.op = (o' : Int) := ⟨s.op.toNat, by have := (Sp.fm_fields hb.out).1; omega⟩
              have hob : 1 ≤ o' ∧ o' < 12 := by have := (Sp.fm_fields hb.out).1; omega
              have hoe : Hid (s.op.toNat = o') := by show _ = _; rw [ho']; simp
              obtain ⟨gt, hgt⟩ : ∃ g, Hid (wr.heap.size = g) := ⟨_, (rfl : _ = _)⟩
              obtain ⟨w5, ew5⟩ : ∃ wb, Hid (wr.alloc (.cells #[.int .i64 s.op, .int .i64 s.dst, .int .i64 s.src, .int .i64 s.jump, .int .i64 s.count, .int .i64 s.n, .int .i64 s.k] 30) = wb) := ⟨_, (rfl : _ = _)⟩
              have T5 : Bst w5 gt s.op s.dst s.src s.jump s.count s.n s.k := by rw [← ew5.out, ← hgt.out]; exact Bst.new wr _ _ _ _ _ _ _
              have Z5 : w5.frozen? ⟨gt, dfo j, none⟩ = false := by rw [← ew5.out, ← hgt.out]; simp
              have B45 : Below wr.heap.size wr w5 := by rw [← ew5.out]; exact (Below.refl _ _).alloc (Nat.le_refl _) _
              have X5 : Hid (Bst w5 g s.op s.dst s.src s.jump s.count s.n s.k) := X4.out.below B45
              have glt : Hid (g < gt) := by show _ < _; rw [← hgt.out]; exact cell_lt (a := ⟨g, 0, none⟩) X4.out.c0
              have B5 : Hid (Below w.heap.size w w5) := B4.out.trans (B45.mono B4.out.size)
              have c5 := T5.field hl5
              obtain ⟨w6, ew6⟩ : ∃ w6, Hid (w5.setCell ⟨gt, dfo j, none⟩ (.int .i64 x) = w6) := ⟨_, (rfl : _ = _)⟩
              obtain ⟨t, ht⟩ : ∃ t, Hid (setF s j x = t) := ⟨_, (rfl : _ = _)⟩
              have T6 : Hid (Bst w6 gt t.op t.dst t.src t.jump t.count t.n t.k) := by rw [← ew6.out, ← ht.out]; exact T5.setF hl5 x
              have X6 : Hid (Bst w6 g s.op s.dst s.src s.jump s.count s.n s.k) := X5.out.fr (by rw [← ew6.out]; exact Fr.setCell (S := fun k => k = gt) (p := ⟨gt, dfo j, none⟩) (Fr.refl _ w5) rfl _) (by have := glt.out; omega)
              have B6 : Hid (Below w.heap.size w w6) := by rw [← ew6.out]; exact B5.out.setCell (p := ⟨gt, dfo j, none⟩) (by have := glt.out; have := gw.out; show _ ≤ gt; omega) _
              obtain ⟨was, hwas⟩ : ∃ was, Hid (fld s j = was) := ⟨_, (rfl : _ = _)⟩
              rw [hwas.out] at c5
              have hfc : Hid (Calls Tryd.prog 25 #[.pointer (some ⟨gt, 0, none⟩), .int .i64 (j : Int)] w5 fun e w' => e = .returned (.pointer (some ⟨gt, dfo j, none⟩)) ∧ w5 = w') := field_c gt j hl5 w5
              have hhc : Hid (Calls Tryd.prog 26 #[.int .i64 s.op, .int .i64 (j : Int)] w6 fun e w' => e = .returned (.bool (hasB o' j)) ∧ w6 = w') := by rw [ho']; exact has_c o' j hob hl5 w6
              obtain ⟨hbb, hhb⟩ : ∃ b, Hid (hasB o' j = b) := ⟨_, (rfl : _ = _)⟩
              rw [hhb.out] at hhc
              have hz : Hid (hbb = false → was = 0) := fun e => by rw [← hwas.out]; exact fld_zero hb.out hl5 (by rw [hoe.out, hhb.out]; exact e)
              have hbad : Hid (hbb = false → ¬ x = 0 → Sp.fm t = false) := fun e hx => by rw [← ht.out]; exact setF_bad hl5 (by rw [hoe.out, hhb.out]; exact e) hx
              have hse : Hid (steq s t = (x == was)) := by show _ = _; rw [← ht.out, ← hwas.out]; exact setF_eq s x hl5
              generalize dfo j = off at *
              clear B45 T5 ho' hob hoe
              obtain ⟨y0, y1, y2, y3, y4, y5, y6⟩ := X4.out
              go_upto_region 13 with fail
              rw [ew5.out, hgt.out]
              clear y0 y1 y2 y3 y4 y5 y6
              go_wp2_with fail
              refine hfc.out.mono ?_
              rintro e w' ⟨rfl, rfl⟩
              go_upto_region 16 with fail
              rw [ew6.out]
              obtain ⟨y0, y1, y2, y3, y4, y5, y6⟩ := X6.out
              obtain ⟨t0, t1, t2, t3, t4, t5, t6⟩ := T6.out
              clear c5 Z5 hfc
              go_cut [64] (fun r wx => r = .bool false ∧ Hid (Below w6.heap.size w6 wx))
              case first =>
                go_wp2_with fail
                refine hhc.out.mono ?_
                rintro e w' ⟨rfl, rfl⟩
                cases hbb with
                | true =>
                  go_wp2_with fail
                  go_meet
                  case rel => exact ⟨rfl, Below.refl _ _⟩
                | false =>
                  have wz0 : was = 0 := hz.out rfl
                  have q7 : (was != 0) = false := by rw [wz0]; rfl
                  clear wz0
                  by_cases hx0 : x = 0
                  · have q8 : (x != 0) = false := by rw [hx0]; rfl
                    clear hx0
                    go_wp2_with fail
                    go_meet
                    case rel => exact ⟨rfl, Below.refl _ _⟩
                  · have q8 : (x != 0) = true := bne_iff_ne.2 hx0
                    have hff := hfo.out t w6 B6.out
                    rw [hbad.out rfl hx0] at hff
                    unfold sva at hff
                    have hffH : Hid (Calls Tryd.prog 16 #[.agg #[.int .i64 t.op, .int .i64 t.dst, .int .i64 t.src, .int .i64 t.jump, .int .i64 t.count, .int .i64 t.n, .int .i64 t.k]] w6 fun e w' => e = .returned (ek al 8) ∧ Below w6.heap.size w6 w') := hff
                    have hq := nil_c al 8
                    have hgd := guard_c al 8
                    clear hff
                    go_wp2_with fail
                    refine hffH.out.mono ?_
                    rintro e w7 ⟨rfl, B7⟩
                    have B7H : Hid (Below w6.heap.size w6 w7) := B7
                    clear B7
                    go_wp2_with fail
                    go_meet
                    case rel => exact ⟨rfl, B7H⟩
              case rest =>
                obtain ⟨rfl, B7⟩ := hcut
                clear y0 y1 y2 y3 y4 y5 y6 t0 t1 t2 t3 t4 t5 t6
                obtain ⟨a1, ha1⟩ : ∃ a, Hid (wc.heap.size = a) := ⟨_, (rfl : _ = _)⟩
                have X8 := X6.out.below B7.out
                have T8 := T6.out.below B7.out
                have B8 : Hid (Below w.heap.size w wc) := B6.out.trans (B7.out.mono B6.out.size)
                have X8H : Hid (Bst wc g s.op s.dst s.src s.jump s.count s.n s.k) := X8
                obtain ⟨wq, ewq⟩ : ∃ wq, Hid ((((wc.alloc (.cells #[.int .i64 s.op, .int .i64 s.dst, .int .i64 s.src, .int .i64 s.jump, .int .i64 s.count, .int .i64 s.n, .int .i64 s.k] 30)).alloc (.cells #[.int .i64 0, .int .i64 0, .int .i64 0, .int .i64 0, .slice (some ⟨a1, 0, none⟩) 1 1] 38)).alloc (.cells #[.int .i64 t.op, .int .i64 t.dst, .int .i64 t.src, .int .i64 t.jump, .int .i64 t.count, .int .i64 t.n, .int .i64 t.k] 30)).alloc (.cells #[.int .i64 0, .int .i64 0, .int .i64 0, .int .i64 0, .slice (some ⟨a1 + 1 + 1, 0, none⟩) 1 1] 38) = wq) := ⟨_, (rfl : _ = _)⟩
                have b1 : Below wc.heap.size wc (wc.alloc (.cells #[.int .i64 s.op, .int .i64 s.dst, .int .i64 s.src, .int .i64 s.jump, .int .i64 s.count, .int .i64 s.n, .int .i64 s.k] 30)) := (Below.refl _ _).alloc (Nat.le_refl _) _
                have b2 : Below ((wc.alloc (.cells #[.int .i64 s.op, .int .i64 s.dst, .int .i64 s.src, .int .i64 s.jump, .int .i64 s.count, .int .i64 s.n, .int .i64 s.k] 30))).heap.size (wc.alloc (.cells #[.int .i64 s.op, .int .i64 s.dst, .int .i64 s.src, .int .i64 s.jump, .int .i64 s.count, .int .i64 s.n, .int .i64 s.k] 30)) ((wc.alloc (.cells #[.int .i64 s.op, .int .i64 s.dst, .int .i64 s.src, .int .i64 s.jump, .int .i64 s.count, .int .i64 s.n, .int .i64 s.k] 30)).alloc (.cells #[.int .i64 0, .int .i64 0, .int .i64 0, .int .i64 0, .slice (some ⟨a1, 0, none⟩) 1 1] 38)) := (Below.refl _ _).alloc (Nat.le_refl _) _
                have b3 : Below (((wc.alloc (.cells #[.int .i64 s.op, .int .i64 s.dst, .int .i64 s.src, .int .i64 s.jump, .int .i64 s.count, .int .i64 s.n, .int .i64 s.k] 30)).alloc (.cells #[.int .i64 0, .int .i64 0, .int .i64 0, .int .i64 0, .slice (some ⟨a1, 0, none⟩) 1 1] 38))).heap.size ((wc.alloc (.cells #[.int .i64 s.op, .int .i64 s.dst, .int .i64 s.src, .int .i64 s.jump, .int .i64 s.count, .int .i64 s.n, .int .i64 s.k] 30)).alloc (.cells #[.int .i64 0, .int .i64 0, .int .i64 0, .int .i64 0, .slice (some ⟨a1, 0, none⟩) 1 1] 38)) (((wc.alloc (.cells #[.int .i64 s.op, .int .i64 s.dst, .int .i64 s.src, .int .i64 s.jump, .int .i64 s.count, .int .i64 s.n, .int .i64 s.k] 30)).alloc (.cells #[.int .i64 0, .int .i64 0, .int .i64 0, .int .i64 0, .slice (some ⟨a1, 0, none⟩) 1 1] 38)).alloc (.cells #[.int .i64 t.op, .int .i64 t.dst, .int .i64 t.src, .int .i64 t.jump, .int .i64 t.count, .int .i64 t.n, .int .i64 t.k] 30)) := (Below.refl _ _).alloc (Nat.le_refl _) _
                have b4 : Below ((((wc.alloc (.cells #[.int .i64 s.op, .int .i64 s.dst, .int .i64 s.src, .int .i64 s.jump, .int .i64 s.count, .int .i64 s.n, .int .i64 s.k] 30)).alloc (.cells #[.int .i64 0, .int .i64 0, .int .i64 0, .int .i64 0, .slice (some ⟨a1, 0, none⟩) 1 1] 38)).alloc (.cells #[.int .i64 t.op, .int .i64 t.dst, .int .i64 t.src, .int .i64 t.jump, .int .i64 t.count, .int .i64 t.n, .int .i64 t.k] 30))).heap.size (((wc.alloc (.cells #[.int .i64 s.op, .int .i64 s.dst, .int .i64 s.src, .int .i64 s.jump, .int .i64 s.count, .int .i64 s.n, .int .i64 s.k] 30)).alloc (.cells #[.int .i64 0, .int .i64 0, .int .i64 0, .int .i64 0, .slice (some ⟨a1, 0, none⟩) 1 1] 38)).alloc (.cells #[.int .i64 t.op, .int .i64 t.dst, .int .i64 t.src, .int .i64 t.jump, .int .i64 t.count, .int .i64 t.n, .int .i64 t.k] 30)) wq := by rw [← ewq.out]; exact (Below.refl _ _).alloc (Nat.le_refl _) _
                have z1 : ((wc.alloc (.cells #[.int .i64 s.op, .int .i64 s.dst, .int .i64 s.src, .int .i64 s.jump, .int .i64 s.count, .int .i64 s.n, .int .i64 s.k] 30))).heap.size = a1 + 1 := by rw [← ha1.out]; simp
                have z2 : (((wc.alloc (.cells #[.int .i64 s.op, .int .i64 s.dst, .int .i64 s.src, .int .i64 s.jump, .int .i64 s.count, .int .i64 s.n, .int .i64 s.k] 30)).alloc (.cells #[.int .i64 0, .int .i64 0, .int .i64 0, .int .i64 0, .slice (some ⟨a1, 0, none⟩) 1 1] 38))).heap.size = a1 + 1 + 1 := by rw [← ha1.out]; simp
                have z3 : ((((wc.alloc (.cells #[.int .i64 s.op, .int .i64 s.dst, .int .i64 s.src, .int .i64 s.jump, .int .i64 s.count, .int .i64 s.n, .int .i64 s.k] 30)).alloc (.cells #[.int .i64 0, .int .i64 0, .int .i64 0, .int .i64 0, .slice (some ⟨a1, 0, none⟩) 1 1] 38)).alloc (.cells #[.int .i64 t.op, .int .i64 t.dst, .int .i64 t.src, .int .i64 t.jump, .int .i64 t.count, .int .i64 t.n, .int .i64 t.k] 30))).heap.size = a1 + 1 + 1 + 1 := by rw [← ha1.out]; simp
                have S9 : Hid (SAt wq a1 0 s) := by
                  have h1 := bst_sat (s := s) (Bst.new wc s.op s.dst s.src s.jump s.count s.n s.k)
                  rw [ha1.out] at h1
                  exact ((h1.below b2).below b3).below b4
                have P9 : Hid (Bpg wq (a1 + 1) ⟨0, 0, 0, 0, [s]⟩ (.slice (some ⟨a1, 0, none⟩) 1 1)) := by
                  have h1 := Bpg.new (wc.alloc (.cells #[.int .i64 s.op, .int .i64 s.dst, .int .i64 s.src, .int .i64 s.jump, .int .i64 s.count, .int .i64 s.n, .int .i64 s.k] 30)) ⟨0, 0, 0, 0, [s]⟩ (.slice (some ⟨a1, 0, none⟩) 1 1)
                  rw [z1] at h1
                  exact (h1.below b3).below b4
                have S10 : Hid (SAt wq (a1 + 1 + 1) 0 t) := by
                  have h1 := bst_sat (s := t) (Bst.new ((wc.alloc (.cells #[.int .i64 s.op, .int .i64 s.dst, .int .i64 s.src, .int .i64 s.jump, .int .i64 s.count, .int .i64 s.n, .int .i64 s.k] 30)).alloc (.cells #[.int .i64 0, .int .i64 0, .int .i64 0, .int .i64 0, .slice (some ⟨a1, 0, none⟩) 1 1] 38)) t.op t.dst t.src t.jump t.count t.n t.k)
                  rw [z2] at h1
                  exact h1.below b4
                have P10 : Hid (Bpg wq (a1 + 1 + 1 + 1) ⟨0, 0, 0, 0, [t]⟩ (.slice (some ⟨a1 + 1 + 1, 0, none⟩) 1 1)) := by
                  have h1 := Bpg.new (((wc.alloc (.cells #[.int .i64 s.op, .int .i64 s.dst, .int .i64 s.src, .int .i64 s.jump, .int .i64 s.count, .int .i64 s.n, .int .i64 s.k] 30)).alloc (.cells #[.int .i64 0, .int .i64 0, .int .i64 0, .int .i64 0, .slice (some ⟨a1, 0, none⟩) 1 1] 38)).alloc (.cells #[.int .i64 t.op, .int .i64 t.dst, .int .i64 t.src, .int .i64 t.jump, .int .i64 t.count, .int .i64 t.n, .int .i64 t.k] 30)) ⟨0, 0, 0, 0, [t]⟩ (.slice (some ⟨a1 + 1 + 1, 0, none⟩) 1 1)
                  rw [z3, ewq.out] at h1
                  exact h1
                have Bq : Hid (Below wc.heap.size wc wq) := ((b1.trans (b2.mono b1.size)).trans (b3.mono (Nat.le_trans b1.size b2.size))).trans (b4.mono (Nat.le_trans b1.size (Nat.le_trans b2.size b3.size)))
                obtain ⟨y0, y1, y2, y3, y4, y5, y6⟩ := X8
                obtain ⟨t0, t1, t2, t3, t4, t5, t6⟩ := T8
                replace t0 := fun o p => cell_alloc (cell_alloc t0 o) p
                replace t1 := fun o p => cell_alloc (cell_alloc t1 o) p
                replace t2 := fun o p => cell_alloc (cell_alloc t2 o) p
                replace t3 := fun o p => cell_alloc (cell_alloc t3 o) p
                replace t4 := fun o p => cell_alloc (cell_alloc t4 o) p
                replace t5 := fun o p => cell_alloc (cell_alloc t5 o) p
                replace t6 := fun o p => cell_alloc (cell_alloc t6 o) p
                clear b1 b2 b3 b4 z1 z2 z3
                go_upto_region 20 with fail
                rw [ha1.out, ewq.out]
                clear y0 y1 y2 y3 y4 y5 y6 t0 t1 t2 t3 t4 t5 t6
                have p0 : wq.cell? ⟨a1 + 1, 0, none⟩ = some (.int .i64 0) := P9.out.c0
                have p1 : wq.cell? ⟨a1 + 1, 1, none⟩ = some (.int .i64 0) := P9.out.c1
                have p2 : wq.cell? ⟨a1 + 1, 2, none⟩ = some (.int .i64 0) := P9.out.c2
                have p3 : wq.cell? ⟨a1 + 1, 3, none⟩ = some (.int .i64 0) := P9.out.c3
                have p4 := P9.out.c4
                have r0 : wq.cell? ⟨a1 + 1 + 1 + 1, 0, none⟩ = some (.int .i64 0) := P10.out.c0
                have r1 : wq.cell? ⟨a1 + 1 + 1 + 1, 1, none⟩ = some (.int .i64 0) := P10.out.c1
                have r2 : wq.cell? ⟨a1 + 1 + 1 + 1, 2, none⟩ = some (.int .i64 0) := P10.out.c2
                have r3 : wq.cell? ⟨a1 + 1 + 1 + 1, 3, none⟩ = some (.int .i64 0) := P10.out.c3
                have r4 := P10.out.c4
                have hsm : Hid (Calls Tryd.prog 24 #[.agg #[.int .i64 0, .int .i64 0, .int .i64 0, .int .i64 0, .slice (some ⟨a1, 0, none⟩) 1 1], .agg #[.int .i64 0, .int .i64 0, .int .i64 0, .int .i64 0, .slice (some ⟨a1 + 1 + 1, 0, none⟩) 1 1]] wq fun e w' => e = .returned (.bool (x == was)) ∧ Below wq.heap.size wq w') := by
                  have := ssame_c ⟨0, 0, 0, 0, [s]⟩ ⟨0, 0, 0, 0, [t]⟩ (some ⟨a1, 0, none⟩) (some ⟨a1 + 1 + 1, 0, none⟩) 1 1 1 1 wq (ss_one S9.out) (ss_one S10.out) rfl rfl (by decide)
                  rw [one_eq, hse.out] at this
                  exact this
                have hsa : Hid (∀ W, Below wq.heap.size wq W → Calls Tryd.prog 24 #[.agg #[.int .i64 0, .int .i64 0, .int .i64 0, .int .i64 0, .slice (some ⟨a1, 0, none⟩) 1 1], .agg #[.int .i64 0, .int .i64 0, .int .i64 0, .int .i64 0, .slice (some ⟨a1, 0, none⟩) 1 1]] W fun e w' => e = .returned (.bool true) ∧ Below W.heap.size W w') := fun W hW => by
                  have := ssame_c ⟨0, 0, 0, 0, [s]⟩ ⟨0, 0, 0, 0, [s]⟩ (some ⟨a1, 0, none⟩) (some ⟨a1, 0, none⟩) 1 1 1 1 W (ss_one (S9.out.below hW)) (ss_one (S9.out.below hW)) rfl rfl (by decide)
                  rw [pgeq_iff.2 rfl] at this
                  exact this
                obtain ⟨eb, heb⟩ : ∃ eb, (x == was) = eb := ⟨_, rfl⟩
                rw [heb] at hsm
                have q9 : (eb != eb) = false := by simp
                go_wp2_with fail
                refine hsm.out.mono ?_
                rintro e wu ⟨rfl, Bu⟩
                have BuH : Hid (Below wq.heap.size wq wu) := Bu
                have v0 : wu.cell? ⟨a1 + 1, 0, none⟩ = some (.int .i64 0) := (P9.out.below Bu).c0
                have v1 : wu.cell? ⟨a1 + 1, 1, none⟩ = some (.int .i64 0) := (P9.out.below Bu).c1
                have v2 : wu.cell? ⟨a1 + 1, 2, none⟩ = some (.int .i64 0) := (P9.out.below Bu).c2
                have v3 : wu.cell? ⟨a1 + 1, 3, none⟩ = some (.int .i64 0) := (P9.out.below Bu).c3
                have v4 := (P9.out.below Bu).c4
                clear p0 p1 p2 p3 p4 r0 r1 r2 r3 r4 Bu hsm
                go_wp2_with fail
                refine (hsa.out wu BuH.out).mono ?_
                rintro e wv ⟨rfl, Bv⟩
                have Bcv : Below wc.heap.size wc wv := (Bq.out.trans (BuH.out.mono Bq.out.size)).trans (Bv.mono (Nat.le_trans Bq.out.size BuH.out.size))
                have Bf : Hid (Below w.heap.size w wv) := B8.out.trans (Bcv.mono B8.out.size)
                have Xf : Hid (Bst wv g s.op s.dst s.src s.jump s.count s.n s.k) := X8H.out.below Bcv
                clear v0 v1 v2 v3 v4 Bv Bcv hsa
                go_wp2
                go_roundw
                case rel => exact ⟨j + 1, by omega, by go_num, Bf, Xf⟩
                case measure => simp [intOf]; omega
            · have hl5' : decide ((j : Int) < 5) = false := decide_eq_false (by omega)
              go_wp2
              go_roundw
              case rel => exact ⟨k + 1, by omega, by go_num, B4⟩
              case measure => simp [intOf]; omega)
    · have hlt' : decide ((k : Int) < (n : Int)) = false := decide_eq_false (by omega)
      have hlt2 : ¬ k < n := hlt
      go_wp2
      go_ret
      exact ⟨rfl, Bk.out⟩
end Go.Proofs.YtbipgkbnhpdmhaaDoor
