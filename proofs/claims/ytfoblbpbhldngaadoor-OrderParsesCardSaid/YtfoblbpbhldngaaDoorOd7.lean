/-
  The document's Leaves.
-/
import Derived.Test.YtfoblbpbhldngaaDoorOd4
import Derived.Laws.AppendOwn
import Derived.Laws.CopyOwn
import Derived.OwnWalk
namespace Go.Proofs.YtfoblbpbhldngaaDoor
open Flo Go.RowKit Tr
/-- a leaf in memory: its kind, its number, its (empty) list -/
abbrev Lf : Type := Int × Int × Option Addr × Nat
def lfc (p : Lf) : List Value := [.int .i64 p.1, .int .i64 p.2.1, .slice p.2.2.1 0 p.2.2.2]
def lfs (ps : List Lf) : List Value := ps.flatMap lfc
def lft (p : Lf) : Tr := ⟨p.1, p.2.1, []⟩
def lfok (p : Lf) : Prop := fit p.1 p.2.1
theorem lfs_len (ps : List Lf) : (lfs ps).length = ps.length * 3 := by
  induction ps with
  | nil => rfl
  | cons p r ih => rw [lfs, List.flatMap_cons, List.length_append, show (r.flatMap lfc) = lfs r from rfl, ih, List.length_cons]; simp [lfc]; omega
theorem lfs_app (ps qs : List Lf) : lfs (ps ++ qs) = lfs ps ++ lfs qs := by simp [lfs]
theorem lfs_at {ps : List Lf} {i j : Nat} {p : Lf} (h : ps[i]? = some p) (hj : j < 3) : (lfs ps)[i * 3 + j]? = (lfc p)[j]? := by
  induction ps generalizing i with
  | nil => simp at h
  | cons q r ih =>
    have e : lfs (q :: r) = lfc q ++ lfs r := rfl
    have l3 : (lfc q).length = 3 := rfl
    rw [e]
    cases i with
    | zero =>
      obtain rfl : q = p := by simpa using h
      rw [Nat.zero_mul, Nat.zero_add, List.getElem?_append_left (by omega)]
    | succ i =>
      rw [List.getElem?_append_right (by omega), l3, show (i + 1) * 3 + j - 3 = i * 3 + j by omega]
      exact ih (by simpa using h)
theorem lfs_one (ps : List Lf) : ∀ u ∈ lfs ps, u.oneCell' = true := by
  intro u hu
  unfold lfs at hu
  obtain ⟨p, _, hp⟩ := List.mem_flatMap.1 hu
  simp only [lfc, List.mem_cons, List.not_mem_nil, or_false] at hp
  rcases hp with rfl | rfl | rfl <;> rfl
/-- a row of leaves of one's own -/
structure Lo (w : World) (B : Nat) (u : Value) (ts : List Tr) (ps : List Lf) : Prop where
  own : w.ownsRow B 25 3 u ps.length (lfs ps)
  map : ps.map lft = ts
  ok : ∀ p ∈ ps, lfok p
theorem Lo.len {w : World} {B : Nat} {u : Value} {ts : List Tr} {ps : List Lf} (h : Lo w B u ts ps) : ps.length = ts.length := by rw [← h.map, List.length_map]
theorem Lo.below {w w' : World} {B : Nat} {u : Value} {ts : List Tr} {ps : List Lf} (h : Lo w B u ts ps) (hb : Below w.heap.size w w') : Lo w' B u ts ps :=
  ⟨h.own.kept (row := none) ⟨hb.os, hb.tape, hb.output, hb.size, fun j hj _ => hb.block j hj⟩ (by cases hv : u.ownBlock <;> simp), h.map, h.ok⟩
theorem od_leaf {w : World} {p : Lf} (h : lfok p) : Od w (lft p) (.agg #[.int .i64 p.1, .int .i64 p.2.1, .slice p.2.2.1 0 p.2.2.2]) := by
  unfold lft
  rw [od_eq]
  exact ⟨p.2.2.1, p.2.2.2, rfl, ⟨Nat.zero_le _, h⟩, fun i hi => absurd hi (Nat.not_lt_zero _)⟩
theorem Lo.kds {w : World} {B : Nat} {u : Value} {ts : List Tr} {ps : List Lf} (h : Lo w B u ts ps) (hne : ts ≠ []) : ∃ g cap, u = .slice (some ⟨g, 0, none⟩) ts.length cap ∧ B ≤ g ∧ g < w.heap.size ∧ Kds w (some ⟨g, 0, none⟩) ts.length ts ∧ ∀ j v, (lfs ps)[j]? = some v → w.cell? ⟨g, j, none⟩ = some v := by
  have hl := h.len
  obtain ⟨h1, h2⟩ := h.own
  rcases h2 with ⟨e1, e2⟩ | ⟨g, cap, cur, rfl, hB, hr, hn, hc, hcs, htk⟩
  · exact absurd (List.length_eq_zero_iff.1 (by omega)) hne
  · have hcell : ∀ j v, (lfs ps)[j]? = some v → w.cell? ⟨g, j, none⟩ = some v := fun j v hv => by
      rw [← htk] at hv
      rw [cell_of_row _ _ _ _ _ _ hr]
      rw [List.getElem?_take] at hv
      split at hv
      · simpa using hv
      · cases hv
    refine ⟨g, cap, by rw [hl], hB, (Array.getElem?_eq_some_iff.1 hr).1, fun i hi => ?_, hcell⟩
    obtain ⟨p, hp⟩ : ∃ p, ps[i]? = some p := ⟨ps[i], List.getElem?_eq_getElem (by omega)⟩
    have hm := List.mem_of_getElem? hp
    refine ⟨g, 0, .slice p.2.2.1 0 p.2.2.2, lft p, by rw [← h.map, List.getElem?_map, hp]; rfl, rfl, (Array.getElem?_eq_some_iff.1 hr).1, ?_, ?_, ?_, od_leaf (h.ok p hm)⟩
    · rw [Nat.zero_add]
      exact hcell _ _ ((lfs_at (j := 0) hp (by decide)).trans rfl)
    · rw [Nat.zero_add]
      exact hcell _ _ ((lfs_at (j := 1) hp (by decide)).trans rfl)
    · rw [Nat.zero_add]
      exact hcell _ _ ((lfs_at (j := 2) hp (by decide)).trans rfl)
theorem lv_ne (t : Tr) : lv t ≠ [] := by
  refine ind (P := fun t => lv t ≠ []) (fun k n ks ih => ?_) t
  rw [lv_eq]
  split
  · simp
  · rename_i h
    obtain ⟨x, r, rfl⟩ := List.exists_cons_of_ne_nil h
    have := ih x (by simp)
    simp [this]
theorem lv_len (t : Tr) : (lv t).length ≤ pt t := by
  refine ind (P := fun t => (lv t).length ≤ pt t) (fun k n ks ih => ?_) t
  rw [lv_eq, pt_eq]
  split
  · simp
  · have key : ∀ l : List Tr, (∀ t ∈ l, (lv t).length ≤ pt t) → ((l.map lv).flatten).length ≤ (l.map pt).sum := by
      intro l
      induction l with
      | nil => intro _; simp
      | cons a r ihr =>
        intro h
        have h1 := h a (by simp)
        have h2 := ihr (fun t ht => h t (by simp [ht]))
        simp only [List.map_cons, List.flatten_cons, List.length_append, List.sum_cons]
        omega
    have := key ks ih
    omega
theorem infoO : (Tryd.prog.info? 25).map (fun i => (i.zero, i.size, i.bytes)) = some (some (.agg #[.int .i64 0, .int .i64 0, .slice none 0 0]), 3, 40) := by kernel_rfl
theorem info_o : ∃ i, Tryd.prog.info? 25 = some i ∧ i.zero = some (.agg #[.int .i64 0, .int .i64 0, .slice none 0 0]) ∧ i.size = 3 ∧ i.bytes = 40 := by
  obtain ⟨i, hi, h⟩ := Option.map_eq_some_iff.1 infoO
  simp only [Prod.mk.injEq] at h
  exact ⟨i, hi, h.1, h.2.1, h.2.2⟩
/-- the leaves of the first i Kids -/
def lvi (ks : List Tr) (i : Nat) : List Tr := ((ks.take i).map lv).flatten
theorem lvi_succ {ks : List Tr} {i : Nat} {t : Tr} (h : ks[i]? = some t) : lvi ks (i + 1) = lvi ks i ++ lv t := by
  unfold lvi
  rw [List.take_add_one, h]
  simp
theorem lvi_all {k n : Int} {ks : List Tr} (h : ks ≠ []) : lvi ks ks.length = lv ⟨k, n, ks⟩ := by
  rw [lv_eq, if_neg h]
  unfold lvi
  rw [List.take_of_length_le (Nat.le_refl _)]
theorem lvi_len (k n : Int) (ks : List Tr) (i : Nat) : (lvi ks i).length ≤ pt ⟨k, n, ks⟩ := by
  have h1 := lv_len ⟨0, 0, ks.take i⟩
  have h2 := pti_le k n ks i
  by_cases h : ks.take i = []
  · unfold lvi; rw [h]; simp
  · rw [lv_eq, if_neg h, pt_eq] at h1
    unfold pti at h2
    unfold lvi
    omega
set_option maxHeartbeats 2000000 in
theorem rLeaves_c (t : Tr) : ∀ (v : Value) (w : World), Od w t v → pt t ≤ 4500 → Calls Tryd.prog 18 #[v] w fun e w' => ∃ u ps, e = .returned u ∧ Lo w' w.heap.size u (lv t) ps ∧ Below w.heap.size w w' := by
  refine Tr.ind (P := fun t => ∀ (v : Value) (w : World), Od w t v → pt t ≤ 4500 → Calls Tryd.prog 18 #[v] w fun e w' => ∃ u ps, e = .returned u ∧ Lo w' w.heap.size u (lv t) ps ∧ Below w.heap.size w w') (fun k n ks ih0 v w ho hpt0 => ?_) t
  have hfit : Hid (fit k n) := ho.fits
  obtain ⟨ao, cap, rfl, hl0, hk0⟩ := ho.kds
  obtain ⟨L, hL⟩ : ∃ L, Hid (ks.length = L) := ⟨_, (rfl : _ = _)⟩
  have hk : Hid (Kds w ao L ks) := by show Kds _ _ _ _; rw [← hL.out]; exact hk0
  have hl : L ≤ 9223372036854775807 := by rw [← hL.out]; exact hl0
  have ih : Hid (∀ t ∈ ks, ∀ (v : Value) (w : World), Od w t v → Calls Tryd.prog 18 #[v] w fun e w' => ∃ u ps, e = .returned u ∧ Lo w' w.heap.size u (lv t) ps ∧ Below w.heap.size w w') := fun t ht v w h => ih0 t ht v w h (by have := pt_kid (k := k) (n := n) ht; omega)
  have hpt : Hid (∀ i, (lvi ks i).length ≤ 4500) := fun i => Nat.le_trans (lvi_len k n ks i) hpt0
  obtain ⟨R, hR⟩ : ∃ R, Hid (lv ⟨k, n, ks⟩ = R) := ⟨_, (rfl : _ = _)⟩
  rw [hL.out]
  rw [hR.out]
  clear hk0 hl0 ih0 ho hpt0
  obtain ⟨w0, hw0⟩ : ∃ w0, Hid (w.alloc (.cells #[.int .i64 k, .int .i64 n, .slice ao L cap] 25) = w0) := ⟨_, (rfl : _ = _)⟩
  have B0 : Hid (Below w.heap.size w w0) := by show Below _ _ _; rw [← hw0.out]; exact (Below.refl _ _).alloc (Nat.le_refl _) _
  have X0 : Hid (Bx3 w0 w.heap.size k n (.slice ao L cap)) := by show Bx3 _ _ _ _ _; rw [← hw0.out]; exact Bx3.new _ _ _ _ _
  obtain ⟨g, hg⟩ : ∃ g, Hid (w.heap.size = g) := ⟨_, (rfl : _ = _)⟩
  have hg0 : Hid (g ≤ w0.heap.size) := by show _ ≤ _; rw [← hg.out]; exact B0.out.size
  go_enter Tryd.func18, Tryd.ntmps18
  go_upto_region 1 with fail
  rw [hw0.out]
  rw [hg.out] at X0 B0 ⊢
  clear hw0
  have c0 := X0.out.c0
  have c1 := X0.out.c1
  have c2 := X0.out.c2
  by_cases h0 : L = 0
  · have q0 : ((L : Int) == 0) = true := by rw [h0]; rfl
    have hks : ks = [] := List.length_eq_zero_iff.1 (hL.out.trans h0)
    have hR2 : Hid ([lft (k, n, ao, cap)] = R) := by show _ = _; rw [← hR.out, lv_eq, if_pos hks, hks]; rfl
    subst h0
    have O1 : Hid (Lo (w0.alloc (.cells #[.int .i64 k, .int .i64 n, .slice ao 0 cap] 25)) g (.slice (some ⟨w0.heap.size, 0, none⟩) 1 1) R [(k, n, ao, cap)]) := by
      refine ⟨⟨rfl, .inr ⟨w0.heap.size, 1, _, rfl, hg0.out, heap_alloc_new _ _, Nat.le_refl _, by decide, rfl, rfl⟩⟩, by rw [← hR2.out]; rfl, fun p hp => ?_⟩
      obtain rfl : p = (k, n, ao, cap) := by simpa using hp
      exact hfit.out
    have B1 : Hid (Below g w (w0.alloc (.cells #[.int .i64 k, .int .i64 n, .slice ao 0 cap] 25))) := B0.out.alloc hg0.out _
    go_wp2_with fail
    go_ret
    exact ⟨_, _, rfl, by rw [hg.out]; exact O1.out, by rw [hg.out]; exact B1.out⟩
  · have q0 : ((L : Int) == 0) = false := beq_eq_false_iff_ne.2 (by omega)
    have hks : ks ≠ [] := fun e => h0 (by rw [← hL.out, e]; rfl)
    have hRL : Hid (lvi ks L = R) := by show _ = _; rw [← hR.out, ← hL.out]; exact lvi_all hks
    obtain ⟨i0, hi0, hz0, hz1, hz2⟩ := info_o
    have O1 : Hid (Lo (w0.alloc (.cells #[] 25)) g (.slice (some ⟨w0.heap.size, 0, none⟩) 0 0) (lvi ks 0) []) :=
      ⟨⟨rfl, .inr ⟨w0.heap.size, 0, #[], rfl, hg0.out, heap_alloc_new _ _, Nat.le_refl _, Nat.zero_le _, rfl, rfl⟩⟩, by unfold lvi; simp, fun p hp => by cases hp⟩
    have B1 : Hid (Below g w (w0.alloc (.cells #[] 25))) := B0.out.alloc hg0.out _
    have hgw : Hid (w.heap.size = g) := hg
    clear hks
    have c2' : (w0.alloc (.cells #[] 25)).cell? ⟨g, 2, none⟩ = some (.slice ao L cap) := (X0.out.below ((Below.refl _ _).alloc (Nat.le_refl _) _)).c2
    go_wp2_with fail
    clear c0 c1 c2 c2'
    go_loopw [3, 16] (fun so si wx => ∃ (i : Nat) (ps : List Lf), i ≤ L ∧ si = .int .i64 (i : Int) ∧ Hid (Lo wx g so (lvi ks i) ps) ∧ Hid (Below g w wx)) (fun _ si _ => L - (intOf si).toNat)
    case atStart => exact ⟨0, [], Nat.zero_le _, rfl, O1, B1⟩
    case round =>
      clear O1 B1
      obtain ⟨i, ps, hi, rfl, O, hb⟩ := hrel
      by_cases hlt : i < L
      · have hlt' : (i : Int) < (L : Int) := by omega
        have hbw : Hid (Below w.heap.size w wr) := by show Below _ _ _; rw [hgw.out]; exact hb.out
        obtain ⟨b, off, s, t', et, K0⟩ := hk.out i hlt
        have K := K0.below hbw.out
        obtain rfl := K.at0
        obtain ⟨a1, l1, p1, rfl⟩ := K.slc
        have c0 := K.c0
        have c1 := K.c1
        have c2 := K.c2
        have hod : Hid (Od wr t' (.agg #[.int .i64 t'.k, .int .i64 t'.n, .slice a1 l1 p1])) := K.od
        have hmem : Hid (t' ∈ ks) := List.mem_of_getElem? et
        have hst : Hid (lvi ks (i + 1) = lvi ks i ++ lv t') := lvi_succ et
        clear K K0 et
        generalize t'.k = k1 at *
        generalize t'.n = n1 at *
        have hal : Hid (Below wr.heap.size wr (wr.alloc (.cells #[.int .i64 k1, .int .i64 n1, .slice a1 l1 p1] 25))) := (Below.refl _ _).alloc (Nat.le_refl _) _
        go_wp2_with fail
        refine (ih.out t' hmem.out _ _ (Od.below hal.out _ _ hod.out)).mono ?_
        rintro e w1 ⟨u, qs, rfl, U1, W1⟩
        have hW1 : Hid (Below wr.heap.size wr w1) := btr hal.out W1
        have hgr : Hid (g ≤ wr.heap.size) := by show _ ≤ _; rw [← hgw.out]; exact hbw.out.size
        have hB1 : Hid (Below g w w1) := hb.out.trans (hW1.out.mono hgr.out)
        have O2 : Hid (Lo w1 g u3 (lvi ks i) ps) := O.out.below hW1.out
        obtain ⟨g2, cap2, rfl, _, hg2, _, hcell⟩ := U1.kds (lv_ne t')
        have hql : Hid (qs.length = (lv t').length) := U1.len
        obtain ⟨m, hm⟩ : ∃ m, Hid ((lv t').length = m) := ⟨_, (rfl : _ = _)⟩
        have hcellH : Hid (∀ j v, (lfs qs)[j]? = some v → w1.cell? ((⟨g2, 0, none⟩ : Addr).add j) = some v) := fun j v hv => by
          have := hcell j v hv
          unfold Addr.add
          by_cases hj : j = 0
          · subst hj; simpa using this
          · simpa [hj] using this
        have hqm : Hid (qs.map lft = lv t' ∧ ∀ p ∈ qs, lfok p) := ⟨U1.map, U1.ok⟩
        have hbd : Hid (ps.length + m ≤ 4500) := by
          have h1 := hpt.out (i + 1)
          rw [hst.out, List.length_append, hm.out, ← O2.out.len] at h1
          exact h1
        rw [hm.out]
        have hbd1 := hbd.out
        have hsz1 : Hid (g ≤ w1.heap.size) := Nat.le_trans hgr.out hW1.out.size
        clear U1 W1 hal hod hcell c0 c1 c2 hg2 O hb hbw
        go_wp2_with (at_builtin; refine wpList_append_own _ rfl _ _ 23 rfl g 25 i0 _ 3 40 Tryd.underlying23 hi0 hz0 hz1 hz2 rfl (by decide) _ _ _ rfl O2.out.own ⟨g2, 0, none⟩ m _ (lfs qs) rfl (by rw [lfs_len, hql.out, hm.out]) hcellH.out (lfs_one qs) (by unfold maxLen; omega) (by omega) hsz1.out ?_)
        intro v' w4 q1 q2 q3
        have O4 : Hid (Lo w4 g v' (lvi ks (i + 1)) (ps ++ qs)) := by
          refine ⟨?_, by rw [List.map_append, O2.out.map, hqm.out.1, hst.out], fun p hp => ?_⟩
          · rw [List.length_append, hql.out, hm.out, lfs_app]; exact q1
          · rcases List.mem_append.1 hp with h | h
            · exact O2.out.ok p h
            · exact hqm.out.2 p h
        have B4 : Hid (Below g w w4) := hB1.out.grown q2 hsz1.out (fun k' hk' => (O2.out.own.lt k' hk').1)
        clear q1 q2 q3 O2 hB1 hcellH
        go_wp2_with fail
        go_roundw
        case rel => exact ⟨i + 1, _, by omega, by go_num, O4, B4⟩
        case measure => simp [intOf]; omega
      · have hlt' : decide ((i : Int) < (L : Int)) = false := decide_eq_false (by omega)
        have ei : i = L := by omega
        subst ei
        rw [hRL.out] at O
        go_wp2_with fail
        go_ret
        exact ⟨_, ps, rfl, by rw [hg.out]; exact O.out, by rw [hg.out]; exact hb.out⟩
end Go.Proofs.YtfoblbpbhldngaaDoor
