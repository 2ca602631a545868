/-
  Package check: all cells of rows (cellsOf, with the library's sorting and compacting).
-/
import Derived.Test.YtedfjedmapimnaaDoorKcq
import Derived.Test.YtedfjedmapimnaaDoorKc8
import Derived.Test.YtedfjedmapimnaaDoorIln
import Derived.Test.YtedfjedmapimnaaDoorKap
import Derived.Test.YtedfjedmapimnaaDoorShx
import Derived.Test.YtedfjedmapimnaaDoorShy
import Derived.Sort.OwnSortedInts
import Derived.Lib.SmallJoins
namespace Go.Proofs.YtedfjedmapimnaaDoor
open Flo Go.RowKit Go.Sort Go.Shelf
theorem il_ci (zs : List Nat) : il zs = (Kc.ci8 zs).map (Value.int .i64) := by simp [il, Kc.ci8]
theorem ksort_c (v : Value) (zs : List Nat) (B : Nat) (w : World) (h : w.ownsRow B 3 1 v zs.length (il zs)) (hl : zs.length ≤ 1099511627776) :
    Calls Tryd.prog 39 #[v] w fun e w' => e = .returned (.tuple #[]) ∧ w'.ownsRow B 3 1 v zs.length ((Kc.srt zs).map (Value.int .i64)) ∧ w.grownBy w' v.ownBlock := by
  have h0 := h
  obtain ⟨hxl, ho⟩ := h
  rcases ho with ⟨rfl, h2⟩ | ⟨g, cap, cur, rfl, h1, h2, h3, h4, h5, h6⟩
  · have e0 : zs = [] := List.length_eq_zero_iff.1 h2
    subst e0
    refine (AnyM.slices_Sort_int_none Tryd.sortA none 0 w).mono ?_
    rintro e w' ⟨rfl, rfl⟩
    have e1 : (Kc.srt []).map (Value.int .i64) = il [] := by unfold Kc.srt Kc.ci8 il; simp
    exact ⟨rfl, by rw [e1]; exact h0, ⟨rfl, rfl, rfl, Nat.le_refl _, fun _ _ _ => rfl⟩⟩
  · rw [Nat.mul_one] at h6
    have hcl : (Kc.ci8 zs).length = zs.length := by simp [Kc.ci8]
    have hH := holds_of_blockI (ss := Kc.ci8 zs) h2 (by rw [hcl, h6, il_ci])
    have := AnyM.slices_Sort_int Tryd.sortA g 0 cap (Kc.ci8 zs) w hH (Array.getElem?_eq_some_iff.1 h2).1 (by rw [hcl]; omega)
    rw [hcl] at this
    refine this.mono ?_
    rintro e w' ⟨rfl, n, os, rfl⟩
    have hsl : (Kc.srt zs).length = (Kc.ci8 zs).length := by rw [Kc.srt_len, hcl]
    have h9 := ownsRow_sortedI (n := n) (os := os) (base := B) (ts := Kc.srt zs) (ss := Kc.ci8 zs) hsl h1 h2 (by rw [hcl]; exact h3) h4 h5
    rw [hcl] at h9
    exact ⟨rfl, h9, grownBy_sortedI _⟩
theorem kcompact_c (v : Value) (zs : List Int) (B : Nat) (w : World) (h : w.ownsRow B 3 1 v zs.length (zs.map (Value.int .i64))) (hl : zs.length ≤ 1099511627776) :
    Calls Tryd.prog 40 #[v] w fun e w' => ∃ v', e = .returned v' ∧ w'.ownsRow B 3 1 v' (Lib.compact zs).length ((Lib.compact zs).map (Value.int .i64)) ∧ w.grownBy w' v.ownBlock := by
  have h0 := h
  obtain ⟨hxl, ho⟩ := h
  rcases ho with ⟨rfl, h2⟩ | ⟨g, cap, cur, rfl, h1, h2, h3, h4, h5, h6⟩
  · have e0 : zs = [] := List.length_eq_zero_iff.1 h2
    subst e0
    refine (Tryd.slices_Compact_int_empty none 0 w).mono ?_
    rintro e w' ⟨rfl, rfl⟩
    exact ⟨_, rfl, h0, ⟨rfl, rfl, rfl, Nat.le_refl _, fun _ _ _ => rfl⟩⟩
  · rw [Nat.mul_one] at h6
    have hH := holds_of_blockI (ss := zs) h2 h6
    refine (Tryd.slices_Compact_int g 0 cap zs w hH (by omega) h3).mono ?_
    rintro e w' ⟨rfl, q, rfl⟩
    have hle : (Lib.compact zs).length ≤ zs.length := by unfold Lib.compact Lib.compactUpTo; rw [List.length_map]; exact Nat.le_trans (List.length_filter_le _ _) (by simp)
    have hts : (Lib.compact zs ++ List.replicate (zs.length - (Lib.compact zs).length) 0).length = zs.length := by simp; omega
    have h9 := ownsRow_sortedI (n := q) (os := #[]) (base := B) (ts := Lib.compact zs ++ List.replicate (zs.length - (Lib.compact zs).length) 0) (ss := zs) hts h1 h2 h3 h4 h5
    have hg := grownBy_sortedI (w := w) (g := g) (n := q) (os := #[]) (Lib.compact zs ++ List.replicate (zs.length - (Lib.compact zs).length) 0).toArray
    rw [grow_empty] at h9 hg
    refine ⟨_, rfl, ?_, hg⟩
    rcases h9.2 with ⟨c0, _⟩ | ⟨g', cap', cur', hv, k1, k2, k3, k4, k5, k6⟩
    · cases c0
    cases hv
    refine ⟨by simp, .inr ⟨g, cap, cur', rfl, k1, k2, by omega, k4, k5, ?_⟩⟩
    rw [Nat.mul_one] at k6 ⊢
    have := congrArg (List.take (Lib.compact zs).length) k6
    rw [List.take_take, Nat.min_eq_left hle] at this
    rw [this, List.map_append, List.take_left' (by simp)]
theorem flat_len (rs : List Kc.Rw) (hR : ∀ r ∈ rs, Rok r) : (Kc.flat rs).length ≤ rs.length * 262144 := by
  induction rs with
  | nil => simp [Kc.flat]
  | cons r l ih =>
    have h1 := (hR r (by simp)).c2
    have h2 := ih fun x hx => hR x (by simp [hx])
    have e : (Kc.flat (r :: l)).length = r.c + (Kc.flat l).length := by simp [Kc.flat]
    rw [e, List.length_cons]; omega
theorem flat_le (rs : List Kc.Rw) (hR : ∀ r ∈ rs, Rok r) (h : rs.length ≤ 64) : (Kc.flat rs).length ≤ 16777216 := Nat.le_trans (flat_len rs hR) (Nat.mul_le_mul_right 262144 h)
/-- the cells of the first i places of a row -/
def fst (r : Kc.Rw) (i : Nat) : List Nat := (List.range i).map r.at
theorem fst_succ (r : Kc.Rw) (i : Nat) : fst r (i + 1) = fst r i ++ [r.at i] := by simp [fst, List.range_succ]
theorem fst_len (r : Kc.Rw) (i : Nat) : (fst r i).length = i := by simp [fst]
/-- a row's block, whole -/
def Hrw (w : World) (G : Nat) (f j c : Int) : Prop := w.heap[G]? = some (.cells #[.int .i64 f, .int .i64 j, .int .i64 c] 72 (0, 0))
theorem Hrw.brw {w : World} {G : Nat} {f j c : Int} (h : Hrw w G f j c) : Brw w G f j c := by
  have e := Joins.cell_of_block h
  exact ⟨by rw [e 0]; rfl, by rw [e 1]; rfl, by rw [e 2]; rfl⟩
theorem Hrw.lt {w : World} {G : Nat} {f j c : Int} (h : Hrw w G f j c) : G < w.heap.size := (Array.getElem?_eq_some_iff.1 h).1
theorem Hrw.below {w w' : World} {G : Nat} {f j c : Int} (h : Hrw w G f j c) (hb : RowKit.Below w.heap.size w w') : Hrw w' G f j c := (hb.block G h.lt).trans h
theorem Hrw.ne {w : World} {G B n : Nat} {f j c : Int} {v : Value} {xs : List Value} (h : Hrw w G f j c) (ho : w.ownsRow B 3 1 v n xs) : v.ownBlock ≠ some G := by
  rcases ho.2 with ⟨rfl, _⟩ | ⟨g, cap, cur, rfl, h1, h2, _⟩
  · intro e; cases e
  · intro e
    have : g = G := by simpa [Value.ownBlock] using e
    subst this
    unfold Hrw at h
    rw [h2] at h
    simp at h
theorem Hrw.grown {w w' : World} {G B n : Nat} {f j c : Int} {v : Value} {xs : List Value} (h : Hrw w G f j c) (ho : w.ownsRow B 3 1 v n xs) (hg : w.grownBy w' v.ownBlock) : Hrw w' G f j c :=
  (hg.block G h.lt fun e => h.ne ho e.symm).trans h
set_option maxHeartbeats 2000000 in
theorem kcells_c (rs : List Kc.Rw) (v : Value) (hR : ∀ r ∈ rs, Rok r) (hl : rs.length ≤ 64) (w : World) (hs : RdR w v rs) :
    Calls Tryd.prog 26 #[v] w fun e w' => ∃ v', e = .returned v' ∧ w'.ownsRow w.heap.size 3 1 v' (Kc.cl (Kc.flat rs)).length (il (Kc.cl (Kc.flat rs))) ∧ Below w.heap.size w w' := by
  obtain ⟨ao, cap, rfl, hs⟩ := hs
  have sH : Hid (Rs w ao rs) := hs
  have hRH : Hid (∀ r ∈ rs, Rok r) := hR
  obtain ⟨n, hn⟩ : ∃ n, Hid (rs.length = n) := ⟨_, (rfl : _ = _)⟩
  rw [hn.out] at hl ⊢
  obtain ⟨B, hB⟩ : ∃ n, Hid (w.heap.size = n) := ⟨_, (rfl : _ = _)⟩
  rw [hB.out]
  have nil0 : Hid (w.ownsRow B 3 1 (.slice none 0 0) ([] : List Nat).length (il [])) := ⟨rfl, .inl ⟨rfl, rfl⟩⟩
  clear hs hR
  go_enter Tryd.func26, Tryd.ntmps26
  go_wp2
  go_loopw [3, 9] (fun a i wr => ∃ k : Nat, k ≤ n ∧ i = .int .i64 k ∧ Hid (Below B w wr) ∧ Hid (wr.ownsRow B 3 1 a (Kc.flat (rs.take k)).length (il (Kc.flat (rs.take k))))) (fun _ i _ => n - (intOf i).toNat)
  case atStart => exact ⟨0, Nat.zero_le _, rfl, Below.refl _ _, nil0.out⟩
  case round =>
    obtain ⟨k, hk, rfl, Bk, hown⟩ := hrel
    by_cases hlt : k < n
    · have hlt' : (k : Int) < (n : Int) := by omega
      obtain ⟨r, hr⟩ : ∃ r, rs[k]? = some r := ⟨_, List.getElem?_eq_getElem (by rw [hn.out]; exact hlt)⟩
      obtain ⟨q, o, rfl, hat⟩ := sH.out k r hr
      obtain ⟨y0, y1, y2⟩ := hat.below (hB.out ▸ Bk.out)
      have hrk := hRH.out r (List.mem_of_getElem? hr)
      have hrkH : Hid (Rok r) := hrk
      have htk : Hid (rs.take (k + 1) = rs.take k ++ [r]) := by show _ = _; rw [List.take_add_one, hr]; rfl
      have hfl : Hid ((Kc.flat (rs.take k)).length ≤ 16777216) := flat_le _ (fun x hx => hRH.out x (List.mem_of_mem_take hx)) (by rw [List.length_take]; omega)
      obtain ⟨wb, ewb⟩ : ∃ wb, Hid (wr.alloc (.cells #[.int .i64 r.f, .int .i64 r.j, .int .i64 r.c] 72) = wb) := ⟨_, (rfl : _ = _)⟩
      obtain ⟨G, hG⟩ : ∃ g, Hid (wr.heap.size = g) := ⟨_, (rfl : _ = _)⟩
      have hBG : Hid (B ≤ G) := by show _ ≤ _; rw [← hG.out]; have := Bk.out.size; have := hB.out; omega
      have Bb : Hid (Below B w wb) := by rw [← ewb.out]; exact Bk.out.alloc (by rw [hG.out]; exact hBG.out) _
      have R1 : Hid (Hrw wb G r.f r.j r.c) := by show Hrw _ _ _ _ _; rw [← ewb.out, ← hG.out]; exact heap_alloc_new wr _
      have hown1 : Hid (wb.ownsRow B 3 1 u3 (Kc.flat (rs.take k)).length (il (Kc.flat (rs.take k)))) := by rw [← ewb.out]; exact hown.out.alloc _
      clear hat hr hrk
      go_upto_region 5 with fail
      rw [ewb.out, hG.out]
      clear y0 y1 y2
      obtain ⟨x0, x1, x2⟩ := R1.out.brw
      go_wp2
      clear x0 x1 x2
      obtain ⟨c, hc⟩ : ∃ c, Hid (r.c = c) := ⟨_, (rfl : _ = _)⟩
      rw [hc.out] at R1 ⊢
      have hcb : c ≤ 262144 := by have := hrkH.out.c2; rw [hc.out] at this; exact this
      go_loopw [3, 15] (fun a i wr => ∃ m : Nat, m ≤ c ∧ i = .int .i64 m ∧ Hid (Below B w wr ∧ wb.heap.size ≤ wr.heap.size ∧ Hrw wr G r.f r.j c) ∧ Hid (wr.ownsRow B 3 1 a (Kc.flat (rs.take k) ++ fst r m).length (il (Kc.flat (rs.take k) ++ fst r m)))) (fun _ i _ => c - (intOf i).toNat)
      case atStart => exact ⟨0, Nat.zero_le _, rfl, ⟨Bb.out, Nat.le_refl _, R1.out⟩, by rw [show fst r 0 = [] from rfl, List.append_nil]; exact hown1.out⟩
      case round =>
        obtain ⟨m, hm, rfl, Bm, how2⟩ := hrel
        obtain ⟨x0, x1, x2⟩ := Bm.out.2.2.brw
        by_cases hlm : m < c
        · have hlm' : (m : Int) < (c : Int) := by omega
          have hat : Hid (Calls Tryd.prog 38 #[rv r, .int .i64 (m : Int)] wr fun e w' => e = .returned (.int .i64 (r.at m : Nat)) ∧ RowKit.Below wr.heap.size wr w') := kat_c r hrkH.out m (by omega) wr
          unfold rv rva at hat
          rw [hc.out] at hat
          go_wp2_with fail
          refine hat.out.mono ?_
          rintro e w1 ⟨rfl, B1⟩
          have hBG2 : B ≤ wr.heap.size := by have := hBG.out; have := Bm.out.2.1; have h9 := hG.out; have h8 := ewb.out; have : wb.heap.size = G + 1 := by rw [← ewb.out, ← hG.out]; simp
                                             omega
          have hB1 : Hid (RowKit.Below B w w1 ∧ wb.heap.size ≤ w1.heap.size ∧ Hrw w1 G r.f r.j c) := ⟨Bm.out.1.trans (B1.mono hBG2), Nat.le_trans Bm.out.2.1 B1.size, Bm.out.2.2.below B1⟩
          have how3 : Hid (w1.ownsRow B 3 1 u3 (Kc.flat (rs.take k) ++ fst r m).length (il (Kc.flat (rs.take k) ++ fst r m))) := ow8 how2.out B1
          have hsz1 : Hid (B ≤ w1.heap.size) := Nat.le_trans hBG2 B1.size
          have hll : Hid (((Kc.flat (rs.take k) ++ fst r m).length + 1) * 8 ≤ 140737488355328) := by
            show _ ≤ _
            rw [List.length_append, fst_len]
            have := hfl.out
            omega
          clear B1 x0 x1 x2 hat how2
          go_wp2_with (first | (at_builtin; refine appI _ rfl _ _ rfl B (Kc.flat (rs.take k) ++ fst r m) (r.at m) w1.heap.size u3 rfl rfl (how3.out.alloc _) (by simp [go_sem]) hll.out (by simp; exact Nat.le_succ_of_le hsz1.out) ?_) | fail)
          intro v' w4 ho hg
          have hBa := hB1.out.1.alloc hsz1.out (.cells #[.int .i64 ((r.at m : Nat) : Int)] 3)
          have hHa : Hrw (w1.alloc (.cells #[.int .i64 ((r.at m : Nat) : Int)] 3)) G r.f r.j c := hB1.out.2.2.below ((RowKit.Below.refl _ _).alloc (Nat.le_refl _) _)
          have hB4 : Hid (RowKit.Below B w w4 ∧ wb.heap.size ≤ w4.heap.size ∧ Hrw w4 G r.f r.j c) :=
            ⟨hBa.grown hg (by have := hB.out; have := hBa.size; omega) (fun k' hk' => (how3.out.lt k' hk').1), Nat.le_trans hB1.out.2.1 (Nat.le_trans (by simp) hg.size), hHa.grown (how3.out.alloc _) hg⟩
          have ho4 : Hid (w4.ownsRow B 3 1 v' (Kc.flat (rs.take k) ++ fst r (m + 1)).length (il (Kc.flat (rs.take k) ++ fst r (m + 1)))) := by
            rw [fst_succ]; show World.ownsRow _ _ _ _ _ _ _; simpa [List.append_assoc, Nat.add_assoc] using ho
          clear ho hg hBa hHa how3 hB1 hll
          go_wp2
          go_roundw
          case rel => exact ⟨m + 1, by omega, by go_num, hB4, ho4⟩
          case measure => simp [intOf]; omega
        · have hlm' : decide ((m : Int) < (c : Int)) = false := decide_eq_false (by omega)
          have hlm2 : ¬ m < c := hlm
          have hnx : Hid (wr.ownsRow B 3 1 u3 (Kc.flat (rs.take (k + 1))).length (il (Kc.flat (rs.take (k + 1))))) := by
            obtain rfl : m = c := by omega
            have := how2.out
            rw [htk.out, Kc.flat_snoc, hc.out]
            exact this
          have hBn : Hid (RowKit.Below B w wr) := Bm.out.1
          go_wp2
          go_roundw
          case rel => exact ⟨k + 1, by omega, by go_num, hBn, hnx⟩
          case measure => simp [intOf]; omega
    · have hlt' : decide ((k : Int) < (n : Int)) = false := decide_eq_false (by omega)
      have hlt2 : ¬ k < n := hlt
      have hfl : Hid ((Kc.flat rs).length ≤ 16777216) := flat_le _ hRH.out (by rw [hn.out]; exact hl)
      have hown2 : Hid (wr.ownsRow B 3 1 u3 (Kc.flat rs).length (il (Kc.flat rs))) := by
        have := hown.out
        rw [List.take_of_length_le (by have := hn.out; omega)] at this
        exact this
      clear hown
      go_wp2_with fail
      refine (ksort_c u3 _ B wr hown2.out (Nat.le_trans hfl.out (by decide))).mono ?_
      rintro e w1 ⟨rfl, O1, g1⟩
      have hB1 : Hid (Below B w w1) := Bk.out.grown g1 (by have := hB.out; have := Bk.out.size; omega) (fun k' hk' => (hown2.out.lt k' hk').1)
      have O1H : Hid (w1.ownsRow B 3 1 u3 (Kc.srt (Kc.flat rs)).length ((Kc.srt (Kc.flat rs)).map (Value.int .i64))) := by rw [Kc.srt_len]; exact O1
      clear O1 g1 hown2
      go_wp2_with fail
      refine (kcompact_c u3 _ B w1 O1H.out (by rw [Kc.srt_len]; exact Nat.le_trans hfl.out (by decide))).mono ?_
      rintro e w2 ⟨v', rfl, O2, g2⟩
      have hB2 : Hid (Below B w w2) := hB1.out.grown g2 (by have := hB.out; have := hB1.out.size; omega) (fun k' hk' => (O1H.out.lt k' hk').1)
      have O2H : Hid (w2.ownsRow B 3 1 v' (Kc.cl (Kc.flat rs)).length (il (Kc.cl (Kc.flat rs)))) := by rw [il_ci, Kc.ci8_cl, Kc.cl_len]; exact O2
      clear O2 g2
      go_wp2
      go_ret
      exact ⟨_, rfl, O2H.out, hB2.out⟩
end Go.Proofs.YtedfjedmapimnaaDoor
