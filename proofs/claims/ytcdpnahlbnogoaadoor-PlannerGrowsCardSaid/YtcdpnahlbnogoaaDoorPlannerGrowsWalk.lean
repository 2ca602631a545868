/-
  PlannerGrows: the whole walk.
-/
import Derived.Test.YtcdpnahlbnogoaaDoorAc6
import Derived.Test.YtcdpnahlbnogoaaDoorOc1
namespace Go.Proofs.YtcdpnahlbnogoaaDoor
open Flo Go.RowKit Go.Shelf Tr
theorem od_kn {w : World} {t : Tr} {v : Value} (h : Od w t v) : ∃ a l c, v = .agg #[.int .i64 t.k, .int .i64 t.n, .slice a l c] := by
  obtain ⟨k, n, ks⟩ := t
  obtain ⟨ao, cap, e, _⟩ := h.kds
  exact ⟨_, _, _, e⟩
theorem below_st3 {m : Nat} {w W : World} (h : Below m w W) {b : Nat} (hb : m ≤ b) (k n : Int) (s : Value) : Below m w (st3 W b k n s) :=
  ((h.setCell (p := ⟨b, 0, none⟩) hb _).setCell (p := ⟨b, 1, none⟩) hb _).setCell (p := ⟨b, 2, none⟩) hb _
set_option maxRecDepth 100000 in
set_option maxHeartbeats 8000000 in
theorem plannerGrows.walk (ta tb tc : Tr) (va vb vc : Value) (n : Int) (aR aN aL aO : Addr) (w : World) (hn0 : -9223372036854775808 ≤ n ∧ n ≤ 9223372036854775807) (hE : E14 w aR aN aL aO) (oa : Od w ta va) (ob : Od w tb vb) (oc : Od w tc vc) :
    Calls Tryd.prog 7 #[va, vb, vc, .int .i64 n] w fun e w' => e = .returned (.bool true) ∧ Below w.heap.size w w' := by
  have hn : Hid (-9223372036854775808 ≤ n ∧ n ≤ 9223372036854775807) := hn0
  clear hn0
  obtain ⟨aa, al, ac, rfl⟩ := od_kn oa
  obtain ⟨ba, bl, bc, rfl⟩ := od_kn ob
  obtain ⟨ca, cl, cc, rfl⟩ := od_kn oc
  obtain ⟨ak, hak⟩ : ∃ z, Hid (ta.k = z) := ⟨_, (rfl : _ = _)⟩
  obtain ⟨an, han⟩ : ∃ z, Hid (ta.n = z) := ⟨_, (rfl : _ = _)⟩
  obtain ⟨bk, hbk⟩ : ∃ z, Hid (tb.k = z) := ⟨_, (rfl : _ = _)⟩
  obtain ⟨bn, hbn⟩ : ∃ z, Hid (tb.n = z) := ⟨_, (rfl : _ = _)⟩
  obtain ⟨ck, hck⟩ : ∃ z, Hid (tc.k = z) := ⟨_, (rfl : _ = _)⟩
  obtain ⟨cn, hcn⟩ : ∃ z, Hid (tc.n = z) := ⟨_, (rfl : _ = _)⟩
  rw [hak.out, han.out] at oa ⊢
  rw [hbk.out, hbn.out] at ob ⊢
  rw [hck.out, hcn.out] at oc ⊢
  obtain ⟨g, hg⟩ : ∃ g, Hid (w.heap.size = g) := ⟨_, (rfl : _ = _)⟩
  obtain ⟨w1, e1⟩ : ∃ z, Hid (w.alloc (.cells #[.int .i64 ak, .int .i64 an, .slice aa al ac] 24) = z) := ⟨_, (rfl : _ = _)⟩
  obtain ⟨w2, e2⟩ : ∃ z, Hid (w1.alloc (.cells #[.int .i64 bk, .int .i64 bn, .slice ba bl bc] 24) = z) := ⟨_, (rfl : _ = _)⟩
  obtain ⟨w3, e3⟩ : ∃ z, Hid (w2.alloc (.cells #[.int .i64 ck, .int .i64 cn, .slice ca cl cc] 24) = z) := ⟨_, (rfl : _ = _)⟩
  have s1 : w1.heap.size = g + 1 := by rw [← e1.out, ← hg.out]; simp
  have s2 : w2.heap.size = g + 2 := by rw [← e2.out]; simp [s1]
  have b1 : Below w.heap.size w w1 := by rw [← e1.out]; exact (Below.refl _ _).alloc (Nat.le_refl _) _
  have b2 : Below w1.heap.size w1 w2 := by rw [← e2.out]; exact (Below.refl _ _).alloc (Nat.le_refl _) _
  have b3 : Below w2.heap.size w2 w3 := by rw [← e3.out]; exact (Below.refl _ _).alloc (Nat.le_refl _) _
  have hS3 : Hid (Bo w3 g ak an (.slice aa al ac) ∧ Bo w3 (g + 1) bk bn (.slice ba bl bc) ∧ Bo w3 (g + 2) ck cn (.slice ca cl cc)) := by
    have h1 : Bo w1 g ak an (.slice aa al ac) := by rw [← e1.out, ← hg.out]; exact Bo.new _ _ _ _
    have h2 : Bo w2 (g + 1) bk bn (.slice ba bl bc) := by rw [← e2.out, ← s1]; exact Bo.new _ _ _ _
    have h3 : Bo w3 (g + 2) ck cn (.slice ca cl cc) := by rw [← e3.out, ← s2]; exact Bo.new _ _ _ _
    exact ⟨(h1.bel b2).bel b3, h2.bel b3, h3⟩
  have hB3 : Hid (Below w.heap.size w w3) := btr (btr b1 b2) b3
  have hE3 : Hid (E14 w3 aR aN aL aO) := hE.below hB3.out
  have oA3 : Hid (Od w3 ta (.agg #[.int .i64 ak, .int .i64 an, .slice aa al ac])) := Od.below hB3.out _ _ oa
  have oB3 : Hid (Od w3 tb (.agg #[.int .i64 bk, .int .i64 bn, .slice ba bl bc])) := Od.below hB3.out _ _ ob
  have oC3 : Hid (Od w3 tc (.agg #[.int .i64 ck, .int .i64 cn, .slice ca cl cc])) := Od.below hB3.out _ _ oc
  have hfx := fixed14_c w3 _ _ _ _ hE3.out
  have hE0 : Hid (E14 w aR aN aL aO) := hE
  have oA0 : Hid (Od w ta (.agg #[.int .i64 ak, .int .i64 an, .slice aa al ac])) := oa
  have oB0 : Hid (Od w tb (.agg #[.int .i64 bk, .int .i64 bn, .slice ba bl bc])) := ob
  have oC0 : Hid (Od w tc (.agg #[.int .i64 ck, .int .i64 cn, .slice ca cl cc])) := oc
  clear oa ob oc hE b1 b2 b3 s1 s2 han hbn hck hcn
  refine callsIn_wide.1 (?_ : CallsIn Fence.wide 9 Tryd.prog _ _ _ _)
  refine callsIn_of_wp_marks Tryd.func7 rfl trivial ?_ rfl
  simp only [Tryd.ntmps7, List.size_toArray, List.length_cons, List.length_nil, Nat.reduceAdd, Nat.reduceSub, Array.replicate_succ, Array.replicate_zero, List.push_toArray, List.append_toArray, List.nil_append, List.cons_append]
  gi_wp2_with fail
  rw [e1.out, e2.out, e3.out, hg.out]
  clear e1 e2 e3
  refine ⟨trivial, (callsIn_wide.2 hfx).mono ?_⟩
  rintro e w4 ⟨rfl, B4⟩
  have h34 : Hid (Below w3.heap.size w3 w4) := B4
  clear B4 hfx
  obtain ⟨XA, hXA⟩ : ∃ z, Hid (coE aL aO ta = z) := ⟨_, (rfl : _ = _)⟩
  obtain ⟨XB, hXB⟩ : ∃ z, Hid (coE aL aO tb = z) := ⟨_, (rfl : _ = _)⟩
  obtain ⟨XC, hXC⟩ : ∃ z, Hid (coE aL aO tc = z) := ⟨_, (rfl : _ = _)⟩
  obtain ⟨CA, hCA⟩ : ∃ z, Hid (coV ta = z) := ⟨_, (rfl : _ = _)⟩
  obtain ⟨CB, hCB⟩ : ∃ z, Hid (coV tb = z) := ⟨_, (rfl : _ = _)⟩
  obtain ⟨CC, hCC⟩ : ∃ z, Hid (coV tc = z) := ⟨_, (rfl : _ = _)⟩
  have q0 := (hS3.out.1.bel h34.out).c0
  have q01 := (hS3.out.1.bel h34.out).c1
  have q02 := (hS3.out.1.bel h34.out).c2
  have hc0 : Calls Tryd.prog 32 #[.agg #[.int .i64 ak, .int .i64 an, .slice aa al ac]] w4 fun e w' => e = .returned (.tuple #[.int .i64 (CA : Int), XA]) ∧ Below w4.heap.size w4 w' := by
    have e14 := hE3.out.below h34.out
    have := pcost_c ta _ w4 _ _ (Od.below h34.out _ _ oA3.out) e14.cL e14.cO
    rw [hCA.out, hXA.out] at this
    exact this
  gi_wp2_with fail
  refine ⟨trivial, (callsIn_wide.2 hc0).mono ?_⟩
  rintro e v0 ⟨rfl, Bv0⟩
  have hv0 : Hid (Below w3.heap.size w3 v0) := btr h34.out Bv0
  clear Bv0 hc0 q0 q01 q02
  have q1 := (hS3.out.2.1.bel hv0.out).c0
  have q11 := (hS3.out.2.1.bel hv0.out).c1
  have q12 := (hS3.out.2.1.bel hv0.out).c2
  have hc1 : Calls Tryd.prog 32 #[.agg #[.int .i64 bk, .int .i64 bn, .slice ba bl bc]] v0 fun e w' => e = .returned (.tuple #[.int .i64 (CB : Int), XB]) ∧ Below v0.heap.size v0 w' := by
    have e14 := hE3.out.below hv0.out
    have := pcost_c tb _ v0 _ _ (Od.below hv0.out _ _ oB3.out) e14.cL e14.cO
    rw [hCB.out, hXB.out] at this
    exact this
  gi_wp2_with fail
  refine ⟨trivial, (callsIn_wide.2 hc1).mono ?_⟩
  rintro e v1 ⟨rfl, Bv1⟩
  have hv1 : Hid (Below w3.heap.size w3 v1) := btr hv0.out Bv1
  clear Bv1 hc1 q1 q11 q12
  have q2 := (hS3.out.2.2.bel hv1.out).c0
  have q21 := (hS3.out.2.2.bel hv1.out).c1
  have q22 := (hS3.out.2.2.bel hv1.out).c2
  have hc2 : Calls Tryd.prog 32 #[.agg #[.int .i64 ck, .int .i64 cn, .slice ca cl cc]] v1 fun e w' => e = .returned (.tuple #[.int .i64 (CC : Int), XC]) ∧ Below v1.heap.size v1 w' := by
    have e14 := hE3.out.below hv1.out
    have := pcost_c tc _ v1 _ _ (Od.below hv1.out _ _ oC3.out) e14.cL e14.cO
    rw [hCC.out, hXC.out] at this
    exact this
  gi_wp2_with fail
  refine ⟨trivial, (callsIn_wide.2 hc2).mono ?_⟩
  rintro e v2 ⟨rfl, Bv2⟩
  have hv2 : Hid (Below w3.heap.size w3 v2) := btr hv1.out Bv2
  clear Bv2 hc2 q2 q21 q22
  gi_wp2_with fail
  have hSd : Hid (Bo v2.drew g ak an (.slice aa al ac) ∧ Bo v2.drew (g + 1) bk bn (.slice ba bl bc) ∧ Bo v2.drew (g + 2) ck cn (.slice ca cl cc)) := ⟨hS3.out.1.bel hv2.out.drew, hS3.out.2.1.bel hv2.out.drew, hS3.out.2.2.bel hv2.out.drew⟩
  have hBd : Hid (Below w.heap.size w v2.drew) := (btr hB3.out hv2.out).drew
  rcases coE_cases aL aO ta with ⟨nA, okA⟩ | ⟨⟨q, nA⟩, -⟩
  · rw [hXA.out] at nA
    subst nA
    rcases coE_cases aL aO tb with ⟨nB, okB⟩ | ⟨⟨q, nB⟩, -⟩
    · rw [hXB.out] at nB
      subst nB
      rcases coE_cases aL aO tc with ⟨nC, okC'⟩ | ⟨⟨q, nC⟩, -⟩
      · rw [hXC.out] at nC
        subst nC
        by_cases hk : ak = bk
        · have hkb : (ak == bk) = true := beq_iff_eq.2 hk
          have hkb2 : (ak != bk) = false := by simp [bne, hkb]
          have hl1 : Hid (∀ W, Below w3.heap.size w3 W → Calls Tryd.prog 33 #[.agg #[.int .i64 ak, .int .i64 an, .slice aa al ac]] W fun e w' => e = .returned (.int .i64 (len ta : Int)) ∧ Below W.heap.size W w') := fun W h => length_c ta _ W (Od.below h _ _ oA3.out)
          have hl2 : Hid (∀ W, Below w3.heap.size w3 W → Calls Tryd.prog 33 #[.agg #[.int .i64 bk, .int .i64 bn, .slice ba bl bc]] W fun e w' => e = .returned (.int .i64 (len tb : Int)) ∧ Below W.heap.size W w') := fun W h => length_c tb _ W (Od.below h _ _ oB3.out)
          have hSW : Hid (∀ W, Below w3.heap.size w3 W → Bo W g ak an (.slice aa al ac) ∧ Bo W (g + 1) bk bn (.slice ba bl bc) ∧ Bo W (g + 2) ck cn (.slice ca cl cc)) := fun W h => ⟨hS3.out.1.bel h, hS3.out.2.1.bel h, hS3.out.2.2.bel h⟩
          have hd : Hid (Below w3.heap.size w3 v2.drew) := hv2.out.drew
          by_cases hl : len ta = len tb
          · refine grow_l (la := (len ta : Int)) (lb := (len tb : Int)) (b := true) (Z1 := fun W => Below w3.heap.size w3 W) (V1 := fun W => Below w3.heap.size w3 W) hSd.out hkb2 (by simp [hl]) ?_ ?_ ?_
            · refine (hl1.out _ hd.out).mono ?_
              rintro e W ⟨rfl, h⟩
              have h2 := btr hd.out h
              exact ⟨rfl, hSW.out _ h2, h2⟩
            · intro W h
              refine (hl2.out _ h).mono ?_
              rintro e W2 ⟨rfl, h2⟩
              have h3 := btr h h2
              exact ⟨rfl, hSW.out _ h3, h3⟩
            · intro w4 h4
              have h34 : Hid (Below w3.heap.size w3 w4) := h4
              have hkH : ta.k = tb.k := by rw [hak.out, hbk.out, hk]
              have gro1 : Hid (CA ≤ CB → Gro ⟨3, 0, [ta, tc]⟩ ⟨3, 0, [tb, tc]⟩ ∧ Gro ⟨3, 0, [tc, ta]⟩ ⟨3, 0, [tc, tb]⟩ ∧ Gro ⟨4, n, [ta]⟩ ⟨4, n, [tb]⟩) := fun h => gro_all n okA okB hkH hl (by rw [hCA.out, hCB.out]; exact h)
              have gro2 : Hid (CB ≤ CA → Gro ⟨3, 0, [tb, tc]⟩ ⟨3, 0, [ta, tc]⟩ ∧ Gro ⟨3, 0, [tc, tb]⟩ ⟨3, 0, [tc, ta]⟩ ∧ Gro ⟨4, n, [tb]⟩ ⟨4, n, [ta]⟩) := fun h => gro_all n okB okA hkH.symm hl.symm (by rw [hCA.out, hCB.out]; exact h)
              have ptA : Hid (pt ta ≤ 65536) := by show _ ≤ _; have := (okC_len okA).2.2; omega
              have ptB : Hid (pt tb ≤ 65536) := by show _ ≤ _; have := (okC_len okB).2.2; omega
              have ptC : Hid (pt tc ≤ 65536) := by show _ ≤ _; have := (okC_len okC').2.2; omega
              clear h4 hl hk hkb hkb2 hl1 hl2 hd hSd hBd hkH
              by_cases hgt : CB < CA
              · have hgt2 : (CA : Int) > (CB : Int) := by omega
                have hGr := gro2.out (by omega)
                have hGrH : Hid _ := hGr
                clear hGr
                have hS4 := hSW.out _ h34.out
                have x0 := hS4.1.c0
                have x1 := hS4.1.c1
                have x2 := hS4.1.c2
                have y0 := hS4.2.1.c0
                have y1 := hS4.2.1.c1
                have y2 := hS4.2.1.c2
                have xf0 := hS4.1.fz 0
                have xf1 := hS4.1.fz 1
                have xf2 := hS4.1.fz 2
                have yf0 := hS4.2.1.fz 0
                have yf1 := hS4.2.1.fz 1
                have yf2 := hS4.2.1.fz 2
                have hS4H : Hid (Bo w4 g ak an (.slice aa al ac) ∧ Bo w4 (g + 1) bk bn (.slice ba bl bc) ∧ Bo w4 (g + 2) ck cn (.slice ca cl cc)) := hS4
                clear hS4 hgt
                gi_wp2_with fail
                obtain ⟨w5, e5⟩ : ∃ z, Hid (st3 (st3 w4 g bk bn (.slice ba bl bc)) (g + 1) ak an (.slice aa al ac) = z) := ⟨_, (rfl : _ = _)⟩
                have e5' := e5.out
                unfold st3 at e5'
                rw [e5']
                clear e5' x0 x1 x2 y0 y1 y2 xf0 xf1 xf2 yf0 yf1 yf2
                have hS5 : Hid (Bo w5 g bk bn (.slice ba bl bc) ∧ Bo w5 (g + 1) ak an (.slice aa al ac) ∧ Bo w5 (g + 2) ck cn (.slice ca cl cc)) := by
                  show _ ∧ _
                  rw [← e5.out]
                  obtain ⟨k1, k2, k3⟩ := hS4H.out
                  have j1 : Bo (st3 w4 g bk bn (.slice ba bl bc)) (g + 1) bk bn (.slice ba bl bc) := ⟨(st3_blk _ _ _ _ _ (by omega)).trans k2.b⟩
                  refine ⟨⟨(st3_blk _ _ _ _ _ (by omega)).trans (st3_bo k1 _ _ _).b⟩, st3_bo j1 _ _ _, ⟨(st3_blk _ _ _ _ _ (by omega)).trans ((st3_blk _ _ _ _ _ (by omega)).trans k3.b)⟩⟩
                have hB5 : Hid (Below w.heap.size w w5) := by
                  show Below _ _ _
                  rw [← e5.out]
                  exact below_st3 (below_st3 (btr hB3.out h34.out) (by have := hg.out; omega) _ _ _) (by have := hg.out; omega) _ _ _
                have hE5 : Hid (E14 w5 aR aN aL aO) := hE0.out.below hB5.out
                have oP5 : Hid (Od w5 tb _) := Od.below hB5.out _ _ oB0.out
                have oQ5 : Hid (Od w5 ta _) := Od.below hB5.out _ _ oA0.out
                have oC5 : Hid (Od w5 tc _) := Od.below hB5.out _ _ oC0.out
                have ptP := ptB
                have ptQ := ptA
                clear hS4H e5 h34 gro1 gro2 hSW hS3 hE3 oA3 oB3 oC3 hv0 hv1 hv2 hB3
                refine grow_b (A := g) (B := g + 1) (C := g + 2)
                  (Z1 := fun u1 d1 W => Below w5.heap.size w5 W ∧ Od W ⟨3, 0, [tb, tc]⟩ (.agg #[.int .i64 3, .int .i64 0, .slice u1 2 d1]))
                  (Z2 := fun u1 d1 u2 d2 W => Below w5.heap.size w5 W ∧ Od W ⟨3, 0, [tb, tc]⟩ (.agg #[.int .i64 3, .int .i64 0, .slice u1 2 d1]) ∧ Od W ⟨3, 0, [ta, tc]⟩ (.agg #[.int .i64 3, .int .i64 0, .slice u2 2 d2]))
                  (Z3 := fun u1 d1 u2 d2 u3 d3 W => Below w5.heap.size w5 W ∧ Od W ⟨3, 0, [tb, tc]⟩ (.agg #[.int .i64 3, .int .i64 0, .slice u1 2 d1]) ∧ Od W ⟨3, 0, [ta, tc]⟩ (.agg #[.int .i64 3, .int .i64 0, .slice u2 2 d2]) ∧ Od W ⟨3, 0, [tc, tb]⟩ (.agg #[.int .i64 3, .int .i64 0, .slice u3 2 d3]))
                  (Z4 := fun u1 d1 u2 d2 u3 d3 u4 d4 W => Below w5.heap.size w5 W ∧ Od W ⟨3, 0, [tb, tc]⟩ (.agg #[.int .i64 3, .int .i64 0, .slice u1 2 d1]) ∧ Od W ⟨3, 0, [ta, tc]⟩ (.agg #[.int .i64 3, .int .i64 0, .slice u2 2 d2]) ∧ Od W ⟨3, 0, [tc, tb]⟩ (.agg #[.int .i64 3, .int .i64 0, .slice u3 2 d3]) ∧ Od W ⟨3, 0, [tc, ta]⟩ (.agg #[.int .i64 3, .int .i64 0, .slice u4 2 d4]))
                  (Z5 := fun u1 d1 u2 d2 u3 d3 u4 d4 u5 d5 W => Below w5.heap.size w5 W ∧ Od W ⟨3, 0, [tb, tc]⟩ (.agg #[.int .i64 3, .int .i64 0, .slice u1 2 d1]) ∧ Od W ⟨3, 0, [ta, tc]⟩ (.agg #[.int .i64 3, .int .i64 0, .slice u2 2 d2]) ∧ Od W ⟨3, 0, [tc, tb]⟩ (.agg #[.int .i64 3, .int .i64 0, .slice u3 2 d3]) ∧ Od W ⟨3, 0, [tc, ta]⟩ (.agg #[.int .i64 3, .int .i64 0, .slice u4 2 d4]) ∧ Od W ⟨4, n, [tb]⟩ (.agg #[.int .i64 4, .int .i64 n, .slice u5 1 d5]))
                  (Z6 := fun u1 d1 u2 d2 u3 d3 u4 d4 u5 d5 u6 d6 W => Below w5.heap.size w5 W ∧ Od W ⟨3, 0, [tb, tc]⟩ (.agg #[.int .i64 3, .int .i64 0, .slice u1 2 d1]) ∧ Od W ⟨3, 0, [ta, tc]⟩ (.agg #[.int .i64 3, .int .i64 0, .slice u2 2 d2]) ∧ Od W ⟨3, 0, [tc, tb]⟩ (.agg #[.int .i64 3, .int .i64 0, .slice u3 2 d3]) ∧ Od W ⟨3, 0, [tc, ta]⟩ (.agg #[.int .i64 3, .int .i64 0, .slice u4 2 d4]) ∧ Od W ⟨4, n, [tb]⟩ (.agg #[.int .i64 4, .int .i64 n, .slice u5 1 d5]) ∧ Od W ⟨4, n, [ta]⟩ (.agg #[.int .i64 4, .int .i64 n, .slice u6 1 d6]))
                  (V1 := fun H u1 d1 u2 d2 u3 d3 u4 d4 u5 d5 u6 d6 W => Below w5.heap.size w5 W ∧ Od W ⟨3, 0, [tb, tc]⟩ (.agg #[.int .i64 3, .int .i64 0, .slice u1 2 d1]) ∧ Od W ⟨3, 0, [ta, tc]⟩ (.agg #[.int .i64 3, .int .i64 0, .slice u2 2 d2]) ∧ Od W ⟨3, 0, [tc, tb]⟩ (.agg #[.int .i64 3, .int .i64 0, .slice u3 2 d3]) ∧ Od W ⟨3, 0, [tc, ta]⟩ (.agg #[.int .i64 3, .int .i64 0, .slice u4 2 d4]) ∧ Od W ⟨4, n, [tb]⟩ (.agg #[.int .i64 4, .int .i64 n, .slice u5 1 d5]) ∧ Od W ⟨4, n, [ta]⟩ (.agg #[.int .i64 4, .int .i64 n, .slice u6 1 d6]) ∧ W.heap[H]? = some (.cells #[.int .i64 3, .int .i64 0, .slice u1 2 d1, .int .i64 3, .int .i64 0, .slice u2 2 d2, .int .i64 3, .int .i64 0, .slice u3 2 d3, .int .i64 3, .int .i64 0, .slice u4 2 d4, .int .i64 4, .int .i64 n, .slice u5 1 d5, .int .i64 4, .int .i64 n, .slice u6 1 d6] 66 (0, 0)))
                  ⟨⟨hS5.out.1.b⟩, ⟨hS5.out.2.1.b⟩, ⟨hS5.out.2.2.b⟩⟩ ?hc1 ?hc2 ?hc3 ?hc4 ?hc5 ?hc6 ?hz ?hQ
                case hc1 =>
                  have h1 : Below w5.heap.size w5 w5.drew := (Below.refl _ _).drew
                  refine (times_c tb tc _ _ w5.drew (Od.below h1 _ _ oP5.out) (Od.below h1 _ _ oC5.out) ptP.out ptC.out).mono ?_
                  rintro e W2 ⟨u, rfl, os, B2⟩
                  obtain ⟨a2, c2, rfl⟩ := Os.shape os
                  have hh := btr h1 B2
                  exact ⟨a2, c2, rfl, ⟨hS5.out.1.bel hh, hS5.out.2.1.bel hh, hS5.out.2.2.bel hh⟩, hh, Os.od _ _ os⟩
                case hc2 =>
                  rintro u1 d1 W ⟨h1, o1⟩
                  refine (times_c ta tc _ _ W (Od.below h1 _ _ oQ5.out) (Od.below h1 _ _ oC5.out) ptQ.out ptC.out).mono ?_
                  rintro e W2 ⟨u, rfl, os, B2⟩
                  obtain ⟨a2, c2, rfl⟩ := Os.shape os
                  have hh := btr h1 B2
                  exact ⟨a2, c2, rfl, ⟨hS5.out.1.bel hh, hS5.out.2.1.bel hh, hS5.out.2.2.bel hh⟩, hh, Od.below B2 _ _ o1, Os.od _ _ os⟩
                case hc3 =>
                  rintro u1 d1 u2 d2 W ⟨h1, o1, o2⟩
                  refine (times_c tc tb _ _ W (Od.below h1 _ _ oC5.out) (Od.below h1 _ _ oP5.out) ptC.out ptP.out).mono ?_
                  rintro e W2 ⟨u, rfl, os, B2⟩
                  obtain ⟨a2, c2, rfl⟩ := Os.shape os
                  have hh := btr h1 B2
                  exact ⟨a2, c2, rfl, ⟨hS5.out.1.bel hh, hS5.out.2.1.bel hh, hS5.out.2.2.bel hh⟩, hh, Od.below B2 _ _ o1, Od.below B2 _ _ o2, Os.od _ _ os⟩
                case hc4 =>
                  rintro u1 d1 u2 d2 u3 d3 W ⟨h1, o1, o2, o3⟩
                  refine (times_c tc ta _ _ W (Od.below h1 _ _ oC5.out) (Od.below h1 _ _ oQ5.out) ptC.out ptQ.out).mono ?_
                  rintro e W2 ⟨u, rfl, os, B2⟩
                  obtain ⟨a2, c2, rfl⟩ := Os.shape os
                  have hh := btr h1 B2
                  exact ⟨a2, c2, rfl, ⟨hS5.out.1.bel hh, hS5.out.2.1.bel hh, hS5.out.2.2.bel hh⟩, hh, Od.below B2 _ _ o1, Od.below B2 _ _ o2, Od.below B2 _ _ o3, Os.od _ _ os⟩
                case hc5 =>
                  rintro u1 d1 u2 d2 u3 d3 u4 d4 W ⟨h1, o1, o2, o3, o4⟩
                  refine (blue_m tb _ n W (Od.below h1 _ _ oP5.out) ptP.out ⟨⟨by decide, by decide⟩, hn.out⟩).mono ?_
                  rintro e W2 ⟨u, rfl, os, B2⟩
                  obtain ⟨a2, c2, rfl⟩ := Os.shape os
                  have hh := btr h1 B2
                  exact ⟨a2, c2, rfl, ⟨hS5.out.1.bel hh, hS5.out.2.1.bel hh, hS5.out.2.2.bel hh⟩, hh, Od.below B2 _ _ o1, Od.below B2 _ _ o2, Od.below B2 _ _ o3, Od.below B2 _ _ o4, Os.od _ _ os⟩
                case hc6 =>
                  rintro u1 d1 u2 d2 u3 d3 u4 d4 u5 d5 W ⟨h1, o1, o2, o3, o4, o5⟩
                  refine (blue_m ta _ n W (Od.below h1 _ _ oQ5.out) ptQ.out ⟨⟨by decide, by decide⟩, hn.out⟩).mono ?_
                  rintro e W2 ⟨u, rfl, os, B2⟩
                  obtain ⟨a2, c2, rfl⟩ := Os.shape os
                  have hh := btr h1 B2
                  exact ⟨a2, c2, rfl, ⟨hS5.out.1.bel hh, hS5.out.2.1.bel hh, hS5.out.2.2.bel hh⟩, hh, Od.below B2 _ _ o1, Od.below B2 _ _ o2, Od.below B2 _ _ o3, Od.below B2 _ _ o4, Od.below B2 _ _ o5, Os.od _ _ os⟩
                case hz =>
                  rintro u1 d1 u2 d2 u3 d3 u4 d4 u5 d5 u6 d6 W ⟨h1, o1, o2, o3, o4, o5, o6⟩
                  have bal := (Below.refl W.heap.size W).alloc (Nat.le_refl _) (.cells #[.int .i64 3, .int .i64 0, .slice u1 2 d1, .int .i64 3, .int .i64 0, .slice u2 2 d2, .int .i64 3, .int .i64 0, .slice u3 2 d3, .int .i64 3, .int .i64 0, .slice u4 2 d4, .int .i64 4, .int .i64 n, .slice u5 1 d5, .int .i64 4, .int .i64 n, .slice u6 1 d6] 66)
                  exact ⟨btr h1 bal, Od.below bal _ _ o1, Od.below bal _ _ o2, Od.below bal _ _ o3, Od.below bal _ _ o4, Od.below bal _ _ o5, Od.below bal _ _ o6, heap_alloc_new W _⟩
                case hQ =>
                  rintro H u1 d1 u2 d2 u3 d3 u4 d4 u5 d5 u6 d6 W7 ⟨h7, o1, o2, o3, o4, o5, o6, row7⟩
                  have B7 : Hid (Below w.heap.size w W7) := btr hB5.out h7
                  have E7 : Hid (E14 W7 aR aN aL aO) := hE5.out.below h7
                  have r7 : Hid (W7.heap[H]? = some (.cells #[.int .i64 3, .int .i64 0, .slice u1 2 d1, .int .i64 3, .int .i64 0, .slice u2 2 d2, .int .i64 3, .int .i64 0, .slice u3 2 d3, .int .i64 3, .int .i64 0, .slice u4 2 d4, .int .i64 4, .int .i64 n, .slice u5 1 d5, .int .i64 4, .int .i64 n, .slice u6 1 d6] 66 (0, 0))) := row7
                  have p1 : Hid (Od W7 ⟨3, 0, [tb, tc]⟩ (.agg #[.int .i64 3, .int .i64 0, .slice u1 2 d1])) := o1
                  have p2 : Hid (Od W7 ⟨3, 0, [ta, tc]⟩ (.agg #[.int .i64 3, .int .i64 0, .slice u2 2 d2])) := o2
                  have p3 : Hid (Od W7 ⟨3, 0, [tc, tb]⟩ (.agg #[.int .i64 3, .int .i64 0, .slice u3 2 d3])) := o3
                  have p4 : Hid (Od W7 ⟨3, 0, [tc, ta]⟩ (.agg #[.int .i64 3, .int .i64 0, .slice u4 2 d4])) := o4
                  have p5 : Hid (Od W7 ⟨4, n, [tb]⟩ (.agg #[.int .i64 4, .int .i64 n, .slice u5 1 d5])) := o5
                  have p6 : Hid (Od W7 ⟨4, n, [ta]⟩ (.agg #[.int .i64 4, .int .i64 n, .slice u6 1 d6])) := o6
                  clear h7 row7 o1 o2 o3 o4 o5 o6
                  gi_wp2_with fail
                  gi_loopw [92] (fun si wr => ∃ i : Nat, i ≤ 3 ∧ si = .int .i64 (i : Int) ∧ Hid (Below W7.heap.size W7 wr)) (fun si _ => 3 - (RowKit.intOf si).toNat)
                  case atStart => exact ⟨0, by decide, rfl, Below.refl _ _⟩
                  case round =>
                    obtain ⟨i, hi, rfl, hb⟩ := hrel
                    have row : wr.heap[H]? = some (.cells #[.int .i64 3, .int .i64 0, .slice u1 2 d1, .int .i64 3, .int .i64 0, .slice u2 2 d2, .int .i64 3, .int .i64 0, .slice u3 2 d3, .int .i64 3, .int .i64 0, .slice u4 2 d4, .int .i64 4, .int .i64 n, .slice u5 1 d5, .int .i64 4, .int .i64 n, .slice u6 1 d6] 66 (0, 0)) := (hb.out.block H (blk_lt r7.out)).trans r7.out
                    have cc := Joins.cell_of_block row
                    have hi3 : i = 0 ∨ i = 1 ∨ i = 2 ∨ i = 3 := by omega
                    clear row hi
                    rcases hi3 with rfl | rfl | rfl | rfl
                    · have x0 := cc 0
                      have x1 := cc 1
                      have x2 := cc 2
                      have x3 := cc 3
                      have x4 := cc 4
                      have x5 := cc 5
                      clear cc
                      have bx : Below wr.heap.size wr (wr.alloc (.cells #[.int .i64 3, .int .i64 0, .slice u1 2 d1, .int .i64 3, .int .i64 0, .slice u2 2 d2] 66)) := (Below.refl _ _).alloc (Nat.le_refl _) _
                      have yb := heap_alloc_new wr (.cells #[.int .i64 3, .int .i64 0, .slice u1 2 d1, .int .i64 3, .int .i64 0, .slice u2 2 d2] 66)
                      have y := Joins.cell_of_block yb
                      have y0 := y 0
                      have y1 := y 1
                      have y2 := y 2
                      have y3 := y 3
                      have y4 := y 4
                      have y5 := y 5
                      have bxH : Hid (Below W7.heap.size W7 (wr.alloc (.cells #[.int .i64 3, .int .i64 0, .slice u1 2 d1, .int .i64 3, .int .i64 0, .slice u2 2 d2] 66))) := btr hb.out bx
                      have ybH : Hid ((wr.alloc (.cells #[.int .i64 3, .int .i64 0, .slice u1 2 d1, .int .i64 3, .int .i64 0, .slice u2 2 d2] 66)).heap[wr.heap.size]? = some (.cells #[.int .i64 3, .int .i64 0, .slice u1 2 d1, .int .i64 3, .int .i64 0, .slice u2 2 d2] 66 (0, 0))) := yb
                      clear y bx yb
                      obtain ⟨CP, hCP⟩ : ∃ z, Hid (coV ⟨3, 0, [tb, tc]⟩ = z) := ⟨_, (rfl : _ = _)⟩
                      obtain ⟨XP, hXP⟩ : ∃ z, Hid (coE aL aO ⟨3, 0, [tb, tc]⟩ = z) := ⟨_, (rfl : _ = _)⟩
                      obtain ⟨CQ, hCQ⟩ : ∃ z, Hid (coV ⟨3, 0, [ta, tc]⟩ = z) := ⟨_, (rfl : _ = _)⟩
                      obtain ⟨XQ, hXQ⟩ : ∃ z, Hid (coE aL aO ⟨3, 0, [ta, tc]⟩ = z) := ⟨_, (rfl : _ = _)⟩
                      have e14x := E7.out.below bxH.out
                      have hp := pcost_c ⟨3, 0, [tb, tc]⟩ _ (wr.alloc (.cells #[.int .i64 3, .int .i64 0, .slice u1 2 d1, .int .i64 3, .int .i64 0, .slice u2 2 d2] 66)) aL aO (Od.below bxH.out _ _ p1.out) e14x.cL e14x.cO
                      rw [hCP.out, hXP.out] at hp
                      clear e14x
                      gi_wp2_with fail
                      refine ⟨trivial, (callsIn_wide.2 hp).mono ?_⟩
                      rintro e wy ⟨rfl, By⟩
                      obtain ⟨D, hD⟩ : ∃ z, Hid (wr.heap.size = z) := ⟨_, (rfl : _ = _)⟩
                      rw [hD.out] at ybH ⊢
                      have hby : Hid (Below W7.heap.size W7 wy) := btr bxH.out By
                      have rowy := Joins.cell_of_block ((By.block D (blk_lt ybH.out)).trans ybH.out)
                      clear x0 x1 x2 x3 x4 x5 y0 y1 y2 y3 y4 y5 hp By ybH bxH hD
                      have y3 := rowy 3
                      have y4 := rowy 4
                      have y5 := rowy 5
                      clear rowy
                      have e14y := E7.out.below hby.out
                      have hq := pcost_c ⟨3, 0, [ta, tc]⟩ _ wy aL aO (Od.below hby.out _ _ p2.out) e14y.cL e14y.cO
                      rw [hCQ.out, hXQ.out] at hq
                      clear e14y
                      gi_wp2_with fail
                      refine ⟨trivial, (callsIn_wide.2 hq).mono ?_⟩
                      rintro e wz ⟨rfl, Bz⟩
                      have hbz : Hid (Below W7.heap.size W7 wz) := btr hby.out Bz
                      clear y3 y4 y5 hq Bz hby hb
                      have gr : Hid (Gro ⟨3, 0, [tb, tc]⟩ ⟨3, 0, [ta, tc]⟩) := hGrH.out.1
                      rcases coE_cases aL aO ⟨3, 0, [tb, tc]⟩ with ⟨nP, okP⟩ | ⟨⟨q1, nP⟩, -⟩
                      · rw [hXP.out] at nP
                        subst nP
                        rcases coE_cases aL aO ⟨3, 0, [ta, tc]⟩ with ⟨nQ, okQ⟩ | ⟨⟨q2, nQ⟩, -⟩
                        · rw [hXQ.out] at nQ
                          subst nQ
                          have hle : ¬ (CQ : Int) < (CP : Int) := by have h9 := gr.out okP okQ; rw [hCP.out, hCQ.out] at h9; omega
                          gi_wp2
                          go_roundw
                          case rel => exact ⟨_, _, _, _, _, _, _, _, _, _, _, _, _, _, _, _, _, _, _, _, _, _, _, _, _, _, _, _, _, _, _, _, _, _, ⟨1, by decide, rfl, hbz⟩, rfl⟩
                          case measure => first | (simp [RowKit.intOf]; done) | (simp [RowKit.intOf]; omega) | decide
                        · rw [hXQ.out] at nQ
                          subst nQ
                          gi_wp2
                          go_roundw
                          case rel => exact ⟨_, _, _, _, _, _, _, _, _, _, _, _, _, _, _, _, _, _, _, _, _, _, _, _, _, _, _, _, _, _, _, _, _, _, ⟨1, by decide, rfl, hbz⟩, rfl⟩
                          case measure => first | (simp [RowKit.intOf]; done) | (simp [RowKit.intOf]; omega) | decide
                      · rw [hXP.out] at nP
                        subst nP
                        gi_wp2
                        go_roundw
                        case rel => exact ⟨_, _, _, _, _, _, _, _, _, _, _, _, _, _, _, _, _, _, _, _, _, _, _, _, _, _, _, _, _, _, _, _, _, _, ⟨1, by decide, rfl, hbz⟩, rfl⟩
                        case measure => first | (simp [RowKit.intOf]; done) | (simp [RowKit.intOf]; omega) | decide
                    · have x0 := cc 6
                      have x1 := cc 7
                      have x2 := cc 8
                      have x3 := cc 9
                      have x4 := cc 10
                      have x5 := cc 11
                      clear cc
                      have bx : Below wr.heap.size wr (wr.alloc (.cells #[.int .i64 3, .int .i64 0, .slice u3 2 d3, .int .i64 3, .int .i64 0, .slice u4 2 d4] 66)) := (Below.refl _ _).alloc (Nat.le_refl _) _
                      have yb := heap_alloc_new wr (.cells #[.int .i64 3, .int .i64 0, .slice u3 2 d3, .int .i64 3, .int .i64 0, .slice u4 2 d4] 66)
                      have y := Joins.cell_of_block yb
                      have y0 := y 0
                      have y1 := y 1
                      have y2 := y 2
                      have y3 := y 3
                      have y4 := y 4
                      have y5 := y 5
                      have bxH : Hid (Below W7.heap.size W7 (wr.alloc (.cells #[.int .i64 3, .int .i64 0, .slice u3 2 d3, .int .i64 3, .int .i64 0, .slice u4 2 d4] 66))) := btr hb.out bx
                      have ybH : Hid ((wr.alloc (.cells #[.int .i64 3, .int .i64 0, .slice u3 2 d3, .int .i64 3, .int .i64 0, .slice u4 2 d4] 66)).heap[wr.heap.size]? = some (.cells #[.int .i64 3, .int .i64 0, .slice u3 2 d3, .int .i64 3, .int .i64 0, .slice u4 2 d4] 66 (0, 0))) := yb
                      clear y bx yb
                      obtain ⟨CP, hCP⟩ : ∃ z, Hid (coV ⟨3, 0, [tc, tb]⟩ = z) := ⟨_, (rfl : _ = _)⟩
                      obtain ⟨XP, hXP⟩ : ∃ z, Hid (coE aL aO ⟨3, 0, [tc, tb]⟩ = z) := ⟨_, (rfl : _ = _)⟩
                      obtain ⟨CQ, hCQ⟩ : ∃ z, Hid (coV ⟨3, 0, [tc, ta]⟩ = z) := ⟨_, (rfl : _ = _)⟩
                      obtain ⟨XQ, hXQ⟩ : ∃ z, Hid (coE aL aO ⟨3, 0, [tc, ta]⟩ = z) := ⟨_, (rfl : _ = _)⟩
                      have e14x := E7.out.below bxH.out
                      have hp := pcost_c ⟨3, 0, [tc, tb]⟩ _ (wr.alloc (.cells #[.int .i64 3, .int .i64 0, .slice u3 2 d3, .int .i64 3, .int .i64 0, .slice u4 2 d4] 66)) aL aO (Od.below bxH.out _ _ p3.out) e14x.cL e14x.cO
                      rw [hCP.out, hXP.out] at hp
                      clear e14x
                      gi_wp2_with fail
                      refine ⟨trivial, (callsIn_wide.2 hp).mono ?_⟩
                      rintro e wy ⟨rfl, By⟩
                      obtain ⟨D, hD⟩ : ∃ z, Hid (wr.heap.size = z) := ⟨_, (rfl : _ = _)⟩
                      rw [hD.out] at ybH ⊢
                      have hby : Hid (Below W7.heap.size W7 wy) := btr bxH.out By
                      have rowy := Joins.cell_of_block ((By.block D (blk_lt ybH.out)).trans ybH.out)
                      clear x0 x1 x2 x3 x4 x5 y0 y1 y2 y3 y4 y5 hp By ybH bxH hD
                      have y3 := rowy 3
                      have y4 := rowy 4
                      have y5 := rowy 5
                      clear rowy
                      have e14y := E7.out.below hby.out
                      have hq := pcost_c ⟨3, 0, [tc, ta]⟩ _ wy aL aO (Od.below hby.out _ _ p4.out) e14y.cL e14y.cO
                      rw [hCQ.out, hXQ.out] at hq
                      clear e14y
                      gi_wp2_with fail
                      refine ⟨trivial, (callsIn_wide.2 hq).mono ?_⟩
                      rintro e wz ⟨rfl, Bz⟩
                      have hbz : Hid (Below W7.heap.size W7 wz) := btr hby.out Bz
                      clear y3 y4 y5 hq Bz hby hb
                      have gr : Hid (Gro ⟨3, 0, [tc, tb]⟩ ⟨3, 0, [tc, ta]⟩) := hGrH.out.2.1
                      rcases coE_cases aL aO ⟨3, 0, [tc, tb]⟩ with ⟨nP, okP⟩ | ⟨⟨q1, nP⟩, -⟩
                      · rw [hXP.out] at nP
                        subst nP
                        rcases coE_cases aL aO ⟨3, 0, [tc, ta]⟩ with ⟨nQ, okQ⟩ | ⟨⟨q2, nQ⟩, -⟩
                        · rw [hXQ.out] at nQ
                          subst nQ
                          have hle : ¬ (CQ : Int) < (CP : Int) := by have h9 := gr.out okP okQ; rw [hCP.out, hCQ.out] at h9; omega
                          gi_wp2
                          go_roundw
                          case rel => exact ⟨_, _, _, _, _, _, _, _, _, _, _, _, _, _, _, _, _, _, _, _, _, _, _, _, _, _, _, _, _, _, _, _, _, _, ⟨2, by decide, rfl, hbz⟩, rfl⟩
                          case measure => first | (simp [RowKit.intOf]; done) | (simp [RowKit.intOf]; omega) | decide
                        · rw [hXQ.out] at nQ
                          subst nQ
                          gi_wp2
                          go_roundw
                          case rel => exact ⟨_, _, _, _, _, _, _, _, _, _, _, _, _, _, _, _, _, _, _, _, _, _, _, _, _, _, _, _, _, _, _, _, _, _, ⟨2, by decide, rfl, hbz⟩, rfl⟩
                          case measure => first | (simp [RowKit.intOf]; done) | (simp [RowKit.intOf]; omega) | decide
                      · rw [hXP.out] at nP
                        subst nP
                        gi_wp2
                        go_roundw
                        case rel => exact ⟨_, _, _, _, _, _, _, _, _, _, _, _, _, _, _, _, _, _, _, _, _, _, _, _, _, _, _, _, _, _, _, _, _, _, ⟨2, by decide, rfl, hbz⟩, rfl⟩
                        case measure => first | (simp [RowKit.intOf]; done) | (simp [RowKit.intOf]; omega) | decide
                    · have x0 := cc 12
                      have x1 := cc 13
                      have x2 := cc 14
                      have x3 := cc 15
                      have x4 := cc 16
                      have x5 := cc 17
                      clear cc
                      have bx : Below wr.heap.size wr (wr.alloc (.cells #[.int .i64 4, .int .i64 n, .slice u5 1 d5, .int .i64 4, .int .i64 n, .slice u6 1 d6] 66)) := (Below.refl _ _).alloc (Nat.le_refl _) _
                      have yb := heap_alloc_new wr (.cells #[.int .i64 4, .int .i64 n, .slice u5 1 d5, .int .i64 4, .int .i64 n, .slice u6 1 d6] 66)
                      have y := Joins.cell_of_block yb
                      have y0 := y 0
                      have y1 := y 1
                      have y2 := y 2
                      have y3 := y 3
                      have y4 := y 4
                      have y5 := y 5
                      have bxH : Hid (Below W7.heap.size W7 (wr.alloc (.cells #[.int .i64 4, .int .i64 n, .slice u5 1 d5, .int .i64 4, .int .i64 n, .slice u6 1 d6] 66))) := btr hb.out bx
                      have ybH : Hid ((wr.alloc (.cells #[.int .i64 4, .int .i64 n, .slice u5 1 d5, .int .i64 4, .int .i64 n, .slice u6 1 d6] 66)).heap[wr.heap.size]? = some (.cells #[.int .i64 4, .int .i64 n, .slice u5 1 d5, .int .i64 4, .int .i64 n, .slice u6 1 d6] 66 (0, 0))) := yb
                      clear y bx yb
                      obtain ⟨CP, hCP⟩ : ∃ z, Hid (coV ⟨4, n, [tb]⟩ = z) := ⟨_, (rfl : _ = _)⟩
                      obtain ⟨XP, hXP⟩ : ∃ z, Hid (coE aL aO ⟨4, n, [tb]⟩ = z) := ⟨_, (rfl : _ = _)⟩
                      obtain ⟨CQ, hCQ⟩ : ∃ z, Hid (coV ⟨4, n, [ta]⟩ = z) := ⟨_, (rfl : _ = _)⟩
                      obtain ⟨XQ, hXQ⟩ : ∃ z, Hid (coE aL aO ⟨4, n, [ta]⟩ = z) := ⟨_, (rfl : _ = _)⟩
                      have e14x := E7.out.below bxH.out
                      have hp := pcost_c ⟨4, n, [tb]⟩ _ (wr.alloc (.cells #[.int .i64 4, .int .i64 n, .slice u5 1 d5, .int .i64 4, .int .i64 n, .slice u6 1 d6] 66)) aL aO (Od.below bxH.out _ _ p5.out) e14x.cL e14x.cO
                      rw [hCP.out, hXP.out] at hp
                      clear e14x
                      gi_wp2_with fail
                      refine ⟨trivial, (callsIn_wide.2 hp).mono ?_⟩
                      rintro e wy ⟨rfl, By⟩
                      obtain ⟨D, hD⟩ : ∃ z, Hid (wr.heap.size = z) := ⟨_, (rfl : _ = _)⟩
                      rw [hD.out] at ybH ⊢
                      have hby : Hid (Below W7.heap.size W7 wy) := btr bxH.out By
                      have rowy := Joins.cell_of_block ((By.block D (blk_lt ybH.out)).trans ybH.out)
                      clear x0 x1 x2 x3 x4 x5 y0 y1 y2 y3 y4 y5 hp By ybH bxH hD
                      have y3 := rowy 3
                      have y4 := rowy 4
                      have y5 := rowy 5
                      clear rowy
                      have e14y := E7.out.below hby.out
                      have hq := pcost_c ⟨4, n, [ta]⟩ _ wy aL aO (Od.below hby.out _ _ p6.out) e14y.cL e14y.cO
                      rw [hCQ.out, hXQ.out] at hq
                      clear e14y
                      gi_wp2_with fail
                      refine ⟨trivial, (callsIn_wide.2 hq).mono ?_⟩
                      rintro e wz ⟨rfl, Bz⟩
                      have hbz : Hid (Below W7.heap.size W7 wz) := btr hby.out Bz
                      clear y3 y4 y5 hq Bz hby hb
                      have gr : Hid (Gro ⟨4, n, [tb]⟩ ⟨4, n, [ta]⟩) := hGrH.out.2.2
                      rcases coE_cases aL aO ⟨4, n, [tb]⟩ with ⟨nP, okP⟩ | ⟨⟨q1, nP⟩, -⟩
                      · rw [hXP.out] at nP
                        subst nP
                        rcases coE_cases aL aO ⟨4, n, [ta]⟩ with ⟨nQ, okQ⟩ | ⟨⟨q2, nQ⟩, -⟩
                        · rw [hXQ.out] at nQ
                          subst nQ
                          have hle : ¬ (CQ : Int) < (CP : Int) := by have h9 := gr.out okP okQ; rw [hCP.out, hCQ.out] at h9; omega
                          gi_wp2
                          go_roundw
                          case rel => exact ⟨_, _, _, _, _, _, _, _, _, _, _, _, _, _, _, _, _, _, _, _, _, _, _, _, _, _, _, _, _, _, _, _, _, _, ⟨3, by decide, rfl, hbz⟩, rfl⟩
                          case measure => first | (simp [RowKit.intOf]; done) | (simp [RowKit.intOf]; omega) | decide
                        · rw [hXQ.out] at nQ
                          subst nQ
                          gi_wp2
                          go_roundw
                          case rel => exact ⟨_, _, _, _, _, _, _, _, _, _, _, _, _, _, _, _, _, _, _, _, _, _, _, _, _, _, _, _, _, _, _, _, _, _, ⟨3, by decide, rfl, hbz⟩, rfl⟩
                          case measure => first | (simp [RowKit.intOf]; done) | (simp [RowKit.intOf]; omega) | decide
                      · rw [hXP.out] at nP
                        subst nP
                        gi_wp2
                        go_roundw
                        case rel => exact ⟨_, _, _, _, _, _, _, _, _, _, _, _, _, _, _, _, _, _, _, _, _, _, _, _, _, _, _, _, _, _, _, _, _, _, ⟨3, by decide, rfl, hbz⟩, rfl⟩
                        case measure => first | (simp [RowKit.intOf]; done) | (simp [RowKit.intOf]; omega) | decide
                    · gi_wp2
                      refine ⟨.bool true, ?_, rfl, btr B7.out hb.out⟩
                      simp [results, Tryd.f7, go_sem]
              · have hgt2 : ¬ (CB : Int) < (CA : Int) := by omega
                have hGr := gro1.out (by omega)
                have hGrH : Hid _ := hGr
                clear hGr hgt
                gi_wp2_with fail
                have hS5 : Hid (Bo w4 g ak an (.slice aa al ac) ∧ Bo w4 (g + 1) bk bn (.slice ba bl bc) ∧ Bo w4 (g + 2) ck cn (.slice ca cl cc)) := hSW.out _ h34.out
                have hB5 : Hid (Below w.heap.size w w4) := btr hB3.out h34.out
                have hE5 : Hid (E14 w4 aR aN aL aO) := hE0.out.below hB5.out
                have oP5 : Hid (Od w4 ta _) := Od.below hB5.out _ _ oA0.out
                have oQ5 : Hid (Od w4 tb _) := Od.below hB5.out _ _ oB0.out
                have oC5 : Hid (Od w4 tc _) := Od.below hB5.out _ _ oC0.out
                have ptP := ptA
                have ptQ := ptB
                clear h34 gro1 gro2 hSW hS3 hE3 oA3 oB3 oC3 hv0 hv1 hv2 hB3
                generalize w4 = w5 at *
                refine grow_b (A := g) (B := g + 1) (C := g + 2)
                  (Z1 := fun u1 d1 W => Below w5.heap.size w5 W ∧ Od W ⟨3, 0, [ta, tc]⟩ (.agg #[.int .i64 3, .int .i64 0, .slice u1 2 d1]))
                  (Z2 := fun u1 d1 u2 d2 W => Below w5.heap.size w5 W ∧ Od W ⟨3, 0, [ta, tc]⟩ (.agg #[.int .i64 3, .int .i64 0, .slice u1 2 d1]) ∧ Od W ⟨3, 0, [tb, tc]⟩ (.agg #[.int .i64 3, .int .i64 0, .slice u2 2 d2]))
                  (Z3 := fun u1 d1 u2 d2 u3 d3 W => Below w5.heap.size w5 W ∧ Od W ⟨3, 0, [ta, tc]⟩ (.agg #[.int .i64 3, .int .i64 0, .slice u1 2 d1]) ∧ Od W ⟨3, 0, [tb, tc]⟩ (.agg #[.int .i64 3, .int .i64 0, .slice u2 2 d2]) ∧ Od W ⟨3, 0, [tc, ta]⟩ (.agg #[.int .i64 3, .int .i64 0, .slice u3 2 d3]))
                  (Z4 := fun u1 d1 u2 d2 u3 d3 u4 d4 W => Below w5.heap.size w5 W ∧ Od W ⟨3, 0, [ta, tc]⟩ (.agg #[.int .i64 3, .int .i64 0, .slice u1 2 d1]) ∧ Od W ⟨3, 0, [tb, tc]⟩ (.agg #[.int .i64 3, .int .i64 0, .slice u2 2 d2]) ∧ Od W ⟨3, 0, [tc, ta]⟩ (.agg #[.int .i64 3, .int .i64 0, .slice u3 2 d3]) ∧ Od W ⟨3, 0, [tc, tb]⟩ (.agg #[.int .i64 3, .int .i64 0, .slice u4 2 d4]))
                  (Z5 := fun u1 d1 u2 d2 u3 d3 u4 d4 u5 d5 W => Below w5.heap.size w5 W ∧ Od W ⟨3, 0, [ta, tc]⟩ (.agg #[.int .i64 3, .int .i64 0, .slice u1 2 d1]) ∧ Od W ⟨3, 0, [tb, tc]⟩ (.agg #[.int .i64 3, .int .i64 0, .slice u2 2 d2]) ∧ Od W ⟨3, 0, [tc, ta]⟩ (.agg #[.int .i64 3, .int .i64 0, .slice u3 2 d3]) ∧ Od W ⟨3, 0, [tc, tb]⟩ (.agg #[.int .i64 3, .int .i64 0, .slice u4 2 d4]) ∧ Od W ⟨4, n, [ta]⟩ (.agg #[.int .i64 4, .int .i64 n, .slice u5 1 d5]))
                  (Z6 := fun u1 d1 u2 d2 u3 d3 u4 d4 u5 d5 u6 d6 W => Below w5.heap.size w5 W ∧ Od W ⟨3, 0, [ta, tc]⟩ (.agg #[.int .i64 3, .int .i64 0, .slice u1 2 d1]) ∧ Od W ⟨3, 0, [tb, tc]⟩ (.agg #[.int .i64 3, .int .i64 0, .slice u2 2 d2]) ∧ Od W ⟨3, 0, [tc, ta]⟩ (.agg #[.int .i64 3, .int .i64 0, .slice u3 2 d3]) ∧ Od W ⟨3, 0, [tc, tb]⟩ (.agg #[.int .i64 3, .int .i64 0, .slice u4 2 d4]) ∧ Od W ⟨4, n, [ta]⟩ (.agg #[.int .i64 4, .int .i64 n, .slice u5 1 d5]) ∧ Od W ⟨4, n, [tb]⟩ (.agg #[.int .i64 4, .int .i64 n, .slice u6 1 d6]))
                  (V1 := fun H u1 d1 u2 d2 u3 d3 u4 d4 u5 d5 u6 d6 W => Below w5.heap.size w5 W ∧ Od W ⟨3, 0, [ta, tc]⟩ (.agg #[.int .i64 3, .int .i64 0, .slice u1 2 d1]) ∧ Od W ⟨3, 0, [tb, tc]⟩ (.agg #[.int .i64 3, .int .i64 0, .slice u2 2 d2]) ∧ Od W ⟨3, 0, [tc, ta]⟩ (.agg #[.int .i64 3, .int .i64 0, .slice u3 2 d3]) ∧ Od W ⟨3, 0, [tc, tb]⟩ (.agg #[.int .i64 3, .int .i64 0, .slice u4 2 d4]) ∧ Od W ⟨4, n, [ta]⟩ (.agg #[.int .i64 4, .int .i64 n, .slice u5 1 d5]) ∧ Od W ⟨4, n, [tb]⟩ (.agg #[.int .i64 4, .int .i64 n, .slice u6 1 d6]) ∧ W.heap[H]? = some (.cells #[.int .i64 3, .int .i64 0, .slice u1 2 d1, .int .i64 3, .int .i64 0, .slice u2 2 d2, .int .i64 3, .int .i64 0, .slice u3 2 d3, .int .i64 3, .int .i64 0, .slice u4 2 d4, .int .i64 4, .int .i64 n, .slice u5 1 d5, .int .i64 4, .int .i64 n, .slice u6 1 d6] 66 (0, 0)))
                  ⟨⟨hS5.out.1.b⟩, ⟨hS5.out.2.1.b⟩, ⟨hS5.out.2.2.b⟩⟩ ?hc1 ?hc2 ?hc3 ?hc4 ?hc5 ?hc6 ?hz ?hQ
                case hc1 =>
                  have h1 : Below w5.heap.size w5 w5.drew := (Below.refl _ _).drew
                  refine (times_c ta tc _ _ w5.drew (Od.below h1 _ _ oP5.out) (Od.below h1 _ _ oC5.out) ptP.out ptC.out).mono ?_
                  rintro e W2 ⟨u, rfl, os, B2⟩
                  obtain ⟨a2, c2, rfl⟩ := Os.shape os
                  have hh := btr h1 B2
                  exact ⟨a2, c2, rfl, ⟨hS5.out.1.bel hh, hS5.out.2.1.bel hh, hS5.out.2.2.bel hh⟩, hh, Os.od _ _ os⟩
                case hc2 =>
                  rintro u1 d1 W ⟨h1, o1⟩
                  refine (times_c tb tc _ _ W (Od.below h1 _ _ oQ5.out) (Od.below h1 _ _ oC5.out) ptQ.out ptC.out).mono ?_
                  rintro e W2 ⟨u, rfl, os, B2⟩
                  obtain ⟨a2, c2, rfl⟩ := Os.shape os
                  have hh := btr h1 B2
                  exact ⟨a2, c2, rfl, ⟨hS5.out.1.bel hh, hS5.out.2.1.bel hh, hS5.out.2.2.bel hh⟩, hh, Od.below B2 _ _ o1, Os.od _ _ os⟩
                case hc3 =>
                  rintro u1 d1 u2 d2 W ⟨h1, o1, o2⟩
                  refine (times_c tc ta _ _ W (Od.below h1 _ _ oC5.out) (Od.below h1 _ _ oP5.out) ptC.out ptP.out).mono ?_
                  rintro e W2 ⟨u, rfl, os, B2⟩
                  obtain ⟨a2, c2, rfl⟩ := Os.shape os
                  have hh := btr h1 B2
                  exact ⟨a2, c2, rfl, ⟨hS5.out.1.bel hh, hS5.out.2.1.bel hh, hS5.out.2.2.bel hh⟩, hh, Od.below B2 _ _ o1, Od.below B2 _ _ o2, Os.od _ _ os⟩
                case hc4 =>
                  rintro u1 d1 u2 d2 u3 d3 W ⟨h1, o1, o2, o3⟩
                  refine (times_c tc tb _ _ W (Od.below h1 _ _ oC5.out) (Od.below h1 _ _ oQ5.out) ptC.out ptQ.out).mono ?_
                  rintro e W2 ⟨u, rfl, os, B2⟩
                  obtain ⟨a2, c2, rfl⟩ := Os.shape os
                  have hh := btr h1 B2
                  exact ⟨a2, c2, rfl, ⟨hS5.out.1.bel hh, hS5.out.2.1.bel hh, hS5.out.2.2.bel hh⟩, hh, Od.below B2 _ _ o1, Od.below B2 _ _ o2, Od.below B2 _ _ o3, Os.od _ _ os⟩
                case hc5 =>
                  rintro u1 d1 u2 d2 u3 d3 u4 d4 W ⟨h1, o1, o2, o3, o4⟩
                  refine (blue_m ta _ n W (Od.below h1 _ _ oP5.out) ptP.out ⟨⟨by decide, by decide⟩, hn.out⟩).mono ?_
                  rintro e W2 ⟨u, rfl, os, B2⟩
                  obtain ⟨a2, c2, rfl⟩ := Os.shape os
                  have hh := btr h1 B2
                  exact ⟨a2, c2, rfl, ⟨hS5.out.1.bel hh, hS5.out.2.1.bel hh, hS5.out.2.2.bel hh⟩, hh, Od.below B2 _ _ o1, Od.below B2 _ _ o2, Od.below B2 _ _ o3, Od.below B2 _ _ o4, Os.od _ _ os⟩
                case hc6 =>
                  rintro u1 d1 u2 d2 u3 d3 u4 d4 u5 d5 W ⟨h1, o1, o2, o3, o4, o5⟩
                  refine (blue_m tb _ n W (Od.below h1 _ _ oQ5.out) ptQ.out ⟨⟨by decide, by decide⟩, hn.out⟩).mono ?_
                  rintro e W2 ⟨u, rfl, os, B2⟩
                  obtain ⟨a2, c2, rfl⟩ := Os.shape os
                  have hh := btr h1 B2
                  exact ⟨a2, c2, rfl, ⟨hS5.out.1.bel hh, hS5.out.2.1.bel hh, hS5.out.2.2.bel hh⟩, hh, Od.below B2 _ _ o1, Od.below B2 _ _ o2, Od.below B2 _ _ o3, Od.below B2 _ _ o4, Od.below B2 _ _ o5, Os.od _ _ os⟩
                case hz =>
                  rintro u1 d1 u2 d2 u3 d3 u4 d4 u5 d5 u6 d6 W ⟨h1, o1, o2, o3, o4, o5, o6⟩
                  have bal := (Below.refl W.heap.size W).alloc (Nat.le_refl _) (.cells #[.int .i64 3, .int .i64 0, .slice u1 2 d1, .int .i64 3, .int .i64 0, .slice u2 2 d2, .int .i64 3, .int .i64 0, .slice u3 2 d3, .int .i64 3, .int .i64 0, .slice u4 2 d4, .int .i64 4, .int .i64 n, .slice u5 1 d5, .int .i64 4, .int .i64 n, .slice u6 1 d6] 66)
                  exact ⟨btr h1 bal, Od.below bal _ _ o1, Od.below bal _ _ o2, Od.below bal _ _ o3, Od.below bal _ _ o4, Od.below bal _ _ o5, Od.below bal _ _ o6, heap_alloc_new W _⟩
                case hQ =>
                  rintro H u1 d1 u2 d2 u3 d3 u4 d4 u5 d5 u6 d6 W7 ⟨h7, o1, o2, o3, o4, o5, o6, row7⟩
                  have B7 : Hid (Below w.heap.size w W7) := btr hB5.out h7
                  have E7 : Hid (E14 W7 aR aN aL aO) := hE5.out.below h7
                  have r7 : Hid (W7.heap[H]? = some (.cells #[.int .i64 3, .int .i64 0, .slice u1 2 d1, .int .i64 3, .int .i64 0, .slice u2 2 d2, .int .i64 3, .int .i64 0, .slice u3 2 d3, .int .i64 3, .int .i64 0, .slice u4 2 d4, .int .i64 4, .int .i64 n, .slice u5 1 d5, .int .i64 4, .int .i64 n, .slice u6 1 d6] 66 (0, 0))) := row7
                  have p1 : Hid (Od W7 ⟨3, 0, [ta, tc]⟩ (.agg #[.int .i64 3, .int .i64 0, .slice u1 2 d1])) := o1
                  have p2 : Hid (Od W7 ⟨3, 0, [tb, tc]⟩ (.agg #[.int .i64 3, .int .i64 0, .slice u2 2 d2])) := o2
                  have p3 : Hid (Od W7 ⟨3, 0, [tc, ta]⟩ (.agg #[.int .i64 3, .int .i64 0, .slice u3 2 d3])) := o3
                  have p4 : Hid (Od W7 ⟨3, 0, [tc, tb]⟩ (.agg #[.int .i64 3, .int .i64 0, .slice u4 2 d4])) := o4
                  have p5 : Hid (Od W7 ⟨4, n, [ta]⟩ (.agg #[.int .i64 4, .int .i64 n, .slice u5 1 d5])) := o5
                  have p6 : Hid (Od W7 ⟨4, n, [tb]⟩ (.agg #[.int .i64 4, .int .i64 n, .slice u6 1 d6])) := o6
                  clear h7 row7 o1 o2 o3 o4 o5 o6
                  gi_wp2_with fail
                  gi_loopw [92] (fun si wr => ∃ i : Nat, i ≤ 3 ∧ si = .int .i64 (i : Int) ∧ Hid (Below W7.heap.size W7 wr)) (fun si _ => 3 - (RowKit.intOf si).toNat)
                  case atStart => exact ⟨0, by decide, rfl, Below.refl _ _⟩
                  case round =>
                    obtain ⟨i, hi, rfl, hb⟩ := hrel
                    have row : wr.heap[H]? = some (.cells #[.int .i64 3, .int .i64 0, .slice u1 2 d1, .int .i64 3, .int .i64 0, .slice u2 2 d2, .int .i64 3, .int .i64 0, .slice u3 2 d3, .int .i64 3, .int .i64 0, .slice u4 2 d4, .int .i64 4, .int .i64 n, .slice u5 1 d5, .int .i64 4, .int .i64 n, .slice u6 1 d6] 66 (0, 0)) := (hb.out.block H (blk_lt r7.out)).trans r7.out
                    have cc := Joins.cell_of_block row
                    have hi3 : i = 0 ∨ i = 1 ∨ i = 2 ∨ i = 3 := by omega
                    clear row hi
                    rcases hi3 with rfl | rfl | rfl | rfl
                    · have x0 := cc 0
                      have x1 := cc 1
                      have x2 := cc 2
                      have x3 := cc 3
                      have x4 := cc 4
                      have x5 := cc 5
                      clear cc
                      have bx : Below wr.heap.size wr (wr.alloc (.cells #[.int .i64 3, .int .i64 0, .slice u1 2 d1, .int .i64 3, .int .i64 0, .slice u2 2 d2] 66)) := (Below.refl _ _).alloc (Nat.le_refl _) _
                      have yb := heap_alloc_new wr (.cells #[.int .i64 3, .int .i64 0, .slice u1 2 d1, .int .i64 3, .int .i64 0, .slice u2 2 d2] 66)
                      have y := Joins.cell_of_block yb
                      have y0 := y 0
                      have y1 := y 1
                      have y2 := y 2
                      have y3 := y 3
                      have y4 := y 4
                      have y5 := y 5
                      have bxH : Hid (Below W7.heap.size W7 (wr.alloc (.cells #[.int .i64 3, .int .i64 0, .slice u1 2 d1, .int .i64 3, .int .i64 0, .slice u2 2 d2] 66))) := btr hb.out bx
                      have ybH : Hid ((wr.alloc (.cells #[.int .i64 3, .int .i64 0, .slice u1 2 d1, .int .i64 3, .int .i64 0, .slice u2 2 d2] 66)).heap[wr.heap.size]? = some (.cells #[.int .i64 3, .int .i64 0, .slice u1 2 d1, .int .i64 3, .int .i64 0, .slice u2 2 d2] 66 (0, 0))) := yb
                      clear y bx yb
                      obtain ⟨CP, hCP⟩ : ∃ z, Hid (coV ⟨3, 0, [ta, tc]⟩ = z) := ⟨_, (rfl : _ = _)⟩
                      obtain ⟨XP, hXP⟩ : ∃ z, Hid (coE aL aO ⟨3, 0, [ta, tc]⟩ = z) := ⟨_, (rfl : _ = _)⟩
                      obtain ⟨CQ, hCQ⟩ : ∃ z, Hid (coV ⟨3, 0, [tb, tc]⟩ = z) := ⟨_, (rfl : _ = _)⟩
                      obtain ⟨XQ, hXQ⟩ : ∃ z, Hid (coE aL aO ⟨3, 0, [tb, tc]⟩ = z) := ⟨_, (rfl : _ = _)⟩
                      have e14x := E7.out.below bxH.out
                      have hp := pcost_c ⟨3, 0, [ta, tc]⟩ _ (wr.alloc (.cells #[.int .i64 3, .int .i64 0, .slice u1 2 d1, .int .i64 3, .int .i64 0, .slice u2 2 d2] 66)) aL aO (Od.below bxH.out _ _ p1.out) e14x.cL e14x.cO
                      rw [hCP.out, hXP.out] at hp
                      clear e14x
                      gi_wp2_with fail
                      refine ⟨trivial, (callsIn_wide.2 hp).mono ?_⟩
                      rintro e wy ⟨rfl, By⟩
                      obtain ⟨D, hD⟩ : ∃ z, Hid (wr.heap.size = z) := ⟨_, (rfl : _ = _)⟩
                      rw [hD.out] at ybH ⊢
                      have hby : Hid (Below W7.heap.size W7 wy) := btr bxH.out By
                      have rowy := Joins.cell_of_block ((By.block D (blk_lt ybH.out)).trans ybH.out)
                      clear x0 x1 x2 x3 x4 x5 y0 y1 y2 y3 y4 y5 hp By ybH bxH hD
                      have y3 := rowy 3
                      have y4 := rowy 4
                      have y5 := rowy 5
                      clear rowy
                      have e14y := E7.out.below hby.out
                      have hq := pcost_c ⟨3, 0, [tb, tc]⟩ _ wy aL aO (Od.below hby.out _ _ p2.out) e14y.cL e14y.cO
                      rw [hCQ.out, hXQ.out] at hq
                      clear e14y
                      gi_wp2_with fail
                      refine ⟨trivial, (callsIn_wide.2 hq).mono ?_⟩
                      rintro e wz ⟨rfl, Bz⟩
                      have hbz : Hid (Below W7.heap.size W7 wz) := btr hby.out Bz
                      clear y3 y4 y5 hq Bz hby hb
                      have gr : Hid (Gro ⟨3, 0, [ta, tc]⟩ ⟨3, 0, [tb, tc]⟩) := hGrH.out.1
                      rcases coE_cases aL aO ⟨3, 0, [ta, tc]⟩ with ⟨nP, okP⟩ | ⟨⟨q1, nP⟩, -⟩
                      · rw [hXP.out] at nP
                        subst nP
                        rcases coE_cases aL aO ⟨3, 0, [tb, tc]⟩ with ⟨nQ, okQ⟩ | ⟨⟨q2, nQ⟩, -⟩
                        · rw [hXQ.out] at nQ
                          subst nQ
                          have hle : ¬ (CQ : Int) < (CP : Int) := by have h9 := gr.out okP okQ; rw [hCP.out, hCQ.out] at h9; omega
                          gi_wp2
                          go_roundw
                          case rel => first | exact ⟨1, by decide, rfl, hbz⟩ | exact ⟨⟨1, by decide, rfl, hbz⟩, rfl⟩ | (trace_state; sorry)
                          case measure => first | (simp [RowKit.intOf]; done) | (simp [RowKit.intOf]; omega) | decide
                        · rw [hXQ.out] at nQ
                          subst nQ
                          gi_wp2
                          go_roundw
                          case rel => first | exact ⟨1, by decide, rfl, hbz⟩ | exact ⟨⟨1, by decide, rfl, hbz⟩, rfl⟩ | (trace_state; sorry)
                          case measure => first | (simp [RowKit.intOf]; done) | (simp [RowKit.intOf]; omega) | decide
                      · rw [hXP.out] at nP
                        subst nP
                        gi_wp2
                        go_roundw
                        case rel => first | exact ⟨1, by decide, rfl, hbz⟩ | exact ⟨⟨1, by decide, rfl, hbz⟩, rfl⟩ | (trace_state; sorry)
                        case measure => first | (simp [RowKit.intOf]; done) | (simp [RowKit.intOf]; omega) | decide
                    · have x0 := cc 6
                      have x1 := cc 7
                      have x2 := cc 8
                      have x3 := cc 9
                      have x4 := cc 10
                      have x5 := cc 11
                      clear cc
                      have bx : Below wr.heap.size wr (wr.alloc (.cells #[.int .i64 3, .int .i64 0, .slice u3 2 d3, .int .i64 3, .int .i64 0, .slice u4 2 d4] 66)) := (Below.refl _ _).alloc (Nat.le_refl _) _
                      have yb := heap_alloc_new wr (.cells #[.int .i64 3, .int .i64 0, .slice u3 2 d3, .int .i64 3, .int .i64 0, .slice u4 2 d4] 66)
                      have y := Joins.cell_of_block yb
                      have y0 := y 0
                      have y1 := y 1
                      have y2 := y 2
                      have y3 := y 3
                      have y4 := y 4
                      have y5 := y 5
                      have bxH : Hid (Below W7.heap.size W7 (wr.alloc (.cells #[.int .i64 3, .int .i64 0, .slice u3 2 d3, .int .i64 3, .int .i64 0, .slice u4 2 d4] 66))) := btr hb.out bx
                      have ybH : Hid ((wr.alloc (.cells #[.int .i64 3, .int .i64 0, .slice u3 2 d3, .int .i64 3, .int .i64 0, .slice u4 2 d4] 66)).heap[wr.heap.size]? = some (.cells #[.int .i64 3, .int .i64 0, .slice u3 2 d3, .int .i64 3, .int .i64 0, .slice u4 2 d4] 66 (0, 0))) := yb
                      clear y bx yb
                      obtain ⟨CP, hCP⟩ : ∃ z, Hid (coV ⟨3, 0, [tc, ta]⟩ = z) := ⟨_, (rfl : _ = _)⟩
                      obtain ⟨XP, hXP⟩ : ∃ z, Hid (coE aL aO ⟨3, 0, [tc, ta]⟩ = z) := ⟨_, (rfl : _ = _)⟩
                      obtain ⟨CQ, hCQ⟩ : ∃ z, Hid (coV ⟨3, 0, [tc, tb]⟩ = z) := ⟨_, (rfl : _ = _)⟩
                      obtain ⟨XQ, hXQ⟩ : ∃ z, Hid (coE aL aO ⟨3, 0, [tc, tb]⟩ = z) := ⟨_, (rfl : _ = _)⟩
                      have e14x := E7.out.below bxH.out
                      have hp := pcost_c ⟨3, 0, [tc, ta]⟩ _ (wr.alloc (.cells #[.int .i64 3, .int .i64 0, .slice u3 2 d3, .int .i64 3, .int .i64 0, .slice u4 2 d4] 66)) aL aO (Od.below bxH.out _ _ p3.out) e14x.cL e14x.cO
                      rw [hCP.out, hXP.out] at hp
                      clear e14x
                      gi_wp2_with fail
                      refine ⟨trivial, (callsIn_wide.2 hp).mono ?_⟩
                      rintro e wy ⟨rfl, By⟩
                      obtain ⟨D, hD⟩ : ∃ z, Hid (wr.heap.size = z) := ⟨_, (rfl : _ = _)⟩
                      rw [hD.out] at ybH ⊢
                      have hby : Hid (Below W7.heap.size W7 wy) := btr bxH.out By
                      have rowy := Joins.cell_of_block ((By.block D (blk_lt ybH.out)).trans ybH.out)
                      clear x0 x1 x2 x3 x4 x5 y0 y1 y2 y3 y4 y5 hp By ybH bxH hD
                      have y3 := rowy 3
                      have y4 := rowy 4
                      have y5 := rowy 5
                      clear rowy
                      have e14y := E7.out.below hby.out
                      have hq := pcost_c ⟨3, 0, [tc, tb]⟩ _ wy aL aO (Od.below hby.out _ _ p4.out) e14y.cL e14y.cO
                      rw [hCQ.out, hXQ.out] at hq
                      clear e14y
                      gi_wp2_with fail
                      refine ⟨trivial, (callsIn_wide.2 hq).mono ?_⟩
                      rintro e wz ⟨rfl, Bz⟩
                      have hbz : Hid (Below W7.heap.size W7 wz) := btr hby.out Bz
                      clear y3 y4 y5 hq Bz hby hb
                      have gr : Hid (Gro ⟨3, 0, [tc, ta]⟩ ⟨3, 0, [tc, tb]⟩) := hGrH.out.2.1
                      rcases coE_cases aL aO ⟨3, 0, [tc, ta]⟩ with ⟨nP, okP⟩ | ⟨⟨q1, nP⟩, -⟩
                      · rw [hXP.out] at nP
                        subst nP
                        rcases coE_cases aL aO ⟨3, 0, [tc, tb]⟩ with ⟨nQ, okQ⟩ | ⟨⟨q2, nQ⟩, -⟩
                        · rw [hXQ.out] at nQ
                          subst nQ
                          have hle : ¬ (CQ : Int) < (CP : Int) := by have h9 := gr.out okP okQ; rw [hCP.out, hCQ.out] at h9; omega
                          gi_wp2
                          go_roundw
                          case rel => first | exact ⟨2, by decide, rfl, hbz⟩ | exact ⟨⟨2, by decide, rfl, hbz⟩, rfl⟩ | (trace_state; sorry)
                          case measure => first | (simp [RowKit.intOf]; done) | (simp [RowKit.intOf]; omega) | decide
                        · rw [hXQ.out] at nQ
                          subst nQ
                          gi_wp2
                          go_roundw
                          case rel => first | exact ⟨2, by decide, rfl, hbz⟩ | exact ⟨⟨2, by decide, rfl, hbz⟩, rfl⟩ | (trace_state; sorry)
                          case measure => first | (simp [RowKit.intOf]; done) | (simp [RowKit.intOf]; omega) | decide
                      · rw [hXP.out] at nP
                        subst nP
                        gi_wp2
                        go_roundw
                        case rel => first | exact ⟨2, by decide, rfl, hbz⟩ | exact ⟨⟨2, by decide, rfl, hbz⟩, rfl⟩ | (trace_state; sorry)
                        case measure => first | (simp [RowKit.intOf]; done) | (simp [RowKit.intOf]; omega) | decide
                    · have x0 := cc 12
                      have x1 := cc 13
                      have x2 := cc 14
                      have x3 := cc 15
                      have x4 := cc 16
                      have x5 := cc 17
                      clear cc
                      have bx : Below wr.heap.size wr (wr.alloc (.cells #[.int .i64 4, .int .i64 n, .slice u5 1 d5, .int .i64 4, .int .i64 n, .slice u6 1 d6] 66)) := (Below.refl _ _).alloc (Nat.le_refl _) _
                      have yb := heap_alloc_new wr (.cells #[.int .i64 4, .int .i64 n, .slice u5 1 d5, .int .i64 4, .int .i64 n, .slice u6 1 d6] 66)
                      have y := Joins.cell_of_block yb
                      have y0 := y 0
                      have y1 := y 1
                      have y2 := y 2
                      have y3 := y 3
                      have y4 := y 4
                      have y5 := y 5
                      have bxH : Hid (Below W7.heap.size W7 (wr.alloc (.cells #[.int .i64 4, .int .i64 n, .slice u5 1 d5, .int .i64 4, .int .i64 n, .slice u6 1 d6] 66))) := btr hb.out bx
                      have ybH : Hid ((wr.alloc (.cells #[.int .i64 4, .int .i64 n, .slice u5 1 d5, .int .i64 4, .int .i64 n, .slice u6 1 d6] 66)).heap[wr.heap.size]? = some (.cells #[.int .i64 4, .int .i64 n, .slice u5 1 d5, .int .i64 4, .int .i64 n, .slice u6 1 d6] 66 (0, 0))) := yb
                      clear y bx yb
                      obtain ⟨CP, hCP⟩ : ∃ z, Hid (coV ⟨4, n, [ta]⟩ = z) := ⟨_, (rfl : _ = _)⟩
                      obtain ⟨XP, hXP⟩ : ∃ z, Hid (coE aL aO ⟨4, n, [ta]⟩ = z) := ⟨_, (rfl : _ = _)⟩
                      obtain ⟨CQ, hCQ⟩ : ∃ z, Hid (coV ⟨4, n, [tb]⟩ = z) := ⟨_, (rfl : _ = _)⟩
                      obtain ⟨XQ, hXQ⟩ : ∃ z, Hid (coE aL aO ⟨4, n, [tb]⟩ = z) := ⟨_, (rfl : _ = _)⟩
                      have e14x := E7.out.below bxH.out
                      have hp := pcost_c ⟨4, n, [ta]⟩ _ (wr.alloc (.cells #[.int .i64 4, .int .i64 n, .slice u5 1 d5, .int .i64 4, .int .i64 n, .slice u6 1 d6] 66)) aL aO (Od.below bxH.out _ _ p5.out) e14x.cL e14x.cO
                      rw [hCP.out, hXP.out] at hp
                      clear e14x
                      gi_wp2_with fail
                      refine ⟨trivial, (callsIn_wide.2 hp).mono ?_⟩
                      rintro e wy ⟨rfl, By⟩
                      obtain ⟨D, hD⟩ : ∃ z, Hid (wr.heap.size = z) := ⟨_, (rfl : _ = _)⟩
                      rw [hD.out] at ybH ⊢
                      have hby : Hid (Below W7.heap.size W7 wy) := btr bxH.out By
                      have rowy := Joins.cell_of_block ((By.block D (blk_lt ybH.out)).trans ybH.out)
                      clear x0 x1 x2 x3 x4 x5 y0 y1 y2 y3 y4 y5 hp By ybH bxH hD
                      have y3 := rowy 3
                      have y4 := rowy 4
                      have y5 := rowy 5
                      clear rowy
                      have e14y := E7.out.below hby.out
                      have hq := pcost_c ⟨4, n, [tb]⟩ _ wy aL aO (Od.below hby.out _ _ p6.out) e14y.cL e14y.cO
                      rw [hCQ.out, hXQ.out] at hq
                      clear e14y
                      gi_wp2_with fail
                      refine ⟨trivial, (callsIn_wide.2 hq).mono ?_⟩
                      rintro e wz ⟨rfl, Bz⟩
                      have hbz : Hid (Below W7.heap.size W7 wz) := btr hby.out Bz
                      clear y3 y4 y5 hq Bz hby hb
                      have gr : Hid (Gro ⟨4, n, [ta]⟩ ⟨4, n, [tb]⟩) := hGrH.out.2.2
                      rcases coE_cases aL aO ⟨4, n, [ta]⟩ with ⟨nP, okP⟩ | ⟨⟨q1, nP⟩, -⟩
                      · rw [hXP.out] at nP
                        subst nP
                        rcases coE_cases aL aO ⟨4, n, [tb]⟩ with ⟨nQ, okQ⟩ | ⟨⟨q2, nQ⟩, -⟩
                        · rw [hXQ.out] at nQ
                          subst nQ
                          have hle : ¬ (CQ : Int) < (CP : Int) := by have h9 := gr.out okP okQ; rw [hCP.out, hCQ.out] at h9; omega
                          gi_wp2
                          go_roundw
                          case rel => first | exact ⟨3, by decide, rfl, hbz⟩ | exact ⟨⟨3, by decide, rfl, hbz⟩, rfl⟩ | (trace_state; sorry)
                          case measure => first | (simp [RowKit.intOf]; done) | (simp [RowKit.intOf]; omega) | decide
                        · rw [hXQ.out] at nQ
                          subst nQ
                          gi_wp2
                          go_roundw
                          case rel => first | exact ⟨3, by decide, rfl, hbz⟩ | exact ⟨⟨3, by decide, rfl, hbz⟩, rfl⟩ | (trace_state; sorry)
                          case measure => first | (simp [RowKit.intOf]; done) | (simp [RowKit.intOf]; omega) | decide
                      · rw [hXP.out] at nP
                        subst nP
                        gi_wp2
                        go_roundw
                        case rel => first | exact ⟨3, by decide, rfl, hbz⟩ | exact ⟨⟨3, by decide, rfl, hbz⟩, rfl⟩ | (trace_state; sorry)
                        case measure => first | (simp [RowKit.intOf]; done) | (simp [RowKit.intOf]; omega) | decide
                    · gi_wp2
                      refine ⟨.bool true, ?_, rfl, btr B7.out hb.out⟩
                      simp [results, Tryd.f7, go_sem]
          · refine grow_l (la := (len ta : Int)) (lb := (len tb : Int)) (b := false) (Z1 := fun W => Below w3.heap.size w3 W) (V1 := fun W => Below w3.heap.size w3 W) hSd.out hkb2 (by simp [bne]; omega) ?_ ?_ ?_
            · refine (hl1.out _ hd.out).mono ?_
              rintro e W ⟨rfl, h⟩
              have h2 := btr hd.out h
              exact ⟨rfl, hSW.out _ h2, h2⟩
            · intro W h
              refine (hl2.out _ h).mono ?_
              rintro e W2 ⟨rfl, h2⟩
              have h3 := btr h h2
              exact ⟨rfl, hSW.out _ h3, h3⟩
            · intro W hW
              have hWH : Hid (Below w.heap.size w W) := btr hB3.out hW
              clear hW
              gi_wp2
              refine ⟨.bool true, ?_, rfl, hWH.out⟩
              simp [results, Tryd.f7, go_sem]
        · refine grow_k (V1 := fun W => Below w.heap.size w W) hSd.out (by simp [bne, hk]) hBd.out ?_
          intro W hW
          have hWH : Hid (Below w.heap.size w W) := hW
          clear hW
          gi_wp2
          refine ⟨.bool true, ?_, rfl, hWH.out⟩
          simp [results, Tryd.f7, go_sem]
      · rw [hXC.out] at nC
        subst nC
        refine grow_e3 (V1 := fun W => Below w.heap.size w W) hSd.out hBd.out ?_
        intro W hW
        have hWH : Hid (Below w.heap.size w W) := hW
        clear hW
        gi_wp2
        refine ⟨.bool true, ?_, rfl, hWH.out⟩
        simp [results, Tryd.f7, go_sem]
    · rw [hXB.out] at nB
      subst nB
      refine grow_e2 (V1 := fun W => Below w.heap.size w W) hSd.out hBd.out ?_
      intro W hW
      have hWH : Hid (Below w.heap.size w W) := hW
      clear hW
      gi_wp2
      refine ⟨.bool true, ?_, rfl, hWH.out⟩
      simp [results, Tryd.f7, go_sem]
  · rw [hXA.out] at nA
    subst nA
    refine grow_e1 (V1 := fun W => Below w.heap.size w W) hSd.out hBd.out ?_
    intro W hW
    have hWH : Hid (Below w.heap.size w W) := hW
    clear hW
    gi_wp2
    refine ⟨.bool true, ?_, rfl, hWH.out⟩
    simp [results, Tryd.f7, go_sem]
end Go.Proofs.YtcdpnahlbnogoaaDoor
