/-
  The document's Good, Fault, Check and Acts of layer 18: they answer what the program's answer.
-/
import Derived.Test.YtedfjedmapimnaaDoorKaa
import Derived.Test.YtedfjedmapimnaaDoorKcq
import Derived.Test.YtedfjedmapimnaaDoorSdd
namespace Go.Proofs.YtedfjedmapimnaaDoor
open Flo Go.RowKit
set_option maxHeartbeats 2000000 in
theorem dgood_c (s : Sp.St) (cells : Int) (w : World) :
    Calls Tryd.prog 23 #[sv s, .int .i64 cells] w fun e w' => e = .returned (.bool (Kc.gdS s cells)) ∧ Below w.heap.size w w' := by
  obtain ⟨g, hg⟩ : ∃ g, Hid (w.heap.size = g) := ⟨_, (rfl : _ = _)⟩
  obtain ⟨wa, ewa⟩ : ∃ wa, Hid (w.alloc (.cells #[.int .i64 s.op, .int .i64 s.dst, .int .i64 s.src, .int .i64 s.jump, .int .i64 s.count, .int .i64 s.n, .int .i64 s.k] 39) = wa) := ⟨_, (rfl : _ = _)⟩
  have Ba : Hid (Below w.heap.size w wa) := by rw [← ewa.out]; exact (Below.refl _ _).alloc (Nat.le_refl _) _
  have X1 : Hid (Bst wa g s.op s.dst s.src s.jump s.count s.n s.k) := by show Bst _ _ _ _ _ _ _ _ _; rw [← ewa.out, ← hg.out]; exact Bst.new w _ _ _ _ _ _ _
  have hf : Hid (Calls Tryd.prog 19 #[sv s] wa fun e w' => e = .returned (.int .i64 (fnn (Sp.fm s))) ∧ Below wa.heap.size wa w') := dform_c s wa
  cases hfm : Sp.fm s with
  | false =>
    have hz : Hid (Kc.gdS s cells = false) := by show _ = _; unfold Kc.gdS; rw [hfm]; rfl
    rw [hz.out]
    rw [hfm] at hf
    have e1 : fnn false = 9 := rfl
    rw [e1] at hf
    unfold sv sva at *
    clear hz hfm e1
    go_enter Tryd.func23, Tryd.ntmps23
    go_upto_region 1 with fail
    rw [ewa.out, hg.out]
    obtain ⟨y0, y1, y2, y3, y4, y5, y6⟩ := X1.out
    go_wp2_with fail
    refine hf.out.mono ?_
    rintro e w1 ⟨rfl, B1⟩
    have hB : Hid (Below w.heap.size w w1) := Ba.out.trans (B1.mono Ba.out.size)
    clear y0 y1 y2 y3 y4 y5 y6 B1 hf
    go_wp2
    go_ret
    exact ⟨rfl, hB.out⟩
  | true =>
    obtain ⟨o, d, a, j, c, n, h1, h2, h3, h4, h5, h6, hFo, hn⟩ := fo_of hfm
    obtain ⟨op, dst, src, jump, count, nn, k⟩ := s
    simp only at h1 h2 h3 h4 h5 h6
    subst h1 h2 h3 h4 h5 h6
    have hz : Hid (Kc.gdS ⟨o, d, a, j, c, n, k⟩ cells = (decide ((Kc.las o d a j c n : Int) < cells) && Kc.apa o d a j c n)) := by show _ = _; rw [← Kc.below_eq hFo, Kc.apa_eq hFo]; unfold Kc.gdS; rw [hfm, Bool.true_and]; rfl
    rw [hz.out]
    rw [hfm] at hf
    have e1 : fnn true = 0 := rfl
    rw [e1] at hf
    have hla : Hid (∀ W, Calls Tryd.prog 34 #[sv ⟨o, d, a, j, c, n, k⟩] W fun e w' => e = .returned (.int .i64 (Kc.las o d a j c n : Nat)) ∧ Below W.heap.size W w') := fun W => klast_d hFo k W
    have hap : Hid (∀ W, Calls Tryd.prog 35 #[sv ⟨o, d, a, j, c, n, k⟩] W fun e w' => e = .returned (.bool (Kc.apa o d a j c n)) ∧ Below W.heap.size W w') := fun W => kapart_d hFo k W
    generalize Kc.las o d a j c n = L at *
    generalize Kc.apa o d a j c n = T at *
    obtain ⟨R, hR⟩ : ∃ b, Hid ((decide ((L : Int) < cells) && T) = b) := ⟨_, (rfl : _ = _)⟩
    rw [hR.out]
    unfold sv sva at *
    clear hz hfm e1 hn hFo
    go_enter Tryd.func23, Tryd.ntmps23
    go_upto_region 1 with fail
    rw [ewa.out, hg.out]
    obtain ⟨y0, y1, y2, y3, y4, y5, y6⟩ := X1.out
    go_wp2_with fail
    refine hf.out.mono ?_
    rintro e w1 ⟨rfl, B1⟩
    have hB1 : Hid (Below w.heap.size w w1) := Ba.out.trans (B1.mono Ba.out.size)
    have X2 : Hid (Bst w1 g o d a j c n k) := X1.out.below B1
    clear y0 y1 y2 y3 y4 y5 y6 B1 hf
    obtain ⟨y0, y1, y2, y3, y4, y5, y6⟩ := X2.out
    go_wp2_with fail
    refine (hla.out w1).mono ?_
    rintro e w2 ⟨rfl, B2⟩
    have hB2 : Hid (Below w.heap.size w w2) := hB1.out.trans (B2.mono hB1.out.size)
    have X3 : Hid (Bst w2 g o d a j c n k) := X2.out.below B2
    clear y0 y1 y2 y3 y4 y5 y6 B2 hla
    obtain ⟨y0, y1, y2, y3, y4, y5, y6⟩ := X3.out
    by_cases hc : (L : Int) < cells
    · have hc1 : decide (cells ≤ (L : Int)) = false := decide_eq_false (by omega)
      obtain rfl : T = R := by rw [← hR.out, decide_eq_true hc, Bool.true_and]
      clear hc hR
      go_wp2_with fail
      refine (hap.out w2).mono ?_
      rintro e w3 ⟨rfl, B3⟩
      have hB3 : Hid (Below w.heap.size w w3) := hB2.out.trans (B3.mono hB2.out.size)
      clear y0 y1 y2 y3 y4 y5 y6 B3 hap
      go_wp2
      go_ret
      exact ⟨rfl, hB3.out⟩
    · have hc1 : cells ≤ (L : Int) := by omega
      obtain rfl : R = false := by rw [← hR.out, decide_eq_false hc, Bool.false_and]
      clear hc hR
      go_wp2
      go_ret
      exact ⟨rfl, hB2.out⟩
set_option maxHeartbeats 2000000 in
theorem dfault_c (p : Sp.Pg) (ao : Option Addr) (m cap : Nat) (w : World) (hs : Ss w ao p.steps) (hm : m = p.steps.length) (hb : m ≤ 140737488355328) :
    Calls Tryd.prog 14 #[pv p (.slice ao m cap)] w fun e w' => e = .returned (.int .i64 (Kc.flt p.cells 0 0 p.steps)) ∧ Below w.heap.size w w' := by
  obtain ⟨g, hg⟩ : ∃ g, Hid (w.heap.size = g) := ⟨_, (rfl : _ = _)⟩
  obtain ⟨wa, ewa⟩ : ∃ wa, Hid (w.alloc (.cells #[.int .i64 p.len, .int .i64 p.cells, .int .i64 p.inn, .int .i64 p.out, .slice ao m cap] 24) = wa) := ⟨_, (rfl : _ = _)⟩
  have Ba : Hid (Below w.heap.size w wa) := by rw [← ewa.out]; exact (Below.refl _ _).alloc (Nat.le_refl _) _
  have X1 : Hid (Bpg wa g p (.slice ao m cap)) := by show Bpg _ _ _ _; rw [← ewa.out, ← hg.out]; exact Bpg.new w p _
  have sH : Hid (Ss wa ao p.steps) := hs.below Ba.out
  have hmH : Hid (m = p.steps.length) := hm
  obtain ⟨R, hR⟩ : ∃ b, Hid (Kc.flt p.cells 0 0 p.steps = b) := ⟨_, (rfl : _ = _)⟩
  rw [hR.out]
  clear hs hm
  unfold pv
  go_enter Tryd.func14, Tryd.ntmps14
  go_upto_region 1 with fail
  rw [ewa.out, hg.out]
  obtain ⟨x0, x1, x2, x3, x4⟩ := X1.out
  go_wp2
  clear x0 x1 x2 x3 x4
  go_loopw [3, 11] (fun a i wr => ∃ (k : Nat) (A : Int), k ≤ m ∧ i = .int .i64 k ∧ a = .int .i64 A ∧ 0 ≤ A ∧ A ≤ 67108864 ∧ Hid (Below wa.heap.size wa wr) ∧ Hid (k ≤ 65536 ∧ R = Kc.flt p.cells k A (p.steps.drop k))) (fun _ i _ => m - (intOf i).toNat)
  case atStart => exact ⟨0, 0, Nat.zero_le _, rfl, rfl, by decide, by decide, Below.refl _ _, by decide, by rw [List.drop_zero]; exact hR.out.symm⟩
  case round =>
    obtain ⟨k, A, hk, rfl, rfl, hA0, hA1, Bk, hRk⟩ := hrel
    by_cases hlt : k < m
    · have hlt' : (k : Int) < (m : Int) := by omega
      obtain ⟨s, hs⟩ : ∃ s, p.steps[k]? = some s := ⟨_, List.getElem?_eq_getElem (by rw [← hmH.out]; exact hlt)⟩
      obtain ⟨q, o, rfl, hat⟩ := sH.out k s hs
      obtain ⟨y0, y1, y2, y3, y4, y5, y6⟩ := hat.below Bk.out
      have hdr : Hid (p.steps.drop k = s :: p.steps.drop (k + 1)) := by show _ = _; rw [List.drop_eq_getElem_cons (by rw [← hmH.out]; exact hlt)]; rw [List.getElem?_eq_getElem (by rw [← hmH.out]; exact hlt)] at hs; cases hs; rfl
      have hRs : Hid (R = bif (k == 65536) || !Kc.gdS s p.cells then (k : Int) else bif decide (67108864 < A + s.count) then (k : Int) else Kc.flt p.cells (k + 1) (A + s.count) (p.steps.drop (k + 1))) := by
        show _ = _; rw [hRk.out.2, hdr.out]; rfl
      obtain ⟨wb, ewb⟩ : ∃ wb, Hid (wr.alloc (.cells #[.int .i64 s.op, .int .i64 s.dst, .int .i64 s.src, .int .i64 s.jump, .int .i64 s.count, .int .i64 s.n, .int .i64 s.k] 39) = wb) := ⟨_, (rfl : _ = _)⟩
      obtain ⟨G, hG⟩ : ∃ g, Hid (wr.heap.size = g) := ⟨_, (rfl : _ = _)⟩
      have Bb : Hid (Below wa.heap.size wa wb) := by rw [← ewb.out]; exact Bk.out.alloc Bk.out.size _
      have S1 : Hid (Bst wb G s.op s.dst s.src s.jump s.count s.n s.k) := by show Bst _ _ _ _ _ _ _ _ _; rw [← ewb.out, ← hG.out]; exact Bst.new wr _ _ _ _ _ _ _
      have hgd : Hid (∀ W, Calls Tryd.prog 23 #[sv s, .int .i64 p.cells] W fun e w' => e = .returned (.bool (Kc.gdS s p.cells)) ∧ Below W.heap.size W w') := fun W => dgood_c s p.cells W
      have hff : Hid (Calls Tryd.prog 19 #[sv s] wb fun e w' => e = .returned (.int .i64 (fnn (Sp.fm s))) ∧ Below wb.heap.size wb w') := dform_c s wb
      obtain ⟨gb, hgb⟩ : ∃ b, Hid (Kc.gdS s p.cells = b) := ⟨_, (rfl : _ = _)⟩
      obtain ⟨fb, hfb⟩ : ∃ b, Hid (Sp.fm s = b) := ⟨_, (rfl : _ = _)⟩
      rw [hgb.out] at hgd hRs
      rw [hfb.out] at hff
      have hfg : Hid (fb = false → gb = false) := fun h => by rw [← hgb.out]; unfold Kc.gdS; rw [hfb.out, h]; rfl
      have hfc : Hid (fb = true → 1 ≤ s.count ∧ s.count ≤ 262144) := fun h => by
        obtain ⟨o, d, a, j, c, n, h1, h2, h3, h4, h5, h6, hFo, hn⟩ := fo_of (hfb.out.trans h)
        have := hFo.c1
        have := hFo.c2
        omega
      unfold sv sva at hgd hff
      clear hat hs hdr
      go_upto_region 5 with fail
      rw [ewb.out, hG.out]
      clear y0 y1 y2 y3 y4 y5 y6
      obtain ⟨x0, x1, x2, x3, x4⟩ := X1.out.below Bb.out
      obtain ⟨y0, y1, y2, y3, y4, y5, y6⟩ := S1.out
      by_cases h6 : k = 65536
      · obtain rfl : R = (k : Int) := by rw [hRs.out, beq_iff_eq.2 h6]; rfl
        have hB : Hid (Below w.heap.size w wb) := Ba.out.trans (Bb.out.mono Ba.out.size)
        have q1 : ((k : Int) == 65536) = true := by rw [h6]; rfl
        clear h6 hRs
        go_wp2
        go_ret
        exact ⟨rfl, hB.out⟩
      · have q1 : ((k : Int) == 65536) = false := by rw [beq_eq_false_iff_ne]; omega
        have h6' : Hid ((k == 65536) = false) := beq_eq_false_iff_ne.2 h6
        go_wp2_with fail
        refine hff.out.mono ?_
        rintro e w0 ⟨rfl, B0⟩
        have hB0 : Hid (Below wa.heap.size wa w0) := Bb.out.trans (B0.mono Bb.out.size)
        have S0 : Hid (Bst w0 G s.op s.dst s.src s.jump s.count s.n s.k) := S1.out.below B0
        clear x0 x1 x2 x3 x4 y0 y1 y2 y3 y4 y5 y6 B0 hff
        obtain ⟨y0, y1, y2, y3, y4, y5, y6⟩ := S0.out
        obtain ⟨x0, x1, x2, x3, x4⟩ := X1.out.below hB0.out
        cases fb with
        | false =>
          obtain rfl : gb = false := hfg.out rfl
          obtain rfl : R = (k : Int) := by rw [hRs.out, h6'.out]; rfl
          clear hRs
          have e1 : fnn false = 9 := rfl
          have hB : Hid (Below w.heap.size w w0) := Ba.out.trans (hB0.out.mono Ba.out.size)
          rw [e1]
          go_wp2
          go_ret
          exact ⟨rfl, hB.out⟩
        | true =>
          have e0 : fnn true = 0 := rfl
          rw [e0]
          have hcb := hfc.out rfl
          obtain ⟨c, hc⟩ : ∃ c, Hid (s.count = c) := ⟨_, (rfl : _ = _)⟩
          have hgd2 := hgd.out
          rw [hc.out] at hcb hRs y4 hgd2
          have hgdH : Hid (∀ W, Calls Tryd.prog 23 #[.agg #[.int .i64 s.op, .int .i64 s.dst, .int .i64 s.src, .int .i64 s.jump, .int .i64 c, .int .i64 s.n, .int .i64 s.k], .int .i64 p.cells] W fun e w' => e = .returned (.bool gb) ∧ Below W.heap.size W w') := hgd2
          obtain ⟨A2, hA2⟩ : ∃ z, Hid (A + c = z) := ⟨_, (rfl : _ = _)⟩
          have e1 : wrap64 (A + c) = A2 := by rw [← hA2.out]; unfold wrap64; omega
          have hk6 : Hid (k + 1 ≤ 65536) := by have := hRk.out.1; show _ ≤ _; omega
          have hA3 : 0 ≤ A2 := by rw [← hA2.out]; omega
          rw [hA2.out, h6'.out] at hRs
          clear hcb hgd2 hgd
          go_upto_region 11 with fail
          rw [e1]
          clear e1
          by_cases hgt : 67108864 < A2
          · obtain rfl : R = (k : Int) := by rw [hRs.out, decide_eq_true hgt]; cases gb <;> rfl
            clear hRs
            have hB : Hid (Below w.heap.size w w0) := Ba.out.trans (hB0.out.mono Ba.out.size)
            go_wp2
            go_ret
            exact ⟨rfl, hB.out⟩
          · have q2 : decide ((67108864 : Int) < A2) = false := decide_eq_false hgt
            have hA4 : A2 ≤ 67108864 := by omega
            clear hgt
            go_wp2_with fail
            refine (hgdH.out w0).mono ?_
            rintro e w1 ⟨rfl, B1⟩
            have hB1 : Hid (Below wa.heap.size wa w1) := hB0.out.trans (B1.mono hB0.out.size)
            clear x0 x1 x2 x3 x4 y0 y1 y2 y3 y4 y5 y6 B1 hgdH
            cases gb with
            | false =>
              obtain rfl : R = (k : Int) := by rw [hRs.out]; rfl
              clear hRs
              have hB : Hid (Below w.heap.size w w1) := Ba.out.trans (hB1.out.mono Ba.out.size)
              go_wp2
              go_ret
              exact ⟨rfl, hB.out⟩
            | true =>
              have hRn : Hid (R = Kc.flt p.cells (k + 1) A2 (p.steps.drop (k + 1))) := by show _ = _; rw [hRs.out, q2]; rfl
              clear hRs
              go_wp2
              go_roundw
              case rel => exact ⟨k + 1, A2, by omega, by go_num, rfl, hA3, hA4, hB1, hk6.out, hRn.out⟩
              case measure => simp [intOf]; omega
    · have hlt' : decide ((k : Int) < (m : Int)) = false := decide_eq_false (by omega)
      have hlt2 : ¬ k < m := hlt
      obtain rfl : R = -1 := by rw [hRk.out.2, List.drop_eq_nil_of_le (by have := hmH.out; omega)]; rfl
      go_wp2
      go_ret
      exact ⟨rfl, Ba.out.trans (Bk.out.mono Ba.out.size)⟩
theorem dhdf_iff (p : Sp.Pg) : Kc.hdf p = true ↔ 1 ≤ p.len ∧ p.len ≤ 16384 ∧ 1 ≤ p.cells ∧ p.cells ≤ 262144 ∧ 0 ≤ p.inn ∧ 0 ≤ p.out ∧ p.inn ≤ wrap64 (p.cells - p.len) ∧ p.out ≤ wrap64 (p.cells - p.len) := by
  unfold Kc.hdf
  simp only [Bool.and_eq_true, Sp.wi_iff]
  constructor
  · rintro ⟨⟨a, b⟩, ⟨c, d⟩, ⟨e, f⟩, g, h⟩; exact ⟨a, b, c, d, e, g, f, h⟩
  · rintro ⟨a, b, c, d, e, g, f, h⟩; exact ⟨⟨a, b⟩, ⟨c, d⟩, ⟨e, f⟩, g, h⟩
set_option maxHeartbeats 2000000 in
theorem dcheck_c (p : Sp.Pg) (ao : Option Addr) (m cap : Nat) (w : World) (hs : Ss w ao p.steps) (hm : m = p.steps.length) (hb : m ≤ 140737488355328) :
    Calls Tryd.prog 12 #[pv p (.slice ao m cap)] w fun e w' => e = .returned (.int .i64 (fnn (Kc.chk p))) ∧ Below w.heap.size w w' := by
  obtain ⟨g, hg⟩ : ∃ g, Hid (w.heap.size = g) := ⟨_, (rfl : _ = _)⟩
  obtain ⟨wa, ewa⟩ : ∃ wa, Hid (w.alloc (.cells #[.int .i64 p.len, .int .i64 p.cells, .int .i64 p.inn, .int .i64 p.out, .slice ao m cap] 24) = wa) := ⟨_, (rfl : _ = _)⟩
  have Ba : Hid (Below w.heap.size w wa) := by rw [← ewa.out]; exact (Below.refl _ _).alloc (Nat.le_refl _) _
  have X1 : Hid (Bpg wa g p (.slice ao m cap)) := by show Bpg _ _ _ _; rw [← ewa.out, ← hg.out]; exact Bpg.new w p _
  have c2 : Hid (Calls Tryd.prog 14 #[pv p (.slice ao m cap)] wa fun e w' => e = .returned (.int .i64 (Kc.flt p.cells 0 0 p.steps)) ∧ Below wa.heap.size wa w') := dfault_c p ao m cap wa (hs.below Ba.out) hm hb
  have hc : Hid (Kc.chk p = (Kc.hdf p && decide (Kc.flt p.cells 0 0 p.steps < 0))) := (rfl : _ = _)
  have hi : Hid (Kc.hdf p = true ↔ _) := dhdf_iff p
  obtain ⟨r, hr⟩ : ∃ r, Hid (Kc.chk p = r) := ⟨_, (rfl : _ = _)⟩
  rw [hr.out] at hc ⊢
  generalize Kc.flt p.cells 0 0 p.steps = F at c2 hc
  unfold pv at *
  clear hs hm hr
  generalize Kc.hdf p = h at hc hi
  obtain ⟨len, cells, inn, out, st⟩ := p
  simp only at hi X1 ewa c2 ⊢
  by_cases k0 : len < 1
  · obtain rfl : h = false := by
      rw [← Bool.not_eq_true]
      intro c
      have := hi.out.1 c
      omega
    obtain rfl : r = false := hc.out
    have e1 : fnn false = 9 := rfl
    rw [e1]
    clear hi hc c2
    go_enter Tryd.func12, Tryd.ntmps12
    go_upto_region 1 with fail
    rw [ewa.out, hg.out]
    obtain ⟨x0, x1, x2, x3, x4⟩ := X1.out
    go_wp2
    go_ret
    exact ⟨rfl, Ba.out⟩
  have f0 : decide (len < 1) = false := decide_eq_false k0
  by_cases k1 : 16384 < len
  · obtain rfl : h = false := by
      rw [← Bool.not_eq_true]
      intro c
      have := hi.out.1 c
      omega
    obtain rfl : r = false := hc.out
    have e1 : fnn false = 9 := rfl
    rw [e1]
    clear hi hc c2
    go_enter Tryd.func12, Tryd.ntmps12
    go_upto_region 1 with fail
    rw [ewa.out, hg.out]
    obtain ⟨x0, x1, x2, x3, x4⟩ := X1.out
    go_wp2
    go_ret
    exact ⟨rfl, Ba.out⟩
  have f1 : decide (16384 < len) = false := decide_eq_false k1
  by_cases k2 : cells < 1
  · obtain rfl : h = false := by
      rw [← Bool.not_eq_true]
      intro c
      have := hi.out.1 c
      omega
    obtain rfl : r = false := hc.out
    have e1 : fnn false = 9 := rfl
    rw [e1]
    clear hi hc c2
    go_enter Tryd.func12, Tryd.ntmps12
    go_upto_region 1 with fail
    rw [ewa.out, hg.out]
    obtain ⟨x0, x1, x2, x3, x4⟩ := X1.out
    go_wp2
    go_ret
    exact ⟨rfl, Ba.out⟩
  have f2 : decide (cells < 1) = false := decide_eq_false k2
  by_cases k3 : 262144 < cells
  · obtain rfl : h = false := by
      rw [← Bool.not_eq_true]
      intro c
      have := hi.out.1 c
      omega
    obtain rfl : r = false := hc.out
    have e1 : fnn false = 9 := rfl
    rw [e1]
    clear hi hc c2
    go_enter Tryd.func12, Tryd.ntmps12
    go_upto_region 1 with fail
    rw [ewa.out, hg.out]
    obtain ⟨x0, x1, x2, x3, x4⟩ := X1.out
    go_wp2
    go_ret
    exact ⟨rfl, Ba.out⟩
  have f3 : decide (262144 < cells) = false := decide_eq_false k3
  have eV : wrap64 (cells - len) = cells - len := by unfold wrap64; omega
  rw [eV] at hi
  by_cases k4 : inn < 0
  · obtain rfl : h = false := by
      rw [← Bool.not_eq_true]
      intro c
      have := hi.out.1 c
      omega
    obtain rfl : r = false := hc.out
    have e1 : fnn false = 9 := rfl
    rw [e1]
    clear hi hc c2
    go_enter Tryd.func12, Tryd.ntmps12
    go_upto_region 1 with fail
    rw [ewa.out, hg.out]
    obtain ⟨x0, x1, x2, x3, x4⟩ := X1.out
    go_wp2
    go_ret
    exact ⟨rfl, Ba.out⟩
  have f4 : decide (inn < 0) = false := decide_eq_false k4
  by_cases k5 : out < 0
  · obtain rfl : h = false := by
      rw [← Bool.not_eq_true]
      intro c
      have := hi.out.1 c
      omega
    obtain rfl : r = false := hc.out
    have e1 : fnn false = 9 := rfl
    rw [e1]
    clear hi hc c2
    go_enter Tryd.func12, Tryd.ntmps12
    go_upto_region 1 with fail
    rw [ewa.out, hg.out]
    obtain ⟨x0, x1, x2, x3, x4⟩ := X1.out
    go_wp2
    go_ret
    exact ⟨rfl, Ba.out⟩
  have f5 : decide (out < 0) = false := decide_eq_false k5
  by_cases k6 : cells - len < inn
  · obtain rfl : h = false := by
      rw [← Bool.not_eq_true]
      intro c
      have := hi.out.1 c
      omega
    obtain rfl : r = false := hc.out
    have e1 : fnn false = 9 := rfl
    rw [e1]
    clear hi hc c2
    go_enter Tryd.func12, Tryd.ntmps12
    go_upto_region 1 with fail
    rw [ewa.out, hg.out]
    obtain ⟨x0, x1, x2, x3, x4⟩ := X1.out
    go_wp2
    go_ret
    exact ⟨rfl, Ba.out⟩
  have f6 : decide (cells - len < inn) = false := decide_eq_false k6
  by_cases k7 : cells - len < out
  · obtain rfl : h = false := by
      rw [← Bool.not_eq_true]
      intro c
      have := hi.out.1 c
      omega
    obtain rfl : r = false := hc.out
    have e1 : fnn false = 9 := rfl
    rw [e1]
    clear hi hc c2
    go_enter Tryd.func12, Tryd.ntmps12
    go_upto_region 1 with fail
    rw [ewa.out, hg.out]
    obtain ⟨x0, x1, x2, x3, x4⟩ := X1.out
    go_wp2
    go_ret
    exact ⟨rfl, Ba.out⟩
  have f7 : decide (cells - len < out) = false := decide_eq_false k7
  obtain rfl : h = true := hi.out.2 ⟨by omega, by omega, by omega, by omega, by omega, by omega, by omega, by omega⟩
  clear k0 k1 k2 k3 k4 k5 k6 k7 hi
  go_enter Tryd.func12, Tryd.ntmps12
  go_upto_region 1 with fail
  rw [ewa.out, hg.out]
  obtain ⟨x0, x1, x2, x3, x4⟩ := X1.out
  go_wp2_with fail
  refine c2.out.mono ?_
  rintro e w2 ⟨rfl, B2⟩
  have hB : Hid (Below w.heap.size w w2) := Ba.out.trans (B2.mono Ba.out.size)
  clear x0 x1 x2 x3 x4 B2 c2
  by_cases hF : F < 0
  · obtain rfl : r = true := by rw [hc.out, decide_eq_true hF]; rfl
    have q1 : decide (0 ≤ F) = false := decide_eq_false (by omega)
    clear hF
    go_wp2
    go_ret
    exact ⟨rfl, hB.out⟩
  · obtain rfl : r = false := by rw [hc.out, decide_eq_false hF]; rfl
    have q1 : 0 ≤ F := by omega
    clear hF
    go_wp2
    go_ret
    exact ⟨rfl, hB.out⟩
set_option maxHeartbeats 2000000 in
theorem dacts_c (p : Sp.Pg) (ao : Option Addr) (m cap : Nat) (w : World) (hs : Ss w ao p.steps) (hm : m = p.steps.length) (hb : m ≤ 140737488355328) :
    Calls Tryd.prog 9 #[pv p (.slice ao m cap)] w fun e w' => e = .returned (.tuple #[.int .i64 (bif Kc.chk p then Kc.sumc p.steps else 0), .int .i64 (fnn (Kc.chk p))]) ∧ Below w.heap.size w w' := by
  obtain ⟨g, hg⟩ : ∃ g, Hid (w.heap.size = g) := ⟨_, (rfl : _ = _)⟩
  obtain ⟨wa, ewa⟩ : ∃ wa, Hid (w.alloc (.cells #[.int .i64 p.len, .int .i64 p.cells, .int .i64 p.inn, .int .i64 p.out, .slice ao m cap] 24) = wa) := ⟨_, (rfl : _ = _)⟩
  have Ba : Hid (Below w.heap.size w wa) := by rw [← ewa.out]; exact (Below.refl _ _).alloc (Nat.le_refl _) _
  have X1 : Hid (Bpg wa g p (.slice ao m cap)) := by show Bpg _ _ _ _; rw [← ewa.out, ← hg.out]; exact Bpg.new w p _
  have sH : Hid (Ss wa ao p.steps) := hs.below Ba.out
  have hmH : Hid (m = p.steps.length) := hm
  have c1 : Hid (Calls Tryd.prog 12 #[pv p (.slice ao m cap)] wa fun e w' => e = .returned (.int .i64 (fnn (Kc.chk p))) ∧ Below wa.heap.size wa w') := dcheck_c p ao m cap wa sH.out hm hb
  have hF : Hid (Kc.chk p = true → Kc.flt p.cells 0 0 p.steps < 0) := fun h => by
    unfold Kc.chk at h
    rw [Bool.and_eq_true, decide_eq_true_eq] at h
    exact h.2
  obtain ⟨r, hr⟩ : ∃ r, Hid (Kc.chk p = r) := ⟨_, (rfl : _ = _)⟩
  obtain ⟨T, hT⟩ : ∃ r, Hid (Kc.sumc p.steps = r) := ⟨_, (rfl : _ = _)⟩
  rw [hr.out] at c1 hF ⊢
  rw [hT.out]
  unfold pv at *
  clear hs hm
  cases r with
  | false =>
    have e1 : fnn false = 9 := rfl
    rw [e1] at c1 ⊢
    clear e1 hF
    rw [cond_false]
    go_enter Tryd.func9, Tryd.ntmps9
    go_upto_region 1 with fail
    rw [ewa.out, hg.out]
    obtain ⟨x0, x1, x2, x3, x4⟩ := X1.out
    go_wp2_with fail
    refine c1.out.mono ?_
    rintro e w1 ⟨rfl, B1⟩
    have hB : Hid (Below w.heap.size w w1) := Ba.out.trans (B1.mono Ba.out.size)
    clear x0 x1 x2 x3 x4 B1 c1
    go_wp2
    go_ret2
    exact ⟨rfl, hB.out⟩
  | true =>
    have e1 : fnn true = 0 := rfl
    rw [e1] at c1 ⊢
    clear e1
    rw [cond_true]
    have hF0 : Hid (Kc.flt p.cells 0 0 p.steps < 0) := hF.out rfl
    clear hF
    go_enter Tryd.func9, Tryd.ntmps9
    go_upto_region 1 with fail
    rw [ewa.out, hg.out]
    obtain ⟨x0, x1, x2, x3, x4⟩ := X1.out
    go_wp2_with fail
    refine c1.out.mono ?_
    rintro e w1 ⟨rfl, B1⟩
    have B1H : Hid (Below wa.heap.size wa w1) := B1
    have Z1 := X1.out.below B1
    clear x0 x1 x2 x3 x4 B1 c1
    obtain ⟨x0, x1, x2, x3, x4⟩ := Z1
    go_wp2
    clear x0 x1 x2 x3 x4
    go_loopw [5, 16] (fun a i wr => ∃ (k : Nat) (A : Int), k ≤ m ∧ i = .int .i64 k ∧ a = .int .i64 A ∧ Hid (Below wa.heap.size wa wr) ∧ Hid (0 ≤ A ∧ T = A + Kc.sumc (p.steps.drop k) ∧ Kc.flt p.cells k A (p.steps.drop k) < 0)) (fun _ i _ => m - (intOf i).toNat)
    case atStart => exact ⟨0, 0, Nat.zero_le _, rfl, rfl, B1H, by decide, by rw [List.drop_zero, hT.out]; omega, by rw [List.drop_zero]; exact hF0.out⟩
    case round =>
      obtain ⟨k, A, hk, rfl, rfl, Bk, hAk⟩ := hrel
      by_cases hlt : k < m
      · have hlt' : (k : Int) < (m : Int) := by omega
        obtain ⟨s, hs⟩ : ∃ s, p.steps[k]? = some s := ⟨_, List.getElem?_eq_getElem (by rw [← hmH.out]; exact hlt)⟩
        obtain ⟨q, o, rfl, hat⟩ := sH.out k s hs
        obtain ⟨y0, y1, y2, y3, y4, y5, y6⟩ := hat.below Bk.out
        have hdr : Hid (p.steps.drop k = s :: p.steps.drop (k + 1)) := by show _ = _; rw [List.drop_eq_getElem_cons (by rw [← hmH.out]; exact hlt)]; rw [List.getElem?_eq_getElem (by rw [← hmH.out]; exact hlt)] at hs; cases hs; rfl
        obtain ⟨a1, a2, a3⟩ := hAk.out
        rw [hdr.out] at a2 a3
        obtain ⟨f1, f2, f3, f4⟩ := flt_step _ _ _ _ _ a3
        have hcb := gd_fm f2
        have Bb : Hid (Below wa.heap.size wa (wr.alloc (.cells #[.int .i64 s.op, .int .i64 s.dst, .int .i64 s.src, .int .i64 s.jump, .int .i64 s.count, .int .i64 s.n, .int .i64 s.k] 39))) := Bk.out.alloc Bk.out.size _
        obtain ⟨A2, hA2⟩ : ∃ z, Hid (A + s.count = z) := ⟨_, (rfl : _ = _)⟩
        have e1 : wrap64 (A + s.count) = A2 := by rw [← hA2.out]; unfold wrap64; omega
        have hN : Hid (0 ≤ A2 ∧ T = A2 + Kc.sumc (p.steps.drop (k + 1)) ∧ Kc.flt p.cells (k + 1) A2 (p.steps.drop (k + 1)) < 0) := ⟨by have := hA2.out; omega, by have := hA2.out; unfold Kc.sumc at a2; omega, by rw [← hA2.out]; exact f4⟩
        clear hat hs a1 a2 a3 f1 f2 f3 f4 hcb
        go_upto_region 9 with fail
        rw [e1]
        clear e1
        go_wp2
        go_roundw
        case rel => exact ⟨k + 1, A2, by omega, by go_num, rfl, Bb, hN⟩
        case measure => simp [intOf]; omega
      · have hlt' : decide ((k : Int) < (m : Int)) = false := decide_eq_false (by omega)
        have hlt2 : ¬ k < m := hlt
        obtain rfl : T = A := by
          have := hAk.out.2.1
          rw [List.drop_eq_nil_of_le (by have := hmH.out; omega)] at this
          unfold Kc.sumc at this; omega
        go_wp2
        go_ret2
        exact ⟨rfl, Ba.out.trans (Bk.out.mono Ba.out.size)⟩
end Go.Proofs.YtedfjedmapimnaaDoor
