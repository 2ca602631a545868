/-
  Package check: good, Fault, Check, Acts.
-/
import Derived.Test.YtedfjedmapimnaaDoorKc4
import Derived.Test.YtedfjedmapimnaaDoorSp3
namespace Go.Proofs.YtedfjedmapimnaaDoor.Kc
open Go.RowKit
def touS (s : Sp.St) : To := tou s.op.toNat s.dst.toNat s.src.toNat s.jump.toNat s.count.toNat s.n.toNat
/-- is a step good for so many cells -/
def gdS (s : Sp.St) (cells : Int) : Bool := Sp.fm s && ((touS s).below cells && !(touS s).clash)
/-- the first bad step, from the i-th on, a the acts so far -/
def flt (cells : Int) : Nat → Int → List Sp.St → Int
  | _, _, [] => -1
  | i, a, s :: l => bif (i == 65536) || !gdS s cells then i else bif decide (67108864 < a + s.count) then i else flt cells (i + 1) (a + s.count) l
def hdf (p : Sp.Pg) : Bool := Sp.wi p.len 1 16384 && (Sp.wi p.cells 1 262144 && (Sp.wi p.inn 0 (wrap64 (p.cells - p.len)) && Sp.wi p.out 0 (wrap64 (p.cells - p.len))))
def chk (p : Sp.Pg) : Bool := hdf p && decide (flt p.cells 0 0 p.steps < 0)
def sumc : List Sp.St → Int
  | [] => 0
  | s :: l => s.count + sumc l
end Go.Proofs.YtedfjedmapimnaaDoor.Kc
namespace Go.Proofs.YtedfjedmapimnaaDoor
open Flo Go.RowKit
set_option maxHeartbeats 1000000 in
theorem kgood_c (s : Sp.St) (cells : Int) (al : List Addr) (w : World) (hO : Ops w) (he : Pe w al) :
    Calls Tryd.prog 22 #[sv s, .int .i64 cells] w fun e w' => e = .returned (.bool (Kc.gdS s cells)) ∧ Below w.heap.size w w' := by
  obtain ⟨g, hg⟩ : ∃ g, Hid (w.heap.size = g) := ⟨_, (rfl : _ = _)⟩
  obtain ⟨wa, ewa⟩ : ∃ wa, Hid (w.alloc (.cells #[.int .i64 s.op, .int .i64 s.dst, .int .i64 s.src, .int .i64 s.jump, .int .i64 s.count, .int .i64 s.n, .int .i64 s.k] 39) = wa) := ⟨_, (rfl : _ = _)⟩
  have Ba : Hid (Below w.heap.size w wa) := by rw [← ewa.out]; exact (Below.refl _ _).alloc (Nat.le_refl _) _
  have X1 : Hid (Bst wa g s.op s.dst s.src s.jump s.count s.n s.k) := by show Bst _ _ _ _ _ _ _ _ _; rw [← ewa.out, ← hg.out]; exact Bst.new w _ _ _ _ _ _ _
  have hf : Hid (Calls Tryd.prog 24 #[sv s] wa fun e w' => e = .returned (fev al (Sp.fm s)) ∧ Below wa.heap.size wa w') := sform_c s al wa (hO.below (Ba.out.mono (Nat.le_refl _))) (he.below Ba.out)
  cases hfm : Sp.fm s with
  | false =>
    have hz : Hid (Kc.gdS s cells = false) := by show _ = _; unfold Kc.gdS; rw [hfm]; rfl
    rw [hz.out]
    rw [hfm] at hf
    have e1 : fev al false = ek al 8 := rfl
    rw [e1] at hf
    have hq := nnil_c al 8
    have hgd := guard_c al 8
    unfold sv sva at *
    clear hO he hz hfm e1
    go_enter Tryd.func22, Tryd.ntmps22
    go_upto_region 1 with fail
    rw [ewa.out, hg.out]
    obtain ⟨y0, y1, y2, y3, y4, y5, y6⟩ := X1.out
    go_wp2_with fail
    refine hf.out.mono ?_
    rintro e w1 ⟨rfl, B1⟩
    have hB : Hid (Below w.heap.size w w1) := Ba.out.trans (B1.mono Ba.out.size)
    clear y0 y1 y2 y3 y4 y5 y6 B1 hf
    go_wp2
    go_ret
    exact ⟨rfl, hB.out⟩
  | true =>
    obtain ⟨o, d, a, j, c, n, h1, h2, h3, h4, h5, h6, hFo, hn⟩ := fo_of hfm
    obtain ⟨op, dst, src, jump, count, nn, k⟩ := s
    simp only at h1 h2 h3 h4 h5 h6
    subst h1 h2 h3 h4 h5 h6
    have hz : Hid (Kc.gdS ⟨o, d, a, j, c, n, k⟩ cells = ((Kc.tou o d a j c n).below cells && !(Kc.tou o d a j c n).clash)) := by show _ = _; unfold Kc.gdS; rw [hfm, Bool.true_and]; rfl
    rw [hz.out]
    rw [hfm] at hf
    have e1 : fev al true = .nilIface := rfl
    rw [e1] at hf
    have ht : Hid (∀ W, Calls Tryd.prog 25 #[sv ⟨o, d, a, j, c, n, k⟩] W fun e w' => TcE (Kc.tou o d a j c n) W e w') := fun W => ktouch_c hFo k W
    obtain ⟨hr, hv⟩ := rok_of hFo
    obtain ⟨hl1, hl2⟩ := len_tou hFo
    have hrH : Hid (∀ r ∈ (Kc.tou o d a j c n).rd, Rok r) := hr
    have hvH : Hid (∀ r ∈ (Kc.tou o d a j c n).wr, Rok r) := hv
    generalize Kc.tou o d a j c n = t at *
    obtain ⟨p1, hp1⟩ : ∃ p, Hid (t.below cells = p) := ⟨_, (rfl : _ = _)⟩
    obtain ⟨p2, hp2⟩ : ∃ p, Hid (t.clash = p) := ⟨_, (rfl : _ = _)⟩
    rw [hp1.out, hp2.out]
    unfold sv sva at *
    clear hO he hz hfm e1 hn hFo hr hv
    go_enter Tryd.func22, Tryd.ntmps22
    go_upto_region 1 with fail
    rw [ewa.out, hg.out]
    obtain ⟨y0, y1, y2, y3, y4, y5, y6⟩ := X1.out
    go_wp2_with fail
    refine hf.out.mono ?_
    rintro e w1 ⟨rfl, B1⟩
    have hB1 : Hid (Below w.heap.size w w1) := Ba.out.trans (B1.mono Ba.out.size)
    have X2 := X1.out.below B1
    clear y0 y1 y2 y3 y4 y5 y6 B1 hf
    obtain ⟨y0, y1, y2, y3, y4, y5, y6⟩ := X2
    go_wp2_with fail
    refine (ht.out w1).mono ?_
    rintro e w2 ⟨v1, v2, rfl, ⟨b1, m1, rfl, R1⟩, ⟨b2, m2, rfl, R2⟩, B2⟩
    obtain ⟨n1, hn1⟩ : ∃ n, Hid (t.rd.length = n) := ⟨_, (rfl : _ = _)⟩
    obtain ⟨n2, hn2⟩ : ∃ n, Hid (t.wr.length = n) := ⟨_, (rfl : _ = _)⟩
    rw [hn1.out, hn2.out]
    clear y0 y1 y2 y3 y4 y5 y6
    have hB2 : Hid (Below w.heap.size w w2) := hB1.out.trans (B2.mono hB1.out.size)
    obtain ⟨wb, ewb⟩ : ∃ wb, Hid (w2.alloc (.cells #[.slice b1 n1 m1, .slice b2 n2 m2, .bool t.wh] 55) = wb) := ⟨_, (rfl : _ = _)⟩
    obtain ⟨G, hG⟩ : ∃ g, Hid (w2.heap.size = g) := ⟨_, (rfl : _ = _)⟩
    have Bb' : Below w2.heap.size w2 wb := by rw [← ewb.out]; exact (Below.refl _ _).alloc (Nat.le_refl _) _
    have hBb : Hid (Below w.heap.size w wb) := hB2.out.trans (Bb'.mono hB2.out.size)
    have T1 : Hid (Bto wb G (.slice b1 n1 m1) (.slice b2 n2 m2) t.wh) := by rw [← ewb.out, ← hG.out]; constructor <;> simp [go_sem]
    have R1b : Hid (RdR wb (.slice b1 n1 m1) t.rd) := ⟨b1, m1, by rw [hn1.out], R1.below Bb'⟩
    have R2b : Hid (RdR wb (.slice b2 n2 m2) t.wr) := ⟨b2, m2, by rw [hn2.out], R2.below Bb'⟩
    have hbl : Hid (Calls Tryd.prog 32 #[.agg #[.slice b1 n1 m1, .slice b2 n2 m2, .bool t.wh], .int .i64 cells] wb fun e w' => e = .returned (.bool p1) ∧ Below wb.heap.size wb w') := by rw [← hp1.out]; exact kbelow_c t _ _ cells wb R1b.out R2b.out hrH.out hvH.out hl1 hl2
    have hcl : Hid (∀ W, Below wb.heap.size wb W → Calls Tryd.prog 33 #[.agg #[.slice b1 n1 m1, .slice b2 n2 m2, .bool t.wh]] W fun e w' => e = .returned (.bool p2) ∧ Below W.heap.size W w') := fun W hW => by rw [← hp2.out]; exact kclash_c t _ _ W (R1b.out.below hW) (R2b.out.below hW) hrH.out hvH.out hl1 hl2
    generalize t.wh = tw at *
    clear R1 R2 B2 Bb' ht
    go_upto_region 4 with fail
    rw [ewb.out, hG.out]
    obtain ⟨x0, x1, x2⟩ := T1.out
    go_wp2_with fail
    refine hbl.out.mono ?_
    rintro e w3 ⟨rfl, B3⟩
    have hB3 : Hid (Below w.heap.size w w3) := hBb.out.trans (B3.mono hBb.out.size)
    have T2 := T1.out.below B3
    have B3H : Hid (Below wb.heap.size wb w3) := B3
    clear x0 x1 x2 B3 hbl
    obtain ⟨x0, x1, x2⟩ := T2
    cases p1 with
    | false =>
      go_wp2
      go_ret
      exact ⟨rfl, hB3.out⟩
    | true =>
      go_wp2_with fail
      refine (hcl.out w3 B3H.out).mono ?_
      rintro e w4 ⟨rfl, B4⟩
      have hB4 : Hid (Below w.heap.size w w4) := hB3.out.trans (B4.mono hB3.out.size)
      clear x0 x1 x2 B4
      go_wp2
      go_ret
      exact ⟨rfl, hB4.out⟩
theorem flt_lt (cells : Int) : ∀ (l : List Sp.St) (i : Nat) (a : Int), -1 ≤ Kc.flt cells i a l ∧ Kc.flt cells i a l < i + l.length ∨ Kc.flt cells i a l = -1
  | [], i, a => .inr rfl
  | s :: l, i, a => by
    unfold Kc.flt
    cases (i == 65536) || !Kc.gdS s cells with
    | true => left; simp; omega
    | false =>
      simp only [cond_false]
      cases decide (67108864 < a + s.count) with
      | true => left; simp; omega
      | false =>
        simp only [cond_false]
        rcases flt_lt cells l (i + 1) (a + s.count) with h | h
        · left; simp only [List.length_cons]; omega
        · right; exact h
theorem gd_fm {s : Sp.St} {cells : Int} (h : Kc.gdS s cells = true) : 1 ≤ s.count ∧ s.count ≤ 262144 := by
  unfold Kc.gdS at h
  rw [Bool.and_eq_true] at h
  obtain ⟨o, d, a, j, c, n, h1, h2, h3, h4, h5, h6, hFo, hn⟩ := fo_of h.1
  have := hFo.c1
  have := hFo.c2
  omega
set_option maxHeartbeats 2000000 in
theorem kfault_c (p : Sp.Pg) (ao : Option Addr) (m cap : Nat) (al : List Addr) (w : World) (hs : Ss w ao p.steps) (hm : m = p.steps.length) (hb : m ≤ 140737488355328) (hO : Ops w) (he : Pe w al) :
    Calls Tryd.prog 13 #[pv p (.slice ao m cap)] w fun e w' => e = .returned (.int .i64 (Kc.flt p.cells 0 0 p.steps)) ∧ Below w.heap.size w w' := by
  obtain ⟨g, hg⟩ : ∃ g, Hid (w.heap.size = g) := ⟨_, (rfl : _ = _)⟩
  obtain ⟨wa, ewa⟩ : ∃ wa, Hid (w.alloc (.cells #[.int .i64 p.len, .int .i64 p.cells, .int .i64 p.inn, .int .i64 p.out, .slice ao m cap] 24) = wa) := ⟨_, (rfl : _ = _)⟩
  have Ba : Hid (Below w.heap.size w wa) := by rw [← ewa.out]; exact (Below.refl _ _).alloc (Nat.le_refl _) _
  have X1 : Hid (Bpg wa g p (.slice ao m cap)) := by show Bpg _ _ _ _; rw [← ewa.out, ← hg.out]; exact Bpg.new w p _
  have sH : Hid (Ss wa ao p.steps) := hs.below Ba.out
  have hOH : Hid (Ops wa) := hO.below (Ba.out.mono (Nat.le_refl _))
  have heH : Hid (Pe wa al) := he.below Ba.out
  have hmH : Hid (m = p.steps.length) := hm
  obtain ⟨R, hR⟩ : ∃ b, Hid (Kc.flt p.cells 0 0 p.steps = b) := ⟨_, (rfl : _ = _)⟩
  rw [hR.out]
  clear hs hO he hm
  unfold pv
  go_enter Tryd.func13, Tryd.ntmps13
  go_upto_region 1 with fail
  rw [ewa.out, hg.out]
  obtain ⟨x0, x1, x2, x3, x4⟩ := X1.out
  go_wp2
  clear x0 x1 x2 x3 x4
  go_loopw [3, 9] (fun a i wr => ∃ (k : Nat) (A : Int), k ≤ m ∧ i = .int .i64 k ∧ a = .int .i64 A ∧ 0 ≤ A ∧ A ≤ 67108864 ∧ Hid (Below wa.heap.size wa wr) ∧ Hid (k ≤ 65536 ∧ R = Kc.flt p.cells k A (p.steps.drop k))) (fun _ i _ => m - (intOf i).toNat)
  case atStart => exact ⟨0, 0, Nat.zero_le _, rfl, rfl, by decide, by decide, Below.refl _ _, by decide, by rw [List.drop_zero]; exact hR.out.symm⟩
  case round =>
    obtain ⟨k, A, hk, rfl, rfl, hA0, hA1, Bk, hRk⟩ := hrel
    by_cases hlt : k < m
    · have hlt' : (k : Int) < (m : Int) := by omega
      obtain ⟨s, hs⟩ : ∃ s, p.steps[k]? = some s := ⟨_, List.getElem?_eq_getElem (by rw [← hmH.out]; exact hlt)⟩
      obtain ⟨q, o, rfl, hat⟩ := sH.out k s hs
      obtain ⟨y0, y1, y2, y3, y4, y5, y6⟩ := hat.below Bk.out
      have hdr : Hid (p.steps.drop k = s :: p.steps.drop (k + 1)) := by show _ = _; rw [List.drop_eq_getElem_cons (by rw [← hmH.out]; exact hlt)]; rw [List.getElem?_eq_getElem (by rw [← hmH.out]; exact hlt)] at hs; cases hs; rfl
      have hRs : Hid (R = bif (k == 65536) || !Kc.gdS s p.cells then (k : Int) else bif decide (67108864 < A + s.count) then (k : Int) else Kc.flt p.cells (k + 1) (A + s.count) (p.steps.drop (k + 1))) := by
        show _ = _; rw [hRk.out.2, hdr.out]; rfl
      obtain ⟨wb, ewb⟩ : ∃ wb, Hid (wr.alloc (.cells #[.int .i64 s.op, .int .i64 s.dst, .int .i64 s.src, .int .i64 s.jump, .int .i64 s.count, .int .i64 s.n, .int .i64 s.k] 39) = wb) := ⟨_, (rfl : _ = _)⟩
      obtain ⟨G, hG⟩ : ∃ g, Hid (wr.heap.size = g) := ⟨_, (rfl : _ = _)⟩
      have Bb : Hid (Below wa.heap.size wa wb) := by rw [← ewb.out]; exact Bk.out.alloc Bk.out.size _
      have S1 : Hid (Bst wb G s.op s.dst s.src s.jump s.count s.n s.k) := by show Bst _ _ _ _ _ _ _ _ _; rw [← ewb.out, ← hG.out]; exact Bst.new wr _ _ _ _ _ _ _
      have hgd : Hid (Calls Tryd.prog 22 #[sv s, .int .i64 p.cells] wb fun e w' => e = .returned (.bool (Kc.gdS s p.cells)) ∧ Below wb.heap.size wb w') := kgood_c s p.cells al wb (hOH.out.below (Bb.out.mono (Nat.le_refl _))) (heH.out.below Bb.out)
      obtain ⟨gb, hgb⟩ : ∃ b, Hid (Kc.gdS s p.cells = b) := ⟨_, (rfl : _ = _)⟩
      rw [hgb.out] at hgd hRs
      unfold sv sva at hgd
      clear hat hs hdr
      go_upto_region 5 with fail
      rw [ewb.out, hG.out]
      clear y0 y1 y2 y3 y4 y5 y6
      obtain ⟨x0, x1, x2, x3, x4⟩ := X1.out.below Bb.out
      obtain ⟨y0, y1, y2, y3, y4, y5, y6⟩ := S1.out
      by_cases h6 : k = 65536
      · obtain rfl : R = (k : Int) := by rw [hRs.out, beq_iff_eq.2 h6]; rfl
        have hB : Hid (Below w.heap.size w wb) := Ba.out.trans (Bb.out.mono Ba.out.size)
        have q1 : ((k : Int) == 65536) = true := by rw [h6]; rfl
        clear h6 hRs
        go_wp2
        go_ret
        exact ⟨rfl, hB.out⟩
      · have q1 : ((k : Int) == 65536) = false := by rw [beq_eq_false_iff_ne]; omega
        have h6' : (k == 65536) = false := beq_eq_false_iff_ne.2 h6
        go_wp2_with fail
        refine hgd.out.mono ?_
        rintro e w1 ⟨rfl, B1⟩
        have hB1 : Hid (Below wa.heap.size wa w1) := Bb.out.trans (B1.mono Bb.out.size)
        have S2 := S1.out.below B1
        clear x0 x1 x2 x3 x4 y0 y1 y2 y3 y4 y5 y6 B1 hgd
        obtain ⟨y0, y1, y2, y3, y4, y5, y6⟩ := S2
        cases gb with
        | false =>
          obtain rfl : R = (k : Int) := by rw [hRs.out, h6']; rfl
          clear hRs
          have hB : Hid (Below w.heap.size w w1) := Ba.out.trans (hB1.out.mono Ba.out.size)
          go_wp2
          go_ret
          exact ⟨rfl, hB.out⟩
        | true =>
          have hcb := gd_fm hgb.out
          obtain ⟨c, hc⟩ : ∃ c, Hid (s.count = c) := ⟨_, (rfl : _ = _)⟩
          rw [hc.out] at hcb hRs y4
          obtain ⟨A2, hA2⟩ : ∃ z, Hid (A + c = z) := ⟨_, (rfl : _ = _)⟩
          have e1 : wrap64 (A + c) = A2 := by rw [← hA2.out]; unfold wrap64; omega
          have hk6 : Hid (k + 1 ≤ 65536) := by have := hRk.out.1; show _ ≤ _; omega
          have hA3 : 0 ≤ A2 := by rw [← hA2.out]; omega
          rw [hA2.out, h6'] at hRs
          clear hcb
          by_cases hgt : 67108864 < A2
          · obtain rfl : R = (k : Int) := by rw [hRs.out, decide_eq_true hgt]; rfl
            clear hRs
            have hB : Hid (Below w.heap.size w w1) := Ba.out.trans (hB1.out.mono Ba.out.size)
            go_wp2
            go_ret
            exact ⟨rfl, hB.out⟩
          · have q2 : decide ((67108864 : Int) < A2) = false := decide_eq_false hgt
            have hRn : Hid (R = Kc.flt p.cells (k + 1) A2 (p.steps.drop (k + 1))) := by show _ = _; rw [hRs.out, q2]; rfl
            have hA4 : A2 ≤ 67108864 := by omega
            clear hRs hgt
            go_upto_region 10 with fail
            rw [e1]
            clear e1
            go_wp2
            go_roundw
            case rel => exact ⟨k + 1, A2, by omega, by go_num, rfl, hA3, hA4, hB1, hk6.out, hRn.out⟩
            case measure => simp [intOf]; omega
    · have hlt' : decide ((k : Int) < (m : Int)) = false := decide_eq_false (by omega)
      have hlt2 : ¬ k < m := hlt
      obtain rfl : R = -1 := by rw [hRk.out.2, List.drop_eq_nil_of_le (by have := hmH.out; omega)]; rfl
      go_wp2
      go_ret
      exact ⟨rfl, Ba.out.trans (Bk.out.mono Ba.out.size)⟩
end Go.Proofs.YtedfjedmapimnaaDoor
