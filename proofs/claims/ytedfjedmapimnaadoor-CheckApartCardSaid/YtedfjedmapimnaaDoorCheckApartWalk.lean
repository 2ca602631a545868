/-
  The statement CheckApart: the walk.
-/
import Derived.Test.YtedfjedmapimnaaDoorKa8
import Derived.Test.YtedfjedmapimnaaDoorKa6
import Derived.Test.YtedfjedmapimnaaDoorLvv
import Derived.Test.YtedfjedmapimnaaDoorKtt
namespace Go.Proofs.YtedfjedmapimnaaDoor
open Flo Go.RowKit
theorem all_gd (cells : Int) : ∀ (l : List Sp.St) (i : Nat) (a : Int), Kc.flt cells i a l < 0 → ∀ s ∈ l, Kc.gdS s cells = true
  | [], _, _, _, s, h => by simp at h
  | t :: l, i, a, hf, s, h => by
    obtain ⟨h1, h2, h3, h4⟩ := flt_step cells i a t l hf
    rcases List.mem_cons.1 h with e | e
    · rw [e]; exact h2
    · exact all_gd cells l _ _ h4 s e
theorem chk_all {p : Sp.Pg} (h : Kc.chk p = true) : (1 ≤ p.cells ∧ p.cells ≤ 262144) ∧ ∀ s ∈ p.steps, Kc.gdS s p.cells = true := by
  unfold Kc.chk at h
  rw [Bool.and_eq_true, decide_eq_true_eq] at h
  have := (dhdf_iff p).1 h.1
  exact ⟨⟨this.2.2.1, this.2.2.2.1⟩, all_gd _ _ _ _ h.2⟩
theorem gd_parts {s : Sp.St} {cells : Int} (h : Kc.gdS s cells = true) : Sp.fm s = true ∧ (Kc.touS s).below cells = true ∧ (Kc.touS s).clash = false := by
  unfold Kc.gdS at h
  rw [Bool.and_eq_true, Bool.and_eq_true, Bool.not_eq_true'] at h
  exact ⟨h.1, h.2.1, h.2.2⟩
set_option maxHeartbeats 16000000 in
set_option maxRecDepth 100000 in
theorem checkApart.walk (p : Sp.Pg) (ao : Option Addr) (cp : Nat) (al : List Addr) (w : World) (hs : Ss w ao p.steps) (hb : p.steps.length * 56 ≤ 140737488351232) (hE : Errs w al) (hO : Ops w) (he : Pe w al) :
    Calls Tryd.prog 4 #[pv p (.slice ao p.steps.length cp)] w fun e w' => e = .returned (.bool true) ∧ Below w.heap.size w w' := by
  obtain ⟨g, hg⟩ : ∃ g, Hid (w.heap.size = g) := ⟨_, (rfl : _ = _)⟩
  obtain ⟨m, hm⟩ : ∃ n, Hid (p.steps.length = n) := ⟨_, (rfl : _ = _)⟩
  rw [hm.out] at hb ⊢
  obtain ⟨wa, ewa⟩ : ∃ wa, Hid (w.alloc (.cells #[.int .i64 p.len, .int .i64 p.cells, .int .i64 p.inn, .int .i64 p.out, .slice ao m cp] 24) = wa) := ⟨_, (rfl : _ = _)⟩
  have Ba : Hid (Below w.heap.size w wa) := by rw [← ewa.out]; exact (Below.refl _ _).alloc (Nat.le_refl _) _
  have X1 : Hid (Bpg wa g p (.slice ao m cp)) := by show Bpg _ _ _ _; rw [← ewa.out, ← hg.out]; exact Bpg.new w p _
  have sH : Hid (Ss wa ao p.steps) := hs.below Ba.out
  have EH : Hid (Errs wa al) := hE.below Ba.out
  have OH : Hid (Ops wa) := hO.below (Ba.out.mono (Nat.le_refl _))
  have PH : Hid (Pe wa al) := he.below Ba.out
  have bH : Hid (m ≤ 140737488355328) := by show _ ≤ _; omega
  clear hs hb hE hO he
  have hlv : Hid (Calls Tryd.prog 5 #[] wa fun e w' => e = .returned (.bool true) ∧ Below wa.heap.size wa w') := lives18_c al wa EH.out OH.out PH.out
  have hwk : Hid (∀ W, Below wa.heap.size wa W → Calls Tryd.prog 6 #[pv p (.slice ao m cp)] W fun e w' => (∃ N : Int, e = .returned (.int .i64 N) ∧ WkP p.steps N) ∧ Below W.heap.size W w') := fun W hW => work18_c p ao m cp W (sH.out.below hW) hm.out.symm bH.out
  have hck : Hid (∀ W, Below wa.heap.size wa W → Calls Tryd.prog 11 #[pv p (.slice ao m cp)] W fun e w' => e = .returned (fev al (Kc.chk p)) ∧ Below W.heap.size W w') := fun W hW => kcheck_c p ao m cp al W (sH.out.below hW) hm.out.symm bH.out (OH.out.below (hW.mono (Nat.le_refl _))) (PH.out.below hW)
  obtain ⟨R, hR⟩ : ∃ z, Hid (Kc.chk p = z) := ⟨_, (rfl : _ = _)⟩
  have hall : Hid (R = true → (1 ≤ p.cells ∧ p.cells ≤ 262144) ∧ ∀ s ∈ p.steps, Kc.gdS s p.cells = true) := fun h => chk_all (hR.out.trans h)
  rw [hR.out] at hck
  clear hR
  obtain ⟨len, cells, inn, out, st⟩ := p
  simp only at hm ewa sH hwk hall
  unfold pv at *
  have hq := nnil_c al 8
  go_enter Tryd.func4, Tryd.ntmps4
  go_upto_region 1 with fail
  rw [ewa.out, hg.out]
  go_wp2_with fail
  refine hlv.out.mono ?_
  rintro e w1 ⟨rfl, B1'⟩
  have B1 : Hid (Below wa.heap.size wa w1) := B1'
  obtain ⟨x0, x1, x2, x3, x4⟩ := X1.out.below B1'
  clear hlv B1'
  go_wp2_with fail
  refine (hwk.out w1 B1.out).mono ?_
  rintro e w2 ⟨⟨N, rfl, -⟩, B2'⟩
  have B2 : Hid (Below wa.heap.size wa w2) := B1.out.trans (B2'.mono B1.out.size)
  clear x0 x1 x2 x3 x4 B2' hwk
  by_cases hN : 262144 < N
  · have hB : Hid (Below w.heap.size w w2) := Ba.out.trans (B2.out.mono Ba.out.size)
    go_wp2
    go_ret
    exact ⟨rfl, hB.out⟩
  have hN' : decide (262144 < N) = false := decide_eq_false hN
  clear hN
  obtain ⟨x0, x1, x2, x3, x4⟩ := X1.out.below B2.out
  go_wp2_with fail
  refine (hck.out w2 B2.out).mono ?_
  rintro e w3 ⟨rfl, B3'⟩
  have B3 : Hid (Below wa.heap.size wa w3) := B2.out.trans (B3'.mono B2.out.size)
  clear x0 x1 x2 x3 x4 B3' hck
  cases R with
  | false =>
    have hB : Hid (Below w.heap.size w w3) := Ba.out.trans (B3.out.mono Ba.out.size)
    have e1 : fev al false = ek al 8 := rfl
    rw [e1]
    have hgd := guard_c al 8
    have hp := PH.out.below B3.out
    unfold Pe at hp
    go_wp2
    go_ret
    exact ⟨rfl, hB.out⟩
  | true =>
  have e1 : fev al true = .nilIface := rfl
  rw [e1]
  clear e1 hq
  obtain ⟨⟨hC1, hC2⟩, hgs⟩ := hall.out rfl
  have hgsH : Hid (∀ s ∈ st, Kc.gdS s cells = true) := hgs
  obtain ⟨C, rfl⟩ : ∃ C : Nat, cells = (C : Int) := ⟨cells.toNat, by omega⟩
  have hCb : C ≤ 262144 := by omega
  clear hall hgs hC1 hC2 hN'
  obtain ⟨x0, x1, x2, x3, x4⟩ := X1.out.below B3.out
  go_wp2
  clear x0 x1 x2 x3 x4
  go_loopw [36] (fun i wr => ∃ (K : Nat), K ≤ m ∧ i = .int .i64 K ∧ Hid (Below wa.heap.size wa wr)) (fun i _ => m - (intOf i).toNat)
  case atStart => exact ⟨0, Nat.zero_le _, rfl, B3.out⟩
  case round =>
    obtain ⟨K, hK, rfl, Bk⟩ := hrel
    by_cases hlt : K < m
    · have hlt' : (K : Int) < (m : Int) := by omega
      obtain ⟨s, hs⟩ : ∃ s, st[K]? = some s := ⟨_, List.getElem?_eq_getElem (by rw [hm.out]; exact hlt)⟩
      obtain ⟨q0, o0, rfl, hat⟩ := sH.out K s hs
      obtain ⟨y0, y1, y2, y3, y4, y5, y6⟩ := hat.below Bk.out
      obtain ⟨hfm, hbw, hcs⟩ := gd_parts (hgsH.out s (List.mem_of_getElem? hs))
      have hlx : lx s = rdl s ∧ ly s = wrl s := by unfold lx ly; rw [hfm]; exact ⟨rfl, rfl⟩
      have hll := lx_len s
      rw [hlx.1, hlx.2] at hll
      have hkt : ∀ W, Below wa.heap.size wa W → Calls Tryd.prog 17 #[sv s] W fun e w' => ∃ va vb, e = .returned (.tuple #[va, vb, .nilIface]) ∧ TwoL w' W.heap.size va (rdl s) vb (wrl s) ∧ Below W.heap.size W w' := fun W hW => by
        have := kt_c s al W (OH.out.below (hW.mono (Nat.le_refl _))) (PH.out.below hW)
        rw [hfm, hlx.1, hlx.2] at this
        exact this
      obtain ⟨o, d, a, j, c, n, h1, h2, h3, h4, h5, h6, hFo, hn⟩ := fo_of hfm
      obtain ⟨op, dst, src, jump, count, nn, k⟩ := s
      simp only at h1 h2 h3 h4 h5 h6 y0 y1 y2 y3 y4 y5 y6
      subst h1 h2 h3 h4 h5 h6
      have hF : Hid (Kc.Fo o d a j c n) := hFo
      have hbw' : (Kc.tou o d a j c n).below (C : Int) = true := hbw
      have hcs' : (Kc.tou o d a j c n).clash = false := hcs
      have rIn : Hid (∀ i, i < c → ∀ x ∈ Kc.rds o d a j n i, x < C) := fun i hi x hx => by have := Kc.good_rd hFo hbw' hi hx; omega
      have wIn : Hid (∀ i, i < c → ∀ x ∈ Kc.wrs o d j n i, x < C) := fun i hi x hx => by have := Kc.good_wr hFo hbw' hi hx; omega
      have rAp : Hid (∀ i, i < c → ∀ x ∈ Kc.rds o d a j n i, Kc.bvl o d j c n c [] x = 0 ∨ Kc.bvl o d j c n c [] x = i + 1) := fun i hi x hx => by
        rw [Kc.bvl_end hFo]
        cases hw : Kc.wri o d j c n x with
        | none => exact Or.inl rfl
        | some b => exact Or.inr (by rw [Kc.good_ap hFo hcs' hi hx hw])
      have rdIff : Hid (∀ y, Kc.rvl o d a j n c [] y = true ↔ y ∈ rdl ⟨o, d, a, j, c, n, k⟩) := fun y => Kc.rvl_rd hFo y
      have wrIff : Hid (∀ y, Kc.bvl o d j c n c [] y ≠ 0 ↔ y ∈ wrl ⟨o, d, a, j, c, n, k⟩) := fun y => Kc.bvl_wr hFo y
      have rdS : Hid (Kc.SS (rdl ⟨o, d, a, j, c, n, k⟩) ∧ (∀ y ∈ rdl ⟨o, d, a, j, c, n, k⟩, y < C) ∧ (rdl ⟨o, d, a, j, c, n, k⟩).length ≤ 16777216) := ⟨Kc.cl_ss _, fun y hy => by
        have h1 := (Kc.rd_iff hFo y).1 ((Kc.cl_mem _ _).1 hy)
        obtain ⟨i, hi, hx⟩ := h1
        exact rIn.out i hi y hx, hll.1⟩
      have wrS : Hid (Kc.SS (wrl ⟨o, d, a, j, c, n, k⟩) ∧ (∀ y ∈ wrl ⟨o, d, a, j, c, n, k⟩, y < C) ∧ (wrl ⟨o, d, a, j, c, n, k⟩).length ≤ 16777216) := ⟨Kc.cl_ss _, fun y hy => by
        have h1 := (Kc.wr_iff hFo y).1 ((Kc.cl_mem _ _).1 hy)
        obtain ⟨i, hi, hx⟩ := h1
        exact wIn.out i hi y hx, hll.2⟩
      have hlen : Hid (∀ i, (Kc.rds o d a j n i).length ≤ 64 ∧ (Kc.wrs o d j n i).length ≤ 64) := fun i => rds_len hFo i
      have hcc : Hid (c ≤ 262144) := hFo.c2
      have hcb : c ≤ 262144 := hFo.c2
      have hact : Hid (∀ i, i < c → ∀ W, Calls Tryd.prog 16 #[.agg #[.int .i64 (o : Int), .int .i64 (d : Int), .int .i64 (a : Int), .int .i64 (j : Int), .int .i64 (c : Int), .int .i64 (n : Int), .int .i64 k], .int .i64 (i : Nat)] W fun e w' => AcE (Kc.rds o d a j n i) (Kc.wrs o d j n i) W e w') := fun i hi W => kact_c hFo i (by omega) k W
      have hktH : Hid (∀ W, Below wa.heap.size wa W → Calls Tryd.prog 17 #[.agg #[.int .i64 (o : Int), .int .i64 (d : Int), .int .i64 (a : Int), .int .i64 (j : Int), .int .i64 (c : Int), .int .i64 (n : Int), .int .i64 k]] W fun e w' => ∃ va vb, e = .returned (.tuple #[va, vb, .nilIface]) ∧ TwoL w' W.heap.size va (rdl ⟨o, d, a, j, c, n, k⟩) vb (wrl ⟨o, d, a, j, c, n, k⟩) ∧ Below W.heap.size W w') := hkt
      obtain ⟨LR, hLR⟩ : ∃ z, Hid (rdl ⟨o, d, a, j, c, n, k⟩ = z) := ⟨_, (rfl : _ = _)⟩
      obtain ⟨LW, hLW⟩ : ∃ z, Hid (wrl ⟨o, d, a, j, c, n, k⟩ = z) := ⟨_, (rfl : _ = _)⟩
      rw [hLR.out] at rdIff rdS
      rw [hLW.out] at wrIff wrS
      rw [hLR.out, hLW.out] at hktH
      obtain ⟨wb, ewb⟩ : ∃ wb, Hid (wr.alloc (.cells #[.int .i64 (o : Int), .int .i64 (d : Int), .int .i64 (a : Int), .int .i64 (j : Int), .int .i64 (c : Int), .int .i64 (n : Int), .int .i64 k] 39) = wb) := ⟨_, (rfl : _ = _)⟩
      obtain ⟨G, hG⟩ : ∃ g, Hid (wr.heap.size = g) := ⟨_, (rfl : _ = _)⟩
      have Bb : Hid (Below wa.heap.size wa wb) := by rw [← ewb.out]; exact Bk.out.alloc Bk.out.size _
      have S1 : Hid (Bst wb G o d a j c n k) := by show Bst _ _ _ _ _ _ _ _ _; rw [← ewb.out, ← hG.out]; exact Bst.new wr _ _ _ _ _ _ _
      clear hat hs hfm hbw hcs hlx hll hkt hFo hbw' hcs' hLR hLW hn
      go_upto_region 8 with fail
      rw [ewb.out, hG.out]
      clear y0 y1 y2 y3 y4 y5 y6
      obtain ⟨x0, x1, x2, x3, x4⟩ := X1.out.below Bb.out
      obtain ⟨g1, hg1⟩ : ∃ z, Hid (wb.heap.size = z) := ⟨_, (rfl : _ = _)⟩
      obtain ⟨wc, hmk1, A1, Bc⟩ := makeI8 wb C hCb
      rw [hg1.out] at hmk1 A1 Bc
      go_upto_region 9 with fail
      clear x0 x1 x2 x3 x4 hmk1
      obtain ⟨x0, x1, x2, x3, x4⟩ := X1.out.below (Bb.out.trans (Bc.out.mono (by have := Bb.out.size; have := hg1.out; omega)))
      obtain ⟨g2, hg2⟩ : ∃ z, Hid (wc.heap.size = z) := ⟨_, (rfl : _ = _)⟩
      obtain ⟨wd, hmk2, A2, Bd⟩ := makeB8 wc C hCb
      rw [hg2.out] at hmk2 A2 Bd
      have g12 : Hid (wa.heap.size ≤ g1 ∧ g1 < g2) := ⟨by have := Bb.out.size; have := hg1.out; omega, by have := A1.out.l; have := hg2.out; omega⟩
      have A1d : Hid (Arr wd g1 C fun x => .int .i64 ((Kc.bvl o d j c n 0 [] x : Nat) : Int)) := (A1.out.below (hg2.out ▸ Bd.out)).eq fun x _ => by rw [Kc.bvl_zero]; rfl
      have A2d : Hid (Arr wd g2 C fun x => .bool (Kc.rvl o d a j n 0 [] x)) := A2.out.eq fun x _ => by rw [Kc.rvl_zero]
      have B0 : Hid (Below g1 wb wd) := Bc.out.trans (Bd.out.mono (by have := g12.out; omega))
      have XX : Hid (∀ W, Below g1 wb W → Bpg W g ⟨len, C, inn, out, st⟩ (.slice (some ⟨q0, o0, none⟩) m cp) ∧ Bst W G o d a j c n k) := fun W hW => ⟨X1.out.below (Bb.out.trans (hW.mono (by have := g12.out; omega))), S1.out.below (hg1.out ▸ hW)⟩
      go_upto_region 10 with fail
      clear x0 x1 x2 x3 x4 hmk2
      go_wp2
      go_loopw [7] (fun i wr => ∃ (q : Nat), q ≤ c ∧ i = .int .i64 q ∧ Hid (Below g1 wb wr) ∧ Hid (Arr wr g1 C fun x => .int .i64 ((Kc.bvl o d j c n q [] x : Nat) : Int)) ∧ Hid (Arr wr g2 C fun x => .bool (Kc.rvl o d a j n 0 [] x))) (fun i _ => c - (intOf i).toNat)
      case atStart => exact ⟨0, Nat.zero_le _, rfl, B0.out, A1d.out, A2d.out⟩
      case round =>
        obtain ⟨q, hq, rfl, Bq, AQ, RQ⟩ := hrel
        obtain ⟨⟨x0, x1, x2, x3, x4⟩, ⟨y0, y1, y2, y3, y4, y5, y6⟩⟩ := XX.out wr Bq.out
        by_cases hltq : q < c
        · have hltq' : (q : Int) < (c : Int) := by omega
          have ha := hact.out q hltq wr
          have hl := (hlen.out q).2
          obtain ⟨wl, hwl⟩ : ∃ z, Hid (Kc.wrs o d j n q = z) := ⟨_, (rfl : _ = _)⟩
          rw [hwl.out] at ha hl
          have haH : Hid (Calls Tryd.prog 16 #[.agg #[.int .i64 (o : Int), .int .i64 (d : Int), .int .i64 (a : Int), .int .i64 (j : Int), .int .i64 (c : Int), .int .i64 (n : Int), .int .i64 k], .int .i64 (q : Nat)] wr fun e w' => AcE (Kc.rds o d a j n q) wl wr e w') := ha
          have hsz : Hid (g2 < wr.heap.size) := RQ.out.l
          clear ha x0 x1 x2 x3 x4
          go_wp2_with fail
          refine haH.out.mono ?_
          rintro e w5 ⟨v1, v2, rfl, -, ⟨ao2, cp2, rfl, hr2⟩, B5, -, hnw⟩
          have hr2H : Hid (wl ≠ [] → ∃ b off, ao2 = some ⟨b, off, none⟩ ∧ b < w5.heap.size ∧ ∀ i, i < wl.length → w5.cell? ⟨b, off + i, none⟩ = some (.int .i64 ((wl.getD i 0 : Nat) : Int))) := hr2
          have hnwH : Hid (∀ b, (Value.slice ao2 wl.length cp2).ownBlock = some b → wr.heap.size ≤ b) := hnw
          have Bq5 : Hid (Below g1 wb w5) := Bq.out.trans (B5.mono (by have := g12.out; have := hsz.out; omega))
          have AQ5 : Hid (Arr w5 g1 C fun x => .int .i64 ((Kc.bvl o d j c n q (wl.take 0) x : Nat) : Int)) := by rw [List.take_zero]; exact AQ.out.below B5
          have RQ5 : Hid (Arr w5 g2 C fun x => .bool (Kc.rvl o d a j n 0 [] x)) := RQ.out.below B5
          obtain ⟨n2, hn2⟩ : ∃ n, Hid (wl.length = n) := ⟨_, (rfl : _ = _)⟩
          rw [hn2.out] at hl ⊢
          clear y0 y1 y2 y3 y4 y5 y6 haH hr2 hnw
          have B5H : Hid (Below wr.heap.size wr w5) := B5
          clear B5
          go_wp2
          go_loopw [60] (fun i wz => ∃ (t : Nat), t ≤ n2 ∧ i = .int .i64 t ∧ Hid (Below g1 wb wz) ∧ Hid (Arr wz g1 C fun x => .int .i64 ((Kc.bvl o d j c n q (wl.take t) x : Nat) : Int)) ∧ Hid (Arr wz g2 C fun x => .bool (Kc.rvl o d a j n 0 [] x)) ∧ Hid (∀ b x v, b ≠ g1 → w5.cell? ⟨b, x, none⟩ = some v → wz.cell? ⟨b, x, none⟩ = some v)) (fun i _ => n2 - (intOf i).toNat)
          case atStart => exact ⟨0, Nat.zero_le _, rfl, Bq5.out, AQ5.out, RQ5.out, fun b x v _ h => h⟩
          case round =>
            obtain ⟨t, ht, rfl, Bt, AT, RT, KP⟩ := hrel
            rename World => wt
            obtain ⟨⟨x0, x1, x2, x3, x4⟩, -⟩ := XX.out wt Bt.out
            by_cases hltt : t < n2
            · have hltt' : (t : Int) < (n2 : Int) := by omega
              have htl : t < wl.length := by rw [hn2.out]; exact hltt
              obtain ⟨b, off, rfl, -, hc⟩ := hr2H.out (fun e => by rw [e] at htl; simp at htl)
              have hbg : b ≠ g1 := by
                have h7 := hnwH.out b (by simp [Value.ownBlock])
                have := hsz.out
                have := g12.out
                omega
              have z1 := KP.out b (off + t) _ hbg (hc t htl)
              obtain ⟨X, hX⟩ : ∃ z, Hid (wl.getD t 0 = z) := ⟨_, (rfl : _ = _)⟩
              rw [hX.out] at z1
              have hmem : X ∈ wl := by
                rw [← hX.out, List.getD_eq_getElem?_getD, List.getElem?_eq_getElem htl]
                exact List.getElem_mem _
              have hXC : X < C := wIn.out q hltq X (by rw [hwl.out]; exact hmem)
              have hfree := Kc.bvl_free (x := X) hF.out hltq (p := t) (by rw [hwl.out]; exact htl) (by rw [hwl.out]; exact hX.out.symm)
              have hoth : ∀ y, y ≠ X → Kc.bvl o d j c n q (wl.take (t + 1)) y = Kc.bvl o d j c n q (wl.take t) y := fun y hy => by
                have := Kc.bvl_other (o := o) (d := d) (j := j) (c := c) (n := n) (i := q) (p := t) (x := X) (y := y) (by rw [hwl.out]; exact htl) (by rw [hwl.out]; exact hX.out.symm) hy
                rw [hwl.out] at this
                exact this
              rw [hwl.out] at hfree
              have z2 := AT.out.c X hXC
              rw [hfree.1] at z2
              have z3 := AT.out.z X
              have AN : Hid (Arr (wt.setCell ⟨g1, X, none⟩ (.int .i64 ((q : Int) + 1))) g1 C fun x => .int .i64 ((Kc.bvl o d j c n q (wl.take (t + 1)) x : Nat) : Int)) := AT.out.set hXC _ (by rw [hfree.2]; simp) (fun y hy => by rw [hoth y hy])
              have RN : Hid (Arr (wt.setCell ⟨g1, X, none⟩ (.int .i64 ((q : Int) + 1))) g2 C fun x => .bool (Kc.rvl o d a j n 0 [] x)) := RT.out.far (by have := g12.out; omega) _
              have BN : Hid (Below g1 wb (wt.setCell ⟨g1, X, none⟩ (.int .i64 ((q : Int) + 1)))) := Bt.out.setCell (p := ⟨g1, X, none⟩) (Nat.le_refl _) _
              have KN : Hid (∀ b x v, b ≠ g1 → w5.cell? ⟨b, x, none⟩ = some v → (wt.setCell ⟨g1, X, none⟩ (.int .i64 ((q : Int) + 1))).cell? ⟨b, x, none⟩ = some v) := fun b x v hb h => by
                rw [World.cell?_setCell_far _ _ _ _ (by simpa using Ne.symm hb)]
                exact KP.out b x v hb h
              have hXI : (X : Int) < (C : Int) := by omega
              have hX0 : decide ((X : Int) < 0) = false := decide_eq_false (by omega)
              have hX1 : decide ((C : Int) ≤ (X : Int)) = false := decide_eq_false (by omega)
              have hX2 : (0 : Int) ≤ (X : Int) := by omega
              have hX3 : ¬ C ≤ X := by omega
              clear hc hmem hfree hoth htl hX hXC
              obtain ⟨wn, ewn⟩ : ∃ z, Hid (wt.setCell ⟨g1, X, none⟩ (.int .i64 ((q : Int) + 1)) = z) := ⟨_, (rfl : _ = _)⟩
              rw [ewn.out] at AN RN BN KN
              go_upto_region 20 with fail
              rw [ewn.out]
              clear x0 x1 x2 x3 x4 z1 z2 z3
              go_wp2
              go_roundw
              case rel => exact ⟨t + 1, by omega, by go_num, BN, AN, RN, KN⟩
              case measure => simp [intOf]; omega
            · have hltt' : decide ((t : Int) < (n2 : Int)) = false := decide_eq_false (by omega)
              obtain rfl : t = n2 := by omega
              have AN : Hid (Arr wt g1 C fun x => .int .i64 ((Kc.bvl o d j c n (q + 1) [] x : Nat) : Int)) := AT.out.eq fun x _ => by
                rw [← Kc.bvl_next hF.out, hwl.out, List.take_of_length_le (by rw [hn2.out]; exact Nat.le_refl _)]
              clear x0 x1 x2 x3 x4 hr2H hnwH AT KP
              go_wp2
              go_roundw
              case rel => exact ⟨q + 1, by omega, by go_num, Bt, AN, RT⟩
              case measure => simp [intOf]; omega
        · have hltq' : decide ((q : Int) < (c : Int)) = false := decide_eq_false (by omega)
          obtain rfl : c = q := by omega
          go_wp2
          clear x0 x1 x2 x3 x4 y0 y1 y2 y3 y4 y5 y6
          go_loopw [12] (fun i wr => ∃ (q : Nat), q ≤ c ∧ i = .int .i64 q ∧ Hid (Below g1 wb wr) ∧ Hid (Arr wr g1 C fun x => .int .i64 ((Kc.bvl o d j c n c [] x : Nat) : Int)) ∧ Hid (Arr wr g2 C fun x => .bool (Kc.rvl o d a j n q [] x))) (fun i _ => c - (intOf i).toNat)
          case atStart => exact ⟨0, Nat.zero_le _, rfl, Bq, AQ, RQ⟩
          case round =>
            clear Bq AQ RQ
            obtain ⟨q, hq, rfl, Bq, AQ, RQ⟩ := hrel
            rename World => wq
            obtain ⟨⟨x0, x1, x2, x3, x4⟩, ⟨y0, y1, y2, y3, y4, y5, y6⟩⟩ := XX.out wq Bq.out
            by_cases hltq : q < c
            · have hltq' : (q : Int) < (c : Int) := by omega
              have ha := hact.out q hltq wq
              have hl := (hlen.out q).1
              have rIq := rIn.out q hltq
              have rAq := rAp.out q hltq
              obtain ⟨rl, hrl⟩ : ∃ z, Hid (Kc.rds o d a j n q = z) := ⟨_, (rfl : _ = _)⟩
              rw [hrl.out] at ha hl rIq rAq
              have rIqH : Hid (∀ x ∈ rl, x < C) := rIq
              have rAqH : Hid (∀ x ∈ rl, Kc.bvl o d j c n c [] x = 0 ∨ Kc.bvl o d j c n c [] x = q + 1) := rAq
              have haH : Hid (Calls Tryd.prog 16 #[.agg #[.int .i64 (o : Int), .int .i64 (d : Int), .int .i64 (a : Int), .int .i64 (j : Int), .int .i64 (c : Int), .int .i64 (n : Int), .int .i64 k], .int .i64 (q : Nat)] wq fun e w' => AcE rl (Kc.wrs o d j n q) wq e w') := ha
              have hsz : Hid (g2 < wq.heap.size) := RQ.out.l
              clear ha rIq rAq x0 x1 x2 x3 x4
              go_wp2_with fail
              refine haH.out.mono ?_
              rintro e w5 ⟨v1, v2, rfl, ⟨ao2, cp2, rfl, hr2⟩, -, B5, hnw, -⟩
              have hr2H : Hid (rl ≠ [] → ∃ b off, ao2 = some ⟨b, off, none⟩ ∧ b < w5.heap.size ∧ ∀ i, i < rl.length → w5.cell? ⟨b, off + i, none⟩ = some (.int .i64 ((rl.getD i 0 : Nat) : Int))) := hr2
              have hnwH : Hid (∀ b, (Value.slice ao2 rl.length cp2).ownBlock = some b → wq.heap.size ≤ b) := hnw
              have Bq5 : Hid (Below g1 wb w5) := Bq.out.trans (B5.mono (by have := g12.out; have := hsz.out; omega))
              have AQ5 : Hid (Arr w5 g1 C fun x => .int .i64 ((Kc.bvl o d j c n c [] x : Nat) : Int)) := AQ.out.below B5
              have RQ5 : Hid (Arr w5 g2 C fun x => .bool (Kc.rvl o d a j n q (rl.take 0) x)) := by rw [List.take_zero]; exact RQ.out.below B5
              obtain ⟨n2, hn2⟩ : ∃ n, Hid (rl.length = n) := ⟨_, (rfl : _ = _)⟩
              rw [hn2.out] at hl ⊢
              clear y0 y1 y2 y3 y4 y5 y6 haH hr2 hnw AQ RQ
              clear B5
              go_wp2
              go_loopw [99] (fun i wz => ∃ (t : Nat), t ≤ n2 ∧ i = .int .i64 t ∧ Hid (Below g1 wb wz) ∧ Hid (Arr wz g1 C fun x => .int .i64 ((Kc.bvl o d j c n c [] x : Nat) : Int)) ∧ Hid (Arr wz g2 C fun x => .bool (Kc.rvl o d a j n q (rl.take t) x)) ∧ Hid (∀ b x v, b ≠ g2 → w5.cell? ⟨b, x, none⟩ = some v → wz.cell? ⟨b, x, none⟩ = some v)) (fun i _ => n2 - (intOf i).toNat)
              case atStart => exact ⟨0, Nat.zero_le _, rfl, Bq5.out, AQ5.out, RQ5.out, fun b x v _ h => h⟩
              case round =>
                obtain ⟨t, ht, rfl, Bt, AT, RT, KP⟩ := hrel
                rename World => wt
                obtain ⟨⟨x0, x1, x2, x3, x4⟩, -⟩ := XX.out wt Bt.out
                by_cases hltt : t < n2
                · have hltt' : (t : Int) < (n2 : Int) := by omega
                  have htl : t < rl.length := by rw [hn2.out]; exact hltt
                  obtain ⟨b, off, rfl, -, hc⟩ := hr2H.out (fun e => by rw [e] at htl; simp at htl)
                  have hbg : b ≠ g2 := by
                    have h7 := hnwH.out b (by simp [Value.ownBlock])
                    have := hsz.out
                    omega
                  have z1 := KP.out b (off + t) _ hbg (hc t htl)
                  obtain ⟨X, hX⟩ : ∃ z, Hid (rl.getD t 0 = z) := ⟨_, (rfl : _ = _)⟩
                  rw [hX.out] at z1
                  have hmem : X ∈ rl := by
                    rw [← hX.out, List.getD_eq_getElem?_getD, List.getElem?_eq_getElem htl]
                    exact List.getElem_mem _
                  have hXC : X < C := rIqH.out X hmem
                  have hbv := rAqH.out X hmem
                  have hset := Kc.rvl_set (o := o) (d := d) (s := a) (j := j) (n := n) (i := q) (p := t) (x := X) htl hX.out.symm
                  have hoth : ∀ y, y ≠ X → Kc.rvl o d a j n q (rl.take (t + 1)) y = Kc.rvl o d a j n q (rl.take t) y := fun y hy => Kc.rvl_other htl hX.out.symm hy
                  have z2 := AT.out.c X hXC
                  have z3 := RT.out.z X
                  have z4 := RT.out.c X hXC
                  obtain ⟨Y, hY⟩ : ∃ z, Hid (Kc.bvl o d j c n c [] X = z) := ⟨_, (rfl : _ = _)⟩
                  rw [hY.out] at z2 hbv
                  have AN : Hid (Arr (wt.setCell ⟨g2, X, none⟩ (.bool true)) g1 C fun x => .int .i64 ((Kc.bvl o d j c n c [] x : Nat) : Int)) := AT.out.far (by have := g12.out; omega) _
                  have RN : Hid (Arr (wt.setCell ⟨g2, X, none⟩ (.bool true)) g2 C fun x => .bool (Kc.rvl o d a j n q (rl.take (t + 1)) x)) := RT.out.set hXC _ (by rw [hset]) (fun y hy => by rw [hoth y hy])
                  have BN : Hid (Below g1 wb (wt.setCell ⟨g2, X, none⟩ (.bool true))) := Bt.out.setCell (p := ⟨g2, X, none⟩) (by have := g12.out; show g1 ≤ g2; omega) _
                  have KN : Hid (∀ b x v, b ≠ g2 → w5.cell? ⟨b, x, none⟩ = some v → (wt.setCell ⟨g2, X, none⟩ (.bool true)).cell? ⟨b, x, none⟩ = some v) := fun b x v hb h => by
                    rw [World.cell?_setCell_far _ _ _ _ (by simpa using Ne.symm hb)]
                    exact KP.out b x v hb h
                  have hXI : (X : Int) < (C : Int) := by omega
                  have hX0 : decide ((X : Int) < 0) = false := decide_eq_false (by omega)
                  have hX1 : decide ((C : Int) ≤ (X : Int)) = false := decide_eq_false (by omega)
                  have hX2 : (0 : Int) ≤ (X : Int) := by omega
                  have hX3 : ¬ C ≤ X := by omega
                  clear hc hmem hset hoth htl hX hXC hY
                  obtain ⟨wn, ewn⟩ : ∃ z, Hid (wt.setCell ⟨g2, X, none⟩ (.bool true) = z) := ⟨_, (rfl : _ = _)⟩
                  rw [ewn.out] at AN RN BN KN
                  have z5 : Y = 0 → wt.cell? ⟨g1, X, none⟩ = some (.int .i64 0) := fun e => by rw [e] at z2; exact z2
                  have z6 : Y = q + 1 → wt.cell? ⟨g1, X, none⟩ = some (.int .i64 ((q : Int) + 1)) := fun e => by rw [e] at z2; simpa using z2
                  rcases hbv with hbv | hbv
                  · have z7 := z5 hbv
                    clear z2 z5 z6 hbv
                    go_upto_region 31 with fail
                    rw [ewn.out]
                    clear x0 x1 x2 x3 x4 z1 z7 z3 z4
                    go_wp2
                    go_roundw
                    case rel => exact ⟨t + 1, by omega, by go_num, BN, AN, RN, KN⟩
                    case measure => simp [intOf]; omega
                  · have z7 := z6 hbv
                    have hq1 : (q : Int) + 1 ≠ 0 := by omega
                    clear z2 z5 z6 hbv
                    go_upto_region 31 with fail
                    rw [ewn.out]
                    clear x0 x1 x2 x3 x4 z1 z7 z3 z4
                    go_wp2
                    go_roundw
                    case rel => exact ⟨t + 1, by omega, by go_num, BN, AN, RN, KN⟩
                    case measure => simp [intOf]; omega
                · have hltt' : decide ((t : Int) < (n2 : Int)) = false := decide_eq_false (by omega)
                  obtain rfl : t = n2 := by omega
                  have RN : Hid (Arr wt g2 C fun x => .bool (Kc.rvl o d a j n (q + 1) [] x)) := RT.out.eq fun x _ => by
                    rw [← Kc.rvl_next, hrl.out, List.take_of_length_le (by rw [hn2.out]; exact Nat.le_refl _)]
                  clear x0 x1 x2 x3 x4 hr2H hnwH RT KP
                  go_wp2
                  go_roundw
                  case rel => exact ⟨q + 1, by omega, by go_num, Bt, AT, RN⟩
                  case measure => simp [intOf]; omega
            · have hltq' : decide ((q : Int) < (c : Int)) = false := decide_eq_false (by omega)
              obtain rfl : c = q := by omega
              obtain ⟨Z, hZ⟩ : ∃ z, Hid (wq.heap.size = z) := ⟨_, (rfl : _ = _)⟩
              have hgq : Hid (wa.heap.size ≤ Z ∧ g2 < Z) := ⟨by have := g12.out; have := RQ.out.l; have := hZ.out; omega, by have := RQ.out.l; have := hZ.out; omega⟩
              have Bwq : Hid (Below wa.heap.size wa wq) := Bb.out.trans (Bq.out.mono (by have := g12.out; omega))
              have hkq := hktH.out wq Bwq.out
              rw [hZ.out] at hkq
              clear x0 x1 x2 x3 x4
              go_wp2_with fail
              refine hkq.mono ?_
              rintro e w6 ⟨va, vb, rfl, hTL, B6'⟩
              have A6 : Hid (Arr w6 g1 C fun x => .int .i64 ((Kc.bvl o d j c n c [] x : Nat) : Int)) := AQ.out.below (by rw [hZ.out]; exact B6')
              have Bw6 : Hid (Below g1 wb w6) := Bq.out.trans (B6'.mono (by have := g12.out; have := hgq.out; omega))
              have hlb : Hid (RdI w6 vb LW) := RdI.of_own hTL.o2
              have told1 : Hid (Calls Tryd.prog 18 #[va, .slice (some ⟨g2, 0, none⟩) C C] w6 fun e w' => e = .returned (.bool true) ∧ w6 = w') := told_c va LR g2 C w6 (fun x => Kc.rvl o d a j n c [] x) (RdI.of_own hTL.o1) (RQ.out.below (by rw [hZ.out]; exact B6')) rdIff.out rdS.out.1 rdS.out.2.1 rdS.out.2.2 hCb
              clear hTL B6' hkq y0 y1 y2 y3 y4 y5 y6 AQ RQ hZ
              go_wp2_with fail
              refine told1.out.mono ?_
              rintro e w7 ⟨rfl, rfl⟩
              clear told1
              obtain ⟨⟨x0, x1, x2, x3, x4⟩, -⟩ := XX.out w6 Bw6.out
              obtain ⟨g3, hg3⟩ : ∃ z, Hid (w6.heap.size = z) := ⟨_, (rfl : _ = _)⟩
              obtain ⟨w8, hmk3, A3, B8⟩ := makeB8 w6 C hCb
              rw [hg3.out] at hmk3 A3 B8
              have g13 : Hid (g1 < g3) := by have := A6.out.l; have := hg3.out; show _ < _; omega
              go_upto_region 36 with fail
              clear x0 x1 x2 x3 x4 hmk3
              have A3d : Hid (Arr w8 g3 C fun y => .bool (decide (y < 0 ∧ Kc.bvl o d j c n c [] y ≠ 0))) := A3.out.eq fun x _ => by simp
              go_wp2
              go_loopw [150] (fun i wz => ∃ (x : Nat), x ≤ C ∧ i = .int .i64 x ∧ Hid (Below g3 w6 wz) ∧ Hid (Arr wz g3 C fun y => .bool (decide (y < x ∧ Kc.bvl o d j c n c [] y ≠ 0)))) (fun i _ => C - (intOf i).toNat)
              case atStart => exact ⟨0, Nat.zero_le _, rfl, B8.out, A3d.out⟩
              case round =>
                obtain ⟨x, hx, rfl, Bt, AT⟩ := hrel
                rename World => wt
                by_cases hltx : x < C
                · have hltx' : (x : Int) < (C : Int) := by omega
                  have z1 := (A6.out.below (by rw [hg3.out]; exact Bt.out)).c x hltx
                  have z3 := AT.out.z x
                  have z4 := AT.out.c x hltx
                  have hx2 : ¬ C ≤ x := by omega
                  have hoth : ∀ y, y ≠ x → decide (y < x + 1 ∧ Kc.bvl o d j c n c [] y ≠ 0) = decide (y < x ∧ Kc.bvl o d j c n c [] y ≠ 0) := fun y hy => decide_eq_decide.2 ⟨fun h => ⟨by omega, h.2⟩, fun h => ⟨by omega, h.2⟩⟩
                  obtain ⟨Y, hY⟩ : ∃ z, Hid (Kc.bvl o d j c n c [] x = z) := ⟨_, (rfl : _ = _)⟩
                  have hBB : ∀ b, Y = 0 ∧ b = false ∨ Y ≠ 0 ∧ b = true → Hid (Below g3 w6 (wt.setCell ⟨g3, x, none⟩ (.bool b))) ∧ Hid (Arr (wt.setCell ⟨g3, x, none⟩ (.bool b)) g3 C fun y => .bool (decide (y < x + 1 ∧ Kc.bvl o d j c n c [] y ≠ 0))) := fun b hb => ⟨Bt.out.setCell (p := ⟨g3, x, none⟩) (Nat.le_refl _) _, AT.out.set hltx _ (by
                    rw [hY.out]
                    rcases hb with ⟨h1, h2⟩ | ⟨h1, h2⟩
                    · rw [h1, h2]; simp
                    · rw [h2]; simp [h1]) (fun y hy => by rw [hoth y hy])⟩
                  rw [hY.out] at z1
                  clear hoth hY AT Bt
                  rcases Y with - | V
                  · obtain ⟨BN, AN⟩ := hBB false (Or.inl ⟨rfl, rfl⟩)
                    obtain ⟨wn, ewn⟩ : ∃ z, Hid (wt.setCell ⟨g3, x, none⟩ (.bool false) = z) := ⟨_, (rfl : _ = _)⟩
                    rw [ewn.out] at AN BN
                    have z5 : wt.cell? ⟨g1, x, none⟩ = some (.int .i64 0) := z1
                    clear z1 hBB
                    go_upto_region 40 with fail
                    rw [ewn.out]
                    clear z3 z4 z5
                    go_wp2
                    go_roundw
                    case rel => exact ⟨x + 1, by omega, by go_num, BN, AN⟩
                    case measure => simp [intOf]; omega
                  · obtain ⟨BN, AN⟩ := hBB true (Or.inr ⟨by omega, rfl⟩)
                    obtain ⟨wn, ewn⟩ : ∃ z, Hid (wt.setCell ⟨g3, x, none⟩ (.bool true) = z) := ⟨_, (rfl : _ = _)⟩
                    rw [ewn.out] at AN BN
                    have z5 : wt.cell? ⟨g1, x, none⟩ = some (.int .i64 ((V : Int) + 1)) := by simpa using z1
                    have hq1 : (V : Int) + 1 ≠ 0 := by omega
                    have hq2 : ((V : Int) + 1 != 0) = true := by simpa using hq1
                    clear z1 hBB
                    go_upto_region 40 with fail
                    rw [ewn.out]
                    clear z3 z4 z5
                    go_wp2
                    go_roundw
                    case rel => exact ⟨x + 1, by omega, by go_num, BN, AN⟩
                    case measure => simp [intOf]; omega
                · have hltx' : decide ((x : Int) < (C : Int)) = false := decide_eq_false (by omega)
                  obtain rfl : C = x := by omega
                  have B9 : Hid (Below wa.heap.size wa wt) := Bb.out.trans ((Bw6.out.trans (Bt.out.mono (by have := g13.out; omega))).mono (by have := g12.out; omega))
                  have told2 : Hid (Calls Tryd.prog 18 #[vb, .slice (some ⟨g3, 0, none⟩) C C] wt fun e w' => e = .returned (.bool true) ∧ wt = w') := told_c vb LW g3 C wt (fun y => decide (y < C ∧ Kc.bvl o d j c n c [] y ≠ 0)) (hlb.out.below (by rw [hg3.out]; exact Bt.out)) AT.out (fun y => by
                    rw [decide_eq_true_eq]
                    exact ⟨fun h => (wrIff.out y).1 h.2, fun h => ⟨wrS.out.2.1 y h, (wrIff.out y).2 h⟩⟩) wrS.out.1 wrS.out.2.1 wrS.out.2.2 hCb
                  clear AT Bt
                  go_wp2_with fail
                  refine told2.out.mono ?_
                  rintro e w7 ⟨rfl, rfl⟩
                  have hmb := bH.out
                  go_wp2
                  go_roundw
                  case rel => exact ⟨K + 1, by omega, by go_num, B9⟩
                  case measure => simp [intOf]; omega
    · have hlt' : decide ((K : Int) < (m : Int)) = false := decide_eq_false (by omega)
      have hB : Hid (Below w.heap.size w wr) := Ba.out.trans (Bk.out.mono Ba.out.size)
      go_wp2
      go_ret
      exact ⟨rfl, hB.out⟩
end Go.Proofs.YtedfjedmapimnaaDoor
