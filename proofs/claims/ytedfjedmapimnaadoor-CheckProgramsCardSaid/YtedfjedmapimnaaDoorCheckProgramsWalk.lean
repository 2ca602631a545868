/-
  The statement CheckPrograms: the walk.
-/
import Derived.Test.YtedfjedmapimnaaDoorKa6
import Derived.Test.YtedfjedmapimnaaDoorLvv
import Derived.Test.YtedfjedmapimnaaDoorSd4
import Derived.Deep.RegionHeldLaw
namespace Go.Proofs.YtedfjedmapimnaaDoor
open Flo Go.RowKit
theorem pgeq_self (p : Sp.Pg) : pgeq p p = true := pgeq_iff.2 rfl
set_option maxHeartbeats 8000000 in
set_option maxRecDepth 100000 in
theorem checkPrograms.walk (p : Sp.Pg) (ao : Option Addr) (c : Nat) (al : List Addr) (w : World) (hs : Ss w ao p.steps) (hc : ao = none → c = 0) (hb : p.steps.length * 56 ≤ 140737488351232) (hE : Errs w al) (hO : Ops w) (he : Pe w al) :
    Calls Tryd.prog 3 #[pv p (.slice ao p.steps.length c)] w fun e w' => e = .returned (.bool true) ∧ Below w.heap.size w w' := by
  obtain ⟨g, hg⟩ : ∃ g, Hid (w.heap.size = g) := ⟨_, (rfl : _ = _)⟩
  obtain ⟨n, hn⟩ : ∃ n, Hid (p.steps.length = n) := ⟨_, (rfl : _ = _)⟩
  rw [hn.out] at hb ⊢
  obtain ⟨wa, ewa⟩ : ∃ wa, Hid (w.alloc (.cells #[.int .i64 p.len, .int .i64 p.cells, .int .i64 p.inn, .int .i64 p.out, .slice ao n c] 24) = wa) := ⟨_, (rfl : _ = _)⟩
  have Ba : Hid (Below w.heap.size w wa) := by rw [← ewa.out]; exact (Below.refl _ _).alloc (Nat.le_refl _) _
  have X1 : Hid (Bpg wa g p (.slice ao n c)) := by show Bpg _ _ _ _; rw [← ewa.out, ← hg.out]; exact Bpg.new w p _
  have sH : Hid (Ss w ao p.steps) := hs
  have EH : Hid (Errs w al) := hE
  have OH : Hid (Ops w) := hO
  have PH : Hid (Pe w al) := he
  have bH : Hid (n * 56 ≤ 140737488351232) := hb
  have cH : Hid (ao = none → c = 0) := hc
  clear hs hc hb hE hO he
  have bl : Hid (∀ W, Below wa.heap.size wa W → Below w.heap.size w W) := fun W hW => Ba.out.trans (hW.mono Ba.out.size)
  have hlv : Hid (Calls Tryd.prog 5 #[] wa fun e w' => e = .returned (.bool true) ∧ Below wa.heap.size wa w') := lives18_c al wa (EH.out.below Ba.out) (OH.out.below (Ba.out.mono (Nat.le_refl _))) (PH.out.below Ba.out)
  have hwk : Hid (∀ W, Below wa.heap.size wa W → Calls Tryd.prog 6 #[.agg #[.int .i64 p.len, .int .i64 p.cells, .int .i64 p.inn, .int .i64 p.out, .slice ao n c]] W fun e w' => (∃ N : Int, e = .returned (.int .i64 N) ∧ WkP p.steps N) ∧ Below W.heap.size W w') := fun W hW => work18_c p ao n c W (sH.out.below (bl.out W hW)) hn.out.symm (by have := bH.out; omega)
  have hcp : Hid (∀ W, Below wa.heap.size wa W → Calls Tryd.prog 7 #[.agg #[.int .i64 p.len, .int .i64 p.cells, .int .i64 p.inn, .int .i64 p.out, .slice ao n c]] W fun e w' => CpE p n W e w') := fun W hW => copied18_c p ao n c W (sH.out.below (bl.out W hW)) cH.out hn.out.symm bH.out
  unfold pv
  go_enter Tryd.func3, Tryd.ntmps3
  go_upto_region 1 with fail
  rw [ewa.out, hg.out]
  go_wp2_with fail
  refine hlv.out.mono ?_
  rintro e w1 ⟨rfl, B1'⟩
  have B1 : Hid (Below wa.heap.size wa w1) := B1'
  obtain ⟨x0, x1, x2, x3, x4⟩ := X1.out.below B1'
  clear hlv B1'
  go_wp2_with fail
  refine (hwk.out w1 B1.out).mono ?_
  rintro e w2 ⟨⟨N, rfl, -⟩, B2'⟩
  have B2 : Hid (Below wa.heap.size wa w2) := B1.out.trans (B2'.mono B1.out.size)
  clear x0 x1 x2 x3 x4 B2' hwk
  by_cases hN : 4194304 < N
  · have hB : Hid (Below w.heap.size w w2) := bl.out _ B2.out
    go_wp2
    go_ret
    exact ⟨rfl, hB.out⟩
  have hN' : decide (4194304 < N) = false := decide_eq_false hN
  clear hN
  obtain ⟨x0, x1, x2, x3, x4⟩ := X1.out.below B2.out
  go_wp2_with fail
  refine (hcp.out w2 B2.out).mono ?_
  rintro e w4 ⟨q, cap, rfl, O4, B4'⟩
  have B4 : Hid (Below wa.heap.size wa w4) := B2.out.trans (B4'.mono B2.out.size)
  have S4 : Hid (Ss w4 (some ⟨q, 0, none⟩) p.steps) := by
    obtain ⟨ao', cap', e9, h9⟩ := OwS.ss O4
    injection e9 with e1
    rw [e1]
    exact h9.pre
  have C4 : Hid (w4.cell? ⟨q, n * 7, none⟩ = some (.int .i64 (-77))) := by
    obtain ⟨ao', cap', e9, h9⟩ := OwS.ss O4
    injection e9 with e1
    obtain ⟨q', o', e2, h2⟩ := h9 n s77 (by rw [← hn.out]; simp)
    rw [← e1] at e2
    injection e2 with e2
    injection e2 with e3 e4
    have h0 := h2.c0
    subst e3
    show _ = _
    subst e4
    simpa [s77] using h0
  clear x0 x1 x2 x3 x4 B4' hcp O4
  unfold pv
  obtain ⟨g3, hg3⟩ : ∃ z, Hid (w4.heap.size = z) := ⟨_, (rfl : _ = _)⟩
  obtain ⟨w5, ew5⟩ : ∃ z, Hid (w4.alloc (.cells #[.int .i64 p.len, .int .i64 p.cells, .int .i64 p.inn, .int .i64 p.out, .slice (some ⟨q, 0, none⟩) n cap] 24) = z) := ⟨_, (rfl : _ = _)⟩
  have B45 : Hid (Below w4.heap.size w4 w5) := by rw [← ew5.out]; exact (Below.refl _ _).alloc (Nat.le_refl _) _
  have B5 : Hid (Below wa.heap.size wa w5) := B4.out.trans (B45.out.mono B4.out.size)
  have Y5 : Hid (Bpg w5 g3 p (.slice (some ⟨q, 0, none⟩) n cap)) := by show Bpg _ _ _ _; rw [← ew5.out, ← hg3.out]; exact Bpg.new w4 p _
  have X5 : Hid (Bpg w5 g p (.slice ao n c)) := X1.out.below B5.out
  have S5 : Hid (Ss w5 (some ⟨q, 0, none⟩) p.steps) := S4.out.below B45.out
  have C5 : Hid (w5.cell? ⟨q, n * 7, none⟩ = some (.int .i64 (-77))) := (B45.out.cell (cell_lt C4.out)).trans C4.out
  have s5 : Hid (Ss w5 ao p.steps) := sH.out.below (bl.out _ B5.out)
  have E5 : Hid (Errs w5 al) := EH.out.below (bl.out _ B5.out)
  have O5 : Hid (Ops w5) := OH.out.below ((bl.out _ B5.out).mono (Nat.le_refl _))
  have P5 : Hid (Pe w5 al) := PH.out.below (bl.out _ B5.out)
  have b5 : Hid (n ≤ 140737488355328) := by have := bH.out; show _ ≤ _; omega
  have tr : Hid (∀ W W', Below w5.heap.size w5 W → Below W.heap.size W W' → Below w5.heap.size w5 W') := fun W W' h1 h2 => h1.trans (h2.mono h1.size)
  go_upto_region 6 with fail
  rw [ew5.out, hg3.out]
  clear ew5 hg3 ewa hg X1 B1 B2 B4 S4 C4 B45 hN'
  have kA : Hid (∀ W, Below w5.heap.size w5 W → Calls Tryd.prog 8 #[.agg #[.int .i64 p.len, .int .i64 p.cells, .int .i64 p.inn, .int .i64 p.out, .slice (some ⟨q, 0, none⟩) n cap]] W fun e w' => e = .returned (.tuple #[.int .i64 (bif Kc.chk p then Kc.sumc p.steps else 0), fev al (Kc.chk p)]) ∧ Below w5.heap.size w5 w') := fun W hW => (kacts_c p _ n cap al W (S5.out.below hW) hn.out.symm b5.out (O5.out.below (hW.mono (Nat.le_refl _))) (P5.out.below hW)).mono fun e w' ⟨h1, h2⟩ => ⟨h1, tr.out W w' hW h2⟩
  have kC : Hid (∀ W, Below w5.heap.size w5 W → Calls Tryd.prog 11 #[.agg #[.int .i64 p.len, .int .i64 p.cells, .int .i64 p.inn, .int .i64 p.out, .slice (some ⟨q, 0, none⟩) n cap]] W fun e w' => e = .returned (fev al (Kc.chk p)) ∧ Below w5.heap.size w5 w') := fun W hW => (kcheck_c p _ n cap al W (S5.out.below hW) hn.out.symm b5.out (O5.out.below (hW.mono (Nat.le_refl _))) (P5.out.below hW)).mono fun e w' ⟨h1, h2⟩ => ⟨h1, tr.out W w' hW h2⟩
  have kF : Hid (∀ W, Below w5.heap.size w5 W → Calls Tryd.prog 13 #[.agg #[.int .i64 p.len, .int .i64 p.cells, .int .i64 p.inn, .int .i64 p.out, .slice (some ⟨q, 0, none⟩) n cap]] W fun e w' => e = .returned (.int .i64 (Kc.flt p.cells 0 0 p.steps)) ∧ Below w5.heap.size w5 w') := fun W hW => (kfault_c p _ n cap al W (S5.out.below hW) hn.out.symm b5.out (O5.out.below (hW.mono (Nat.le_refl _))) (P5.out.below hW)).mono fun e w' ⟨h1, h2⟩ => ⟨h1, tr.out W w' hW h2⟩
  have dA : Hid (∀ W, Below w5.heap.size w5 W → Calls Tryd.prog 9 #[.agg #[.int .i64 p.len, .int .i64 p.cells, .int .i64 p.inn, .int .i64 p.out, .slice ao n c]] W fun e w' => e = .returned (.tuple #[.int .i64 (bif Kc.chk p then Kc.sumc p.steps else 0), .int .i64 (fnn (Kc.chk p))]) ∧ Below w5.heap.size w5 w') := fun W hW => (dacts_c p ao n c W (s5.out.below hW) hn.out.symm b5.out).mono fun e w' ⟨h1, h2⟩ => ⟨h1, tr.out W w' hW h2⟩
  have dC : Hid (∀ W, Below w5.heap.size w5 W → Calls Tryd.prog 12 #[.agg #[.int .i64 p.len, .int .i64 p.cells, .int .i64 p.inn, .int .i64 p.out, .slice ao n c]] W fun e w' => e = .returned (.int .i64 (fnn (Kc.chk p))) ∧ Below w5.heap.size w5 w') := fun W hW => (dcheck_c p ao n c W (s5.out.below hW) hn.out.symm b5.out).mono fun e w' ⟨h1, h2⟩ => ⟨h1, tr.out W w' hW h2⟩
  have dF : Hid (∀ W, Below w5.heap.size w5 W → Calls Tryd.prog 14 #[.agg #[.int .i64 p.len, .int .i64 p.cells, .int .i64 p.inn, .int .i64 p.out, .slice ao n c]] W fun e w' => e = .returned (.int .i64 (Kc.flt p.cells 0 0 p.steps)) ∧ Below w5.heap.size w5 w') := fun W hW => (dfault_c p ao n c W (s5.out.below hW) hn.out.symm b5.out).mono fun e w' ⟨h1, h2⟩ => ⟨h1, tr.out W w' hW h2⟩
  have dN : Hid (∀ W, Below w5.heap.size w5 W → Calls Tryd.prog 10 #[fev al (Kc.chk p)] W fun e w' => e = .returned (.int .i64 (fnn (Kc.chk p))) ∧ Below w5.heap.size w5 w') := fun W hW => (num_fe8 al _ W (E5.out.below hW)).mono fun e w' ⟨h1, h2⟩ => ⟨h1, tr.out W w' hW h2⟩
  have dS : Hid (∀ W, Below w5.heap.size w5 W → Calls Tryd.prog 15 #[.agg #[.int .i64 p.len, .int .i64 p.cells, .int .i64 p.inn, .int .i64 p.out, .slice (some ⟨q, 0, none⟩) n cap], .agg #[.int .i64 p.len, .int .i64 p.cells, .int .i64 p.inn, .int .i64 p.out, .slice ao n c]] W fun e w' => e = .returned (.bool true) ∧ Below w5.heap.size w5 w') := fun W hW => (dsame_c p p _ ao n n cap c W (S5.out.below hW) (s5.out.below hW) hn.out.symm hn.out.symm b5.out).mono fun e w' ⟨h1, h2⟩ => ⟨by rw [h1, pgeq_self], tr.out W w' hW h2⟩
  obtain ⟨F, hF⟩ : ∃ z, Hid (Kc.flt p.cells 0 0 p.steps = z) := ⟨_, (rfl : _ = _)⟩
  obtain ⟨E, hE⟩ : ∃ z, Hid (fev al (Kc.chk p) = z) := ⟨_, (rfl : _ = _)⟩
  obtain ⟨K, hK⟩ : ∃ z, Hid (fnn (Kc.chk p) = z) := ⟨_, (rfl : _ = _)⟩
  obtain ⟨T, hT⟩ : ∃ z, Hid ((bif Kc.chk p then Kc.sumc p.steps else 0) = z) := ⟨_, (rfl : _ = _)⟩
  rw [hF.out] at kF dF
  rw [hE.out] at kA kC dN
  rw [hK.out] at dA dC dN
  rw [hT.out] at kA dA
  obtain ⟨N1, hN1⟩ : ∃ z, Hid (n + 1 = z) := ⟨_, (rfl : _ = _)⟩
  rw [hN1.out]
  have hnn : (n : Int) < (N1 : Int) := by have := hN1.out; omega
  have hnn0 : (0 : Int) ≤ (n : Int) := by omega
  obtain ⟨L, hL⟩ : ∃ z, Hid (p.len = z) := ⟨_, (rfl : _ = _)⟩
  have Y5c := Y5.out
  have hB5 : Hid (Below w.heap.size w w5) := bl.out _ B5.out
  obtain ⟨z0, z1, z2, z3, z4⟩ := Y5.out
  clear hF hE hK hT E5 O5 P5 B5 bl sH EH OH PH bH cH s5 S5 b5 tr hL Y5c
  go_wp2_with fail
  refine (kA.out w5 (Below.refl _ _)).mono ?_
  rintro e w6 ⟨rfl, B6'⟩
  have B6 : Hid (Below w5.heap.size w5 w6) := B6'
  clear z0 z1 z2 z3 z4 B6' kA
  obtain ⟨x0, x1, x2, x3, x4⟩ := X5.out.below B6.out
  go_wp2_with fail
  refine (dA.out w6 B6.out).mono ?_
  rintro e w7 ⟨rfl, B7⟩
  have B7H : Hid (Below w5.heap.size w5 w7) := B7
  clear x0 x1 x2 x3 x4 dA
  obtain ⟨x0, x1, x2, x3, x4⟩ := X5.out.below B7
  obtain ⟨z0, z1, z2, z3, z4⟩ := Y5.out.below B7
  have c0 := (B7.cell (cell_lt C5.out)).trans C5.out
  go_upto_region 8 with fail
  go_region_held3 (fun Z => Z.cell? ⟨g, 0, none⟩ = some (.int .i64 p.len) ∧ Z.cell? ⟨g, 1, none⟩ = some (.int .i64 p.cells) ∧ Z.cell? ⟨g, 2, none⟩ = some (.int .i64 p.inn) ∧ Z.cell? ⟨g, 3, none⟩ = some (.int .i64 p.out) ∧ Z.cell? ⟨g, 4, none⟩ = some (.slice ao n c) ∧ Z.cell? ⟨g3, 0, none⟩ = some (.int .i64 p.len) ∧ Z.cell? ⟨g3, 1, none⟩ = some (.int .i64 p.cells) ∧ Z.cell? ⟨g3, 2, none⟩ = some (.int .i64 p.inn) ∧ Z.cell? ⟨g3, 3, none⟩ = some (.int .i64 p.out) ∧ Z.cell? ⟨g3, 4, none⟩ = some (.slice (some ⟨q, 0, none⟩) n cap) ∧ Z.cell? ⟨q, n * 7, none⟩ = some (.int .i64 (-77))) (go_keep) ((first
    | (go_at_call 11; refine (kC.out _ ?_).mono ?_; (first | assumption | exact B7H.out | exact B7H.out.drew | exact Below.drew (by assumption)); rintro e w8 ⟨rfl, B8⟩; obtain ⟨x0, x1, x2, x3, x4⟩ := X5.out.below B8; obtain ⟨z0, z1, z2, z3, z4⟩ := Y5.out.below B8; have c0 := (B8.cell (cell_lt C5.out)).trans C5.out)
    | (go_at_call 10; refine (dN.out _ ?_).mono ?_; (first | assumption | exact B7H.out | exact B7H.out.drew | exact Below.drew (by assumption)); rintro e w8 ⟨rfl, B8⟩; obtain ⟨x0, x1, x2, x3, x4⟩ := X5.out.below B8; obtain ⟨z0, z1, z2, z3, z4⟩ := Y5.out.below B8; have c0 := (B8.cell (cell_lt C5.out)).trans C5.out)
    | (go_at_call 12; refine (dC.out _ ?_).mono ?_; (first | assumption | exact B7H.out | exact B7H.out.drew | exact Below.drew (by assumption)); rintro e w8 ⟨rfl, B8⟩; obtain ⟨x0, x1, x2, x3, x4⟩ := X5.out.below B8; obtain ⟨z0, z1, z2, z3, z4⟩ := Y5.out.below B8; have c0 := (B8.cell (cell_lt C5.out)).trans C5.out)
    | (go_at_call 13; refine (kF.out _ ?_).mono ?_; (first | assumption | exact B7H.out | exact B7H.out.drew | exact Below.drew (by assumption)); rintro e w8 ⟨rfl, B8⟩; obtain ⟨x0, x1, x2, x3, x4⟩ := X5.out.below B8; obtain ⟨z0, z1, z2, z3, z4⟩ := Y5.out.below B8; have c0 := (B8.cell (cell_lt C5.out)).trans C5.out)
    | (go_at_call 14; refine (dF.out _ ?_).mono ?_; (first | assumption | exact B7H.out | exact B7H.out.drew | exact Below.drew (by assumption)); rintro e w8 ⟨rfl, B8⟩; obtain ⟨x0, x1, x2, x3, x4⟩ := X5.out.below B8; obtain ⟨z0, z1, z2, z3, z4⟩ := Y5.out.below B8; have c0 := (B8.cell (cell_lt C5.out)).trans C5.out)
    | (go_at_call 15; refine (dS.out _ ?_).mono ?_; (first | assumption | exact B7H.out | exact B7H.out.drew | exact Below.drew (by assumption)); rintro e w8 ⟨rfl, B8⟩; obtain ⟨x0, x1, x2, x3, x4⟩ := X5.out.below B8; obtain ⟨z0, z1, z2, z3, z4⟩ := Y5.out.below B8; have c0 := (B8.cell (cell_lt C5.out)).trans C5.out)
    | fail))
  have hB : Hid (Below w.heap.size w w8) := hB5.out.trans (B8.mono hB5.out.size)
  go_wp2
  go_ret
  exact ⟨rfl, by first | exact hB.out | exact hB.out.drew⟩
end Go.Proofs.YtedfjedmapimnaaDoor
