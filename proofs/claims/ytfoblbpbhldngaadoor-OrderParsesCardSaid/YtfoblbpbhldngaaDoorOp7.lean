/-
  The document's Parse.
-/
import Derived.Test.YtfoblbpbhldngaaDoorOp5
import Derived.Test.YtfoblbpbhldngaaDoorOq5
import Derived.Test.YtfoblbpbhldngaaDoorOd3
namespace Go.Proofs.YtfoblbpbhldngaaDoor
open Flo Go.RowKit Tr
/-- what the document's Parse answers -/
def RP (l : List UInt8) (w : World) (e : Ending) (w' : World) : Prop :=
  Below w.heap.size w w' ∧ ∃ v, e = .returned (.tuple #[v, .int .i64 ((Ps.prs l).2.1 : Int), .int .i64 ((Ps.prs l).2.2 : Int)]) ∧ (∀ t, (Ps.prs l).1 = some t → Od w' t v) ∧ ((Ps.prs l).1 = none → v = zor)
theorem Gq.loose {X g : Nat} {w : World} {sv : Value} {fs : List Tr} {ss : List Value} (h : Gq X (g + 1) w sv fs ss) : Gq 0 (g + 1) w sv fs ss :=
  ⟨h.own, h.len, h.sl, fun j t s h1 h2 => Os.keep (fun b hb => ⟨⟨hb.1.1, by have := hb.1.1; omega⟩, hb.2⟩) (fun _ _ _ => rfl) _ _ (h.kid j t s h1 h2), h.nl⟩
/-- the loop's state: the reading, the result's variable, all below as it was -/
structure LP (X : Nat) (w : World) (R g : Nat) (l : List UInt8) (wx : World) (p : Nat) (sv : Value) (fs : List Tr) (ss : List Value) : Prop where
  z : Pz wx g l p sv
  q : Gq X (g + 1) wx sv fs ss
  x : Bo wx R 0 0 (.slice none 0 0)
  b : Below R w wx
  le : p ≤ l.length
  few : fs.length ≤ p
section
variable {X X' : Nat} {w wx w1 : World} {R g p p' : Nat} {l : List UInt8} {sv sv' : Value} {fs fs' : List Tr} {ss ss' : List Value}
theorem LP.ps (h : LP X w R g l wx p sv fs ss) (hR : R < g) (ps : PS X' wx sv w1 g l p' sv' fs' ss') : LP X' w R g l w1 p' sv' fs' ss' := by
  have hs : ∀ b, sv.ownBlock = some b → R ≤ b := fun b hb => by have := (h.q.own.lt b hb).1; omega
  refine ⟨ps.z, ps.q, ⟨(ps.ch.block R h.x.lt (by omega) (fun e => ?_)).trans h.x.b⟩, Ch.below h.b ps.ch (by omega) (Nat.le_of_lt h.x.lt) hs, ps.le, ps.few⟩
  have := (h.q.own.lt R e.symm).1
  omega
theorem LP.new (h : LP X w R g l wx p sv fs ss) (o : Obj) : LP wx.heap.size w R g l (wx.alloc o) p sv fs ss := by
  have hb : Below wx.heap.size wx (wx.alloc o) := (Below.refl _ _).alloc (Nat.le_refl _) _
  exact ⟨⟨(hb.block g (blk_lt h.z.b)).trans h.z.b⟩, (h.q.anew (Nat.le_refl _)).bel hb, h.x.bel hb, h.b.trans (hb.mono (Nat.le_of_lt h.x.lt)), h.le, h.few⟩
theorem LP.st (h : LP X w R g l wx p sv fs ss) (hR : R < g) (hX : g < X) (hs : ∀ b, sv.ownBlock = some b → b ≠ X) (k n : Int) (s : Value) : LP X w R g l (st3 wx X k n s) p sv fs ss := by
  refine ⟨⟨by rw [st3_blk _ _ _ _ _ (by omega)]; exact h.z.b⟩, h.q.spare (st3_own _ _ _ _ _) hs, ⟨by rw [st3_blk _ _ _ _ _ (by omega)]; exact h.x.b⟩, ?_, h.le, h.few⟩
  exact h.b.grown (st3_own _ _ _ _ _) (Nat.le_of_lt h.x.lt) (fun k hk => by cases hk; omega)
theorem LP.loose (h : LP X w R g l wx p sv fs ss) : LP 0 w R g l wx p sv fs ss := ⟨h.z, h.q.loose, h.x, h.b, h.le, h.few⟩
theorem LP.dr (h : LP X w R g l wx p sv fs ss) (k : Nat) : LP X w R g l (wx.drewN k) p sv fs ss := ⟨⟨h.z.b⟩, h.q.bel (below_drewN (Below.refl _ _) k), ⟨h.x.b⟩, below_drewN h.b k, h.le, h.few⟩
end
/-- where the reading stands, in memory -/
def plc (g : Nat) (w : World) : Nat := match w.cell? ⟨g, 1, none⟩ with | some (.int _ p) => p.toNat | _ => 0
theorem plc_of {g p : Nat} {w : World} {l : List UInt8} {sv : Value} (h : Pz w g l p sv) : plc g w = p := by unfold plc; rw [h.c1]; simp
theorem rp_text {l : List UInt8} {w W : World} {R p : Nat} (hR : w.heap.size = R) (hl : ¬ 65536 < l.length) (hr : (Ps.rd l).2 = p) (hn : ∀ t, Ps.rd l ≠ (some t, l.length)) (hb : Below R w W) : RP l w (.returned (.tuple #[zor, .int .i64 (p : Int), .int .i64 6])) W := by
  have e := Ps.prs_text hl hn
  refine ⟨by rw [hR]; exact hb, zor, ?_, (fun t h => by rw [e] at h; cases h), fun _ => rfl⟩
  rw [e, hr]; rfl
theorem st3_bel {w W : World} {R : Nat} (hb : Below R w W) (hR : R ≤ W.heap.size) (k n : Int) (s : Value) : Below R w (st3 W R k n s) := hb.grown (st3_own _ _ _ _ _) hR (fun k hk => by cases hk; exact Nat.le_refl _)
set_option maxHeartbeats 4000000 in
set_option maxRecDepth 100000 in
theorem rparse_c (l : List UInt8) (w : World) : Calls Tryd.prog 7 #[.string (Bt l)] w (RP l w) := by
  have hlI : Hid ((Bt l).size = l.length) := Bt_size l
  obtain ⟨w1, e1⟩ : ∃ w1, Hid (w.alloc (.cells #[.int .i64 0, .int .i64 0, .slice none 0 0] 25) = w1) := ⟨_, (rfl : _ = _)⟩
  have B1 : Hid (Below w.heap.size w w1) := by show Below _ _ _; rw [← e1.out]; exact (Below.refl _ _).alloc (Nat.le_refl _) _
  have X1 : Hid (Bo w1 w.heap.size 0 0 (.slice none 0 0)) := by show Bo _ _ _ _ _; rw [← e1.out]; exact Bo.new _ _ _ _
  have s1 : Hid (w1.heap.size = w.heap.size + 1) := by show _ = _; rw [← e1.out]; simp
  obtain ⟨R, hR⟩ : ∃ R, Hid (w.heap.size = R) := ⟨_, (rfl : _ = _)⟩
  rw [hR.out] at X1
  go_enter Tryd.func7, Tryd.ntmps7
  go_upto_region 1 with fail
  rw [e1.out, hR.out]
  by_cases h64 : (65536 : Int) < ((Bt l).size : Int)
  · have hp : Hid (Ps.prs l = (none, 0, 3)) := Ps.prs_long (by rw [hlI.out] at h64; omega)
    have h64' : ((Bt l).size : Int) > 65536 := h64
    have hfin : Hid (RP l w (.returned (.tuple #[zor, .int .i64 0, .int .i64 3])) (st3 w1 R 0 0 (.slice none 0 0))) :=
      ⟨by rw [hR.out]; exact st3_bel (by rw [← hR.out]; exact B1.out) (Nat.le_of_lt X1.out.lt) _ _ _, zor, by rw [hp.out]; rfl, (fun t h => by rw [hp.out] at h; cases h), fun _ => rfl⟩
    have x0 := X1.out.c0
    have x1 := X1.out.c1
    have x2 := X1.out.c2
    have xf := X1.out.fz
    go_wp2_with fail
    refine bodyPost_ret (v := .tuple #[zor, .int .i64 0, .int .i64 3]) (by simp [results, Tryd.results7, go_sem, x0, x1, x2, zor]) rfl ?_
    exact hfin.out
  · have h64' : decide (((Bt l).size : Int) > 65536) = false := decide_eq_false h64
    have hll : Hid (¬ 65536 < l.length) := by show ¬ _; rw [hlI.out] at h64; omega
    obtain ⟨w2, e2⟩ : ∃ w2, Hid (w1.alloc (.cells #[.string (Bt l), .int .i64 0, .slice none 0 0] 52) = w2) := ⟨_, (rfl : _ = _)⟩
    have B2 : Below w1.heap.size w1 w2 := by rw [← e2.out]; exact (Below.refl _ _).alloc (Nat.le_refl _) _
    have L2 : Hid (LP 0 w R (R + 1) l w2 0 (.slice none 0 0) [] []) := by
      refine ⟨⟨?_⟩, Gq.nil _ _ _, X1.out.bel B2, ?_, Nat.zero_le _, Nat.zero_le _⟩
      · rw [← e2.out, ← hR.out, ← s1.out]; exact heap_alloc_new _ _
      · rw [← hR.out]; exact B1.out.trans (B2.mono B1.out.size)
    have hg : Hid (w1.heap.size = R + 1) := by show _ = _; rw [s1.out, hR.out]
    clear B2
    go_wp2_with fail
    rw [e2.out, hg.out]
    have hgR : R < R + 1 := by omega
    obtain ⟨g, hgg⟩ : ∃ g, Hid (R + 1 = g) := ⟨_, (rfl : _ = _)⟩
    rw [hgg.out] at L2 hgR ⊢
    clear hg s1
    go_loopw [6, 7, 8] (fun _ _ _ wx => ∃ (p : Nat) (sv : Value) (fs : List Tr) (ss : List Value), Hid (LP 0 w R g l wx p sv fs ss) ∧ Hid (Ps.kont l fs.reverse (Ps.pa l p) = Ps.rd l)) (fun _ _ _ wx => l.length - plc g wx)
    case atStart => exact ⟨0, _, [], [], L2, (rfl : _ = _)⟩
    case round =>
      clear L2 X1 B1 e1 e2
      obtain ⟨p, sv, fs, ss, hL, hk⟩ := hrel
      rename World => wr
      go_wp2_with fail
      refine (begin_c 0 g p l sv fs ss wr hL.out.z hL.out.q (by have := hll.out; omega) hL.out.le hL.out.few).mono ?_
      rintro e w3 ⟨sv3, ss3, fs3, p3, v3, wh, ok, rfl, ps3, hcs, k3, n3, a3, c3, rfl⟩
      have L3 : Hid (LP 0 w R g l w3 p3 sv3 fs3 ss3) := hL.out.ps hgR ps3
      have hcsH : Hid ((ok = false ∧ wh = wh ∧ Ps.kont l fs.reverse (Ps.pa l p) = (none, p3)) ∨ (ok = true ∧ wh = true ∧ fs3 = fs ∧ p < p3 ∧ ∃ t, Value.agg #[.int .i64 k3, .int .i64 n3, .slice a3 0 c3] = .agg #[.int .i64 t.k, .int .i64 t.n, .slice none 0 0] ∧ t.ks = [] ∧ fit t.k t.n ∧ Ps.kont l fs.reverse (Ps.pa l p) = Ps.kont l fs.reverse (some t, p3)) ∨ (ok = true ∧ wh = false ∧ p < p3 ∧ Ps.kont l fs.reverse (Ps.pa l p) = Ps.kont l fs3.reverse (Ps.pa l p3))) := hcs
      have hm0 : Hid (plc g wr = p) := plc_of hL.out.z
      clear hcs ps3 hL
      obtain ⟨O, hO⟩ : ∃ O, Hid (w3.heap.size = O) := ⟨_, (rfl : _ = _)⟩
      obtain ⟨w4, e4⟩ : ∃ w4, Hid (w3.alloc (.cells #[.int .i64 k3, .int .i64 n3, .slice a3 0 c3] 25) = w4) := ⟨_, (rfl : _ = _)⟩
      have L4 : Hid (LP O w R g l w4 p3 sv3 fs3 ss3) := by
        show LP O w R g l w4 p3 sv3 fs3 ss3
        rw [← e4.out, ← hO.out]
        exact L3.out.new _
      have O4 : Hid (Bo w4 O k3 n3 (.slice a3 0 c3)) := by show Bo _ _ _ _ _; rw [← e4.out, ← hO.out]; exact Bo.new _ _ _ _
      have hsv3 : Hid (∀ b, sv3.ownBlock = some b → b ≠ O) := fun b hb => by have := (L3.out.q.own.lt b hb).2; rw [← hO.out]; omega
      have hgO : g < O := by rw [← hO.out]; exact blk_lt L3.out.z.b
      clear L3
      rcases hcsH.out with ⟨rfl, _, hke⟩ | ⟨rfl, rfl, hfe, hpp, t, hve, htk, hft, hke⟩ | ⟨rfl, rfl, hpp, hke⟩
      · -- the text doesn't fit
        have hr : Hid (Ps.rd l = (none, p3)) := by show _ = _; rw [← hk.out, hke]
        clear hke hcsH
        have hfin : Hid (∀ D, RP l w (.returned (.tuple #[zor, .int .i64 (p3 : Int), .int .i64 6])) (st3 (w4.drewN D) R 0 0 (.slice none 0 0))) := fun D => by
          have hL := L4.out.dr D
          exact rp_text hR.out hll.out (by rw [hr.out]) (fun t h => by rw [hr.out] at h; cases h) (st3_bel hL.b (Nat.le_of_lt hL.x.lt) _ _ _)
        have z1 := L4.out.z.c1
        have x0 := L4.out.x.c0
        have x1 := L4.out.x.c1
        have x2 := L4.out.x.c2
        have xf := L4.out.x.fz
        go_upto_region 5 with fail
        rw [e4.out, hO.out]
        go_wp2_with fail
        go_region
        go_wp2_with fail
        refine bodyPost_ret (v := .tuple #[zor, .int .i64 (p3 : Int), .int .i64 6]) (by simp [results, Tryd.results7, go_sem, x0, x1, x2, zor]) rfl ?_
        exact hfin.out 1
      · -- a leaf that is whole
        rw [← hfe] at hke
        simp only [Value.agg.injEq, Array.mk.injEq, List.cons.injEq, Value.int.injEq, Value.slice.injEq, true_and, and_true] at hve
        obtain ⟨hk3, hn3, ha3, hc3⟩ := hve
        have hke2 : Hid (Ps.kont l fs3.reverse (some t, p3) = Ps.rd l) := by show _ = _; rw [← hk.out, ← hfe, hke]
        have hOs : Hid (Os (fun b => (g + 1 ≤ b ∧ b ≠ O) ∧ some b ≠ sv3.ownBlock) w4 t (.agg #[.int .i64 k3, .int .i64 n3, .slice a3 0 c3])) := by
          show Os _ _ _ _
          obtain ⟨tk, tn, tks⟩ := t
          dsimp only at htk hk3 hn3 hft
          subst htk
          rw [hk3, hn3]
          exact Os.leaf hft
        have hOlt : Hid (O < w4.heap.size) := O4.out.lt
        have o0 := O4.out.c0
        have o1 := O4.out.c1
        have o2 := O4.out.c2
        have hpp' : Hid (p < p3) := hpp
        clear hke hcsH hfe hk3 hn3 ha3 hc3 htk hft hpp
        go_upto_region 5 with fail
        rw [e4.out, hO.out]
        go_wp2_with fail
        refine (end_c O g p3 l sv3 fs3 ss3 t _ w4 L4.out.z L4.out.q hOs.out hOlt.out (by have := hll.out; omega) L4.out.le L4.out.few).mono ?_
        rintro e w5 ⟨sv5, ss5, fs5, p5, v5, wh5, ok5, rfl, ps5, hp5, hcs5, k5, n5, a5, l5, c5, rfl⟩
        have L5 : Hid (LP O w R g l w5 p5 sv5 fs5 ss5) := L4.out.ps hgR ps5
        have hsv5 : Hid (∀ b, sv5.ownBlock = some b → b ≠ O) := fun b hb => by
          rcases ps5.nb b hb with h | h
          · exact hsv3.out b h
          · have := hOlt.out; omega
        have O5 : Hid (Bo w5 O k3 n3 (.slice a3 0 c3)) := ⟨(ps5.ch.block O hOlt.out (by omega) (fun e => hsv3.out O e.symm rfl)).trans O4.out.b⟩
        have L6 : Hid (LP O w R g l (st3 w5 O k5 n5 (.slice a5 l5 c5)) p5 sv5 fs5 ss5) := L5.out.st hgR hgO hsv5.out _ _ _
        have O6 : Hid (Bo (st3 w5 O k5 n5 (.slice a5 l5 c5)) O k5 n5 (.slice a5 l5 c5)) := st3_bo O5.out _ _ _
        have hcsH : Hid ((ok5 = false ∧ Ps.kont l fs3.reverse (some t, p3) = (none, p5)) ∨ (ok5 = true ∧ wh5 = true ∧ ∃ t2, Ps.kont l fs3.reverse (some t, p3) = (some t2, p5) ∧ Os (fun b => g + 1 ≤ b ∧ b ≠ O) w5 t2 (.agg #[.int .i64 k5, .int .i64 n5, .slice a5 l5 c5])) ∨ (ok5 = true ∧ wh5 = false ∧ p3 < p5 ∧ Ps.kont l fs3.reverse (some t, p3) = Ps.kont l fs5.reverse (Ps.pa l p5))) := hcs5
        have y0 := O5.out.c0
        have y1 := O5.out.c1
        have y2 := O5.out.c2
        have yf := O5.out.fz
        clear hcs5 ps5 L4 O4 o0 o1 o2 hOs L5 O5 e4 hsv3
        rcases hcsH.out with ⟨rfl, hke⟩ | ⟨rfl, rfl, t2, hke, hOs2⟩ | ⟨rfl, rfl, hpp, hke⟩
        · have hr : Hid (Ps.rd l = (none, p5)) := by show _ = _; rw [← hke2.out, hke]
          clear hke hcsH
          obtain ⟨w6, e6⟩ : ∃ w6, Hid (st3 w5 O k5 n5 (.slice a5 l5 c5) = w6) := ⟨_, (rfl : _ = _)⟩
          have e6' : Hid ((((w5.setCell ⟨O, 0, none⟩ (.int .i64 k5)).setCell ⟨O, 1, none⟩ (.int .i64 n5)).setCell ⟨O, 2, none⟩ (.slice a5 l5 c5)) = w6) := e6
          rw [e6.out] at L6
          have hfin : Hid (∀ D, RP l w (.returned (.tuple #[zor, .int .i64 (p5 : Int), .int .i64 6])) (st3 (w6.drewN D) R 0 0 (.slice none 0 0))) := fun D => by
            have hL := L6.out.dr D
            exact rp_text hR.out hll.out (by rw [hr.out]) (fun t h => by rw [hr.out] at h; cases h) (st3_bel hL.b (Nat.le_of_lt hL.x.lt) _ _ _)
          have z1 := L6.out.z.c1
          have x0 := L6.out.x.c0
          have x1 := L6.out.x.c1
          have x2 := L6.out.x.c2
          have xf := L6.out.x.fz
          go_upto_region 7 with fail
          rw [e6'.out]
          go_wp2_with fail
          go_region
          go_wp2_with fail
          refine bodyPost_ret (v := .tuple #[zor, .int .i64 (p5 : Int), .int .i64 6]) (by simp [results, Tryd.results7, go_sem, x0, x1, x2, zor]) rfl ?_
          exact hfin.out 1
        · have hr : Hid (Ps.rd l = (some t2, p5)) := by show _ = _; rw [← hke2.out, hke]
          have hOs6 : Hid (Os (fun b => g + 1 ≤ b ∧ b ≠ O) (st3 w5 O k5 n5 (.slice a5 l5 c5)) t2 (.agg #[.int .i64 k5, .int .i64 n5, .slice a5 l5 c5])) := Os.keep (fun b hb => hb) (fun b hb _ => st3_blk _ _ _ _ _ hb.2) _ _ hOs2
          clear hke hcsH hOs2
          obtain ⟨w6, e6⟩ : ∃ w6, Hid (st3 w5 O k5 n5 (.slice a5 l5 c5) = w6) := ⟨_, (rfl : _ = _)⟩
          have e6' : Hid ((((w5.setCell ⟨O, 0, none⟩ (.int .i64 k5)).setCell ⟨O, 1, none⟩ (.int .i64 n5)).setCell ⟨O, 2, none⟩ (.slice a5 l5 c5)) = w6) := e6
          rw [e6.out] at L6 O6 hOs6
          have z1 := L6.out.z.c1
          have x0 := L6.out.x.c0
          have x1 := L6.out.x.c1
          have x2 := L6.out.x.c2
          have xf := L6.out.x.fz
          have hle5 : Hid (p5 ≤ l.length) := L6.out.le
          by_cases hlt : p5 < l.length
          · have hlt' : (p5 : Int) < ((Bt l).size : Int) := by rw [hlI.out]; omega
            have hlt'' : p5 < (Bt l).size := by rw [hlI.out]; exact hlt
            have hfin : Hid (∀ D, RP l w (.returned (.tuple #[zor, .int .i64 (p5 : Int), .int .i64 6])) (st3 (w6.drewN D) R 0 0 (.slice none 0 0))) := fun D => by
              have hL := L6.out.dr D
              exact rp_text hR.out hll.out (by rw [hr.out]) (fun t h => by rw [hr.out] at h; simp at h; omega) (st3_bel hL.b (Nat.le_of_lt hL.x.lt) _ _ _)
            clear hlt
            go_upto_region 7 with fail
            rw [e6'.out]
            go_wp2_with fail
            go_region
            go_wp2_with fail
            refine bodyPost_ret (v := .tuple #[zor, .int .i64 (p5 : Int), .int .i64 6]) (by simp [results, Tryd.results7, go_sem, x0, x1, x2, zor]) rfl ?_
            exact hfin.out 1
          · have hlt' : decide ((p5 : Int) < ((Bt l).size : Int)) = false := decide_eq_false (by rw [hlI.out]; omega)
            have hlt'' : decide (p5 < (Bt l).size) = false := decide_eq_false (by rw [hlI.out]; omega)
            have hgood : Hid (Ps.prs l = if len t2 = 0 then (none, 0, 8) else (some t2, 0, 0)) := Ps.prs_good hll.out (by rw [hr.out]; have := hle5.out; rw [show p5 = l.length by omega])
            have q0 := O6.out.c0
            have q1 := O6.out.c1
            have q2 := O6.out.c2
            have hck : Hid (Calls Tryd.prog 25 #[.agg #[.int .i64 k5, .int .i64 n5, .slice a5 l5 c5]] w6 fun e w' => e = .returned (.int .i64 (ckn t2)) ∧ Below w6.heap.size w6 w') := rCheck_c t2 _ w6 hOs6.out.od
            clear hlt
            go_upto_region 7 with fail
            rw [e6'.out]
            go_wp2_with fail
            refine hck.out.mono ?_
            rintro e w7 ⟨rfl, B7⟩
            have X7 : Hid (Bo w7 R 0 0 (.slice none 0 0)) := L6.out.x.bel B7
            have O7 : Hid (Bo w7 O k5 n5 (.slice a5 l5 c5)) := O6.out.bel B7
            have bw7 : Hid (Below R w w7) := L6.out.b.trans (B7.mono (Nat.le_of_lt L6.out.x.lt))
            have hOs7 : Hid (Os (fun b => g + 1 ≤ b ∧ b ≠ O) w7 t2 (.agg #[.int .i64 k5, .int .i64 n5, .slice a5 l5 c5])) := hOs6.out.bel B7
            clear B7 hck z1 x0 x1 x2 xf q0 q1 q2 y0 y1 y2 yf
            have x0 := X7.out.c0
            have x1 := X7.out.c1
            have x2 := X7.out.c2
            have xf := X7.out.fz
            have q0 := O7.out.c0
            have q1 := O7.out.c1
            have q2 := O7.out.c2
            by_cases h0 : len t2 = 0
            · have hck0 : ckn t2 = 8 := by unfold ckn; rw [if_pos h0]
              rw [hck0]
              have hfin : Hid (RP l w (.returned (.tuple #[zor, .int .i64 0, .int .i64 8])) (st3 w7 R 0 0 (.slice none 0 0))) := by
                have e := hgood.out
                rw [if_pos h0] at e
                exact ⟨by rw [hR.out]; exact st3_bel bw7.out (Nat.le_of_lt X7.out.lt) _ _ _, zor, by rw [e]; rfl, (fun t h => by rw [e] at h; cases h), fun _ => rfl⟩
              clear h0 hck0
              go_wp2_with fail
              refine bodyPost_ret (v := .tuple #[zor, .int .i64 0, .int .i64 8]) (by simp [results, Tryd.results7, go_sem, x0, x1, x2, zor]) rfl ?_
              exact hfin.out
            · have hck0 : ckn t2 = 0 := by unfold ckn; rw [if_neg h0]
              rw [hck0]
              have hfin : Hid (RP l w (.returned (.tuple #[.agg #[.int .i64 k5, .int .i64 n5, .slice a5 l5 c5], .int .i64 0, .int .i64 0])) (st3 w7 R k5 n5 (.slice a5 l5 c5))) := by
                have e := hgood.out
                rw [if_neg h0] at e
                refine ⟨by rw [hR.out]; exact st3_bel bw7.out (Nat.le_of_lt X7.out.lt) _ _ _, _, by rw [e]; rfl, (fun t h => ?_), fun h => by rw [e] at h; cases h⟩
                rw [e] at h
                obtain rfl := Option.some.inj h
                exact Os.od _ _ (Os.keep (S' := fun _ => True) (fun _ _ => trivial) (fun b hb _ => st3_blk _ _ _ _ _ (by have := hb.1; omega)) _ _ hOs7.out)
              clear h0 hck0
              go_wp2_with fail
              refine bodyPost_ret (v := .tuple #[.agg #[.int .i64 k5, .int .i64 n5, .slice a5 l5 c5], .int .i64 0, .int .i64 0]) (by simp [results, Tryd.results7, go_sem, x0, x1, x2]) rfl ?_
              exact hfin.out
        · have hkt : Hid (Ps.kont l fs5.reverse (Ps.pa l p5) = Ps.rd l) := by show _ = _; rw [← hke2.out, hke]
          have hm1 : Hid (plc g (st3 w5 O k5 n5 (.slice a5 l5 c5)) = p5) := plc_of L6.out.z
          have hple : Hid (p5 ≤ l.length) := L6.out.le
          have L7 : Hid (LP 0 w R g l (st3 w5 O k5 n5 (.slice a5 l5 c5)) p5 sv5 fs5 ss5) := L6.out.loose
          clear hke hcsH L6 O6
          go_wp2_with fail
          go_roundw
          case rel => exact ⟨p5, sv5, fs5, ss5, L7, hkt⟩
          case measure =>
            show l.length - plc g (st3 w5 O k5 n5 (.slice a5 l5 c5)) < l.length - plc g wr
            rw [hm1.out, hm0.out]
            have := hple.out
            have := hpp'.out
            omega
      · -- an order begins next
        have hkt : Hid (Ps.kont l fs3.reverse (Ps.pa l p3) = Ps.rd l) := by show _ = _; rw [← hk.out, hke]
        have hm1 : Hid (plc g w4 = p3) := plc_of L4.out.z
        have hple : Hid (p3 ≤ l.length) := L4.out.le
        have L5 : Hid (LP 0 w R g l w4 p3 sv3 fs3 ss3) := L4.out.loose
        clear hke hcsH
        go_upto_region 5 with fail
        rw [e4.out, hO.out]
        go_wp2_with fail
        go_roundw
        case rel => exact ⟨p3, sv3, fs3, ss3, L5, hkt⟩
        case measure => rw [hm1.out, hm0.out]; have := hple.out; omega
end Go.Proofs.YtfoblbpbhldngaaDoor
