/-
  The statements of layer 18: lives; errors' numbers.
-/
import Derived.Test.YtedfjedmapimnaaDoorKd1
import Derived.Test.YtedfjedmapimnaaDoorSdd
import Derived.Test.YtedfjedmapimnaaDoorSl1
import Derived.Test.YtedfjedmapimnaaDoorSl2
namespace Go.Proofs.YtedfjedmapimnaaDoor
open Flo Go.RowKit
/-- the number of an error that is nil or the one of programs -/
theorem num_fe8 (al : List Addr) (b : Bool) (w : World) (he : Errs w al) : Calls Tryd.prog 10 #[fev al b] w fun e w' => e = .returned (.int .i64 (fnn b)) ∧ Below w.heap.size w w' := by
  cases b with
  | true =>
    refine (num_nil w).mono ?_
    rintro e w' ⟨rfl, rfl⟩
    exact ⟨rfl, Below.refl _ _⟩
  | false => exact num_err al 8 (by decide) w he
def l18a : Sp.St := ⟨1, 2, 0, 1, 2, 0, 0⟩
def l18b : Sp.St := ⟨1, 0, 1, 1, 2, 0, 0⟩
def l18p : Sp.Pg := ⟨2, 4, 0, 2, [l18a, l18b]⟩
def l18q : Sp.Pg := ⟨2, 4, 0, 2, [l18a]⟩
theorem l18_fm : Sp.fm l18a = true := by decide +kernel
theorem l18_rd : rdl l18a = [0, 1] := Kc.ss_uniq (Kc.cl_ss _) (by unfold Kc.SS; simp) fun x => by unfold rdl; rw [Kc.cl_mem, show Kc.flat (Kc.touS l18a).rd = [0, 1] by decide +kernel]
theorem l18_wr : wrl l18a = [2, 3] := Kc.ss_uniq (Kc.cl_ss _) (by unfold Kc.SS; simp) fun x => by unfold wrl; rw [Kc.cl_mem, show Kc.flat (Kc.touS l18a).wr = [2, 3] by decide +kernel]
theorem l18_flt : Kc.flt l18p.cells 0 0 l18p.steps = 1 := by decide +kernel
theorem l18_chk : Kc.chk l18p = false := by decide +kernel
theorem l18_chq : Kc.chk l18q = true := by decide +kernel
theorem l18_sum : Kc.sumc l18q.steps = 2 := by decide +kernel
set_option maxHeartbeats 4000000 in
set_option maxRecDepth 100000 in
theorem lives18_c (al : List Addr) (w : World) (hE : Errs w al) (hO : Ops w) (he : Pe w al) :
    Calls Tryd.prog 5 #[] w fun e w' => e = .returned (.bool true) ∧ Below w.heap.size w w' := by
  obtain ⟨g0, hg0⟩ : ∃ b, Hid (w.heap.size = b) := ⟨_, (rfl : _ = _)⟩
  obtain ⟨w1, ew1⟩ : ∃ wa, Hid ((w.alloc (.cells #[.int .i64 1, .int .i64 2, .int .i64 0, .int .i64 1, .int .i64 2, .int .i64 0, .int .i64 0, .int .i64 1, .int .i64 0, .int .i64 1, .int .i64 1, .int .i64 2, .int .i64 0, .int .i64 0] 39)).alloc (.cells #[.int .i64 2, .int .i64 4, .int .i64 0, .int .i64 2, .slice (some ⟨g0, 0, none⟩) 2 2] 24) = wa) := ⟨_, (rfl : _ = _)⟩
  have B1 : Hid (Below w.heap.size w w1) := by rw [← ew1.out]; exact ((Below.refl _ _).alloc (Nat.le_refl _) _).alloc (by simp) _
  have A1 : Hid (SAt w1 g0 0 l18a) := by show SAt _ _ _ _; rw [← ew1.out, ← hg0.out]; constructor <;> simp [go_sem, l18a]
  have A2 : Hid (SAt w1 g0 7 l18b) := by show SAt _ _ _ _; rw [← ew1.out, ← hg0.out]; constructor <;> simp [go_sem, l18b]
  have S1 : Hid (Ss w1 (some ⟨g0, 0, none⟩) l18p.steps) := fun i s hi => by
    match i, hi with
    | 0, hi => cases hi; exact ⟨g0, 0, rfl, A1.out⟩
    | 1, hi => cases hi; exact ⟨g0, 0, rfl, A2.out⟩
    | n + 2, hi => simp [l18p] at hi
  have S2 : Hid (Ss w1 (some ⟨g0, 0, none⟩) l18q.steps) := fun i s hi => by
    match i, hi with
    | 0, hi => cases hi; exact ⟨g0, 0, rfl, A1.out⟩
    | n + 1, hi => simp [l18q] at hi
  have X1 : Hid (Bpg w1 (g0 + 1) l18p (.slice (some ⟨g0, 0, none⟩) 2 2)) := by show Bpg _ _ _ _; rw [← ew1.out, ← hg0.out]; constructor <;> simp [go_sem, l18p]
  have F1 : Hid (w1.frozen? ⟨g0 + 1, 4, none⟩ = false) := by show _ = _; rw [← ew1.out, ← hg0.out]; simp [go_sem]
  have e1 : Hid (Pe w1 al) := he.below B1.out
  have o1 : Hid (Ops w1) := hO.below (B1.out.mono (Nat.le_refl _))
  have E1 : Hid (Errs w1 al) := hE.below B1.out
  have htd : Hid (∀ W, Below w1.heap.size w1 W → Calls Tryd.prog 17 #[.agg #[.int .i64 1, .int .i64 2, .int .i64 0, .int .i64 1, .int .i64 2, .int .i64 0, .int .i64 0]] W fun e w' => TdE l18a al W e w') := fun W hW => ktouched_c l18a al W (o1.out.below hW) (e1.out.below hW)
  have hfl : Hid (∀ W, Below w1.heap.size w1 W → Calls Tryd.prog 13 #[.agg #[.int .i64 2, .int .i64 4, .int .i64 0, .int .i64 2, .slice (some ⟨g0, 0, none⟩) 2 2]] W fun e w' => e = .returned (.int .i64 1) ∧ Below W.heap.size W w') := fun W hW => by
    have := kfault_c l18p (some ⟨g0, 0, none⟩) 2 2 al W (S1.out.below hW) rfl (by decide) (o1.out.below hW) (e1.out.below hW)
    rw [l18_flt] at this
    exact this
  have hck : Hid (∀ W, Below w1.heap.size w1 W → Calls Tryd.prog 11 #[.agg #[.int .i64 2, .int .i64 4, .int .i64 0, .int .i64 2, .slice (some ⟨g0, 0, none⟩) 2 2]] W fun e w' => e = .returned (fev al false) ∧ Below W.heap.size W w') := fun W hW => by
    have := kcheck_c l18p (some ⟨g0, 0, none⟩) 2 2 al W (S1.out.below hW) rfl (by decide) (o1.out.below hW) (e1.out.below hW)
    rw [l18_chk] at this
    exact this
  have hnu : Hid (∀ W, Below w1.heap.size w1 W → Calls Tryd.prog 10 #[fev al false] W fun e w' => e = .returned (.int .i64 9) ∧ Below W.heap.size W w') := fun W hW => num_fe8 al false W (E1.out.below hW)
  have hac : Hid (∀ W, Ss W (some ⟨g0, 0, none⟩) l18q.steps → Ops W → Pe W al → Calls Tryd.prog 8 #[.agg #[.int .i64 2, .int .i64 4, .int .i64 0, .int .i64 2, .slice (some ⟨g0, 0, none⟩) 1 2]] W fun e w' => e = .returned (.tuple #[.int .i64 2, .nilIface]) ∧ Below W.heap.size W w') := fun W h1 h2 h3 => by
    have := kacts_c l18q (some ⟨g0, 0, none⟩) 1 2 al W h1 rfl (by decide) h2 h3
    rw [l18_chq, l18_sum] at this
    exact this
  have hcq : Hid (∀ W, Ss W (some ⟨g0, 0, none⟩) l18q.steps → Ops W → Pe W al → Calls Tryd.prog 11 #[.agg #[.int .i64 2, .int .i64 4, .int .i64 0, .int .i64 2, .slice (some ⟨g0, 0, none⟩) 1 2]] W fun e w' => e = .returned .nilIface ∧ Below W.heap.size W w') := fun W h1 h2 h3 => by
    have := kcheck_c l18q (some ⟨g0, 0, none⟩) 1 2 al W h1 rfl (by decide) h2 h3
    rw [l18_chq] at this
    exact this
  have e0 : Hid (Pe w al) := he
  have o0 : Hid (Ops w) := hO
  clear hE hO he
  go_enter Tryd.func5, Tryd.ntmps5
  go_upto_region 2 with fail
  rw [hg0.out, ew1.out]
  obtain ⟨x0, x1, x2, x3, x4⟩ := X1.out
  obtain ⟨y0, y1, y2, y3, y4, y5, y6⟩ := A1.out
  unfold l18a at y0 y1 y2 y3 y4 y5 y6
  unfold l18p at x0 x1 x2 x3
  go_wp2_with fail
  refine (htd.out w1 (Below.refl _ _)).mono ?_
  rintro e w2 ⟨B2, hcs⟩
  rcases hcs with ⟨hf, _⟩ | ⟨_, va, vb, rfl, hT⟩
  · rw [l18_fm] at hf; cases hf
  rw [l18_rd, l18_wr] at hT
  obtain ⟨a1, c1, rfl, -⟩ := RdI.of_own hT.o1
  obtain ⟨a2, c2, rfl, hrd⟩ := RdI.of_own hT.o2
  obtain ⟨b, off, rfl, -, hcell⟩ := hrd (by simp)
  have z1 : w2.cell? ⟨b, off + 1, none⟩ = some (.int .i64 3) := hcell 1 (by decide)
  have B2H : Hid (Below w1.heap.size w1 w2) := B2
  clear hrd hcell hT x0 x1 x2 x3 x4 y0 y1 y2 y3 y4 y5 y6 B2
  have X2 := X1.out.below B2H.out
  unfold l18p at X2
  obtain ⟨x0, x1, x2, x3, x4⟩ := X2
  go_upto_region 3 with fail
  go_wp2_with fail
  refine (hfl.out w2 B2H.out).mono ?_
  rintro e w3 ⟨rfl, B3'⟩
  have B3 : Hid (Below w1.heap.size w1 w3) := B2H.out.trans (B3'.mono B2H.out.size)
  clear x0 x1 x2 x3 x4 B3' z1
  have X3 := X1.out.below B3.out
  unfold l18p at X3
  obtain ⟨x0, x1, x2, x3, x4⟩ := X3
  go_wp2_with fail
  refine (hck.out w3 B3.out).mono ?_
  rintro e w4 ⟨rfl, B4'⟩
  have B4 : Hid (Below w1.heap.size w1 w4) := B3.out.trans (B4'.mono B3.out.size)
  clear x0 x1 x2 x3 x4 B4'
  go_wp2_with fail
  refine (hnu.out w4 B4.out).mono ?_
  rintro e w5 ⟨rfl, B5'⟩
  have B5 : Hid (Below w1.heap.size w1 w5) := B4.out.trans (B5'.mono B4.out.size)
  clear B5'
  have X5 := X1.out.below B5.out
  have F5 := (World.frozen?_of_block (B5.out.block (g0 + 1) (cell_lt X1.out.c4))).trans F1.out
  unfold l18p at X5
  obtain ⟨x0, x1, x2, x3, x4⟩ := X5
  go_upto_region 6 with fail
  obtain ⟨w6, ew6⟩ : ∃ z, Hid (w5.setCell ⟨g0 + 1, 4, none⟩ (.slice (some ⟨g0, 0, none⟩) 1 2) = z) := ⟨_, (rfl : _ = _)⟩
  rw [ew6.out]
  have hle : w.heap.size ≤ g0 + 1 := by have := hg0.out; omega
  have hB6 : Hid (Below w.heap.size w w6) := by rw [← ew6.out]; exact (B1.out.trans (B5.out.mono B1.out.size)).setCell (p := ⟨g0 + 1, 4, none⟩) hle _
  have S6 : Hid (Ss w6 (some ⟨g0, 0, none⟩) l18q.steps) := fun i s hi => by
    obtain ⟨q, o, e, hs⟩ := S2.out.below B5.out i s hi
    refine ⟨q, o, e, ?_⟩
    injection e with e
    injection e with e1 e2
    subst e1
    rw [← ew6.out]
    constructor <;> (rw [World.cell?_setCell_far _ _ _ _ (by simp)]; first | exact hs.c0 | exact hs.c1 | exact hs.c2 | exact hs.c3 | exact hs.c4 | exact hs.c5 | exact hs.c6)
  have X6 : Hid (Bpg w6 (g0 + 1) l18q (.slice (some ⟨g0, 0, none⟩) 1 2)) := by
    show Bpg _ _ _ _
    rw [← ew6.out]
    constructor <;> simp [World.cell?_setCell_other, World.cell?_setCell_same', x0, x1, x2, x3, x4, l18q]
  have O6 : Hid (Ops w6) := o0.out.below (hB6.out.mono (Nat.le_refl _))
  have P6 : Hid (Pe w6 al) := e0.out.below hB6.out
  clear x0 x1 x2 x3 x4 F5
  have Y6 := X6.out
  unfold l18q at Y6
  obtain ⟨x0, x1, x2, x3, x4⟩ := Y6
  go_wp2_with fail
  refine (hac.out w6 S6.out O6.out P6.out).mono ?_
  rintro e w7 ⟨rfl, B7⟩
  have hB7 : Hid (Below w.heap.size w w7) := hB6.out.trans (B7.mono hB6.out.size)
  have S7 : Hid (Ss w7 (some ⟨g0, 0, none⟩) l18q.steps) := S6.out.below B7
  have X7 := X6.out.below B7
  unfold l18q at X7
  clear x0 x1 x2 x3 x4 B7
  obtain ⟨x0, x1, x2, x3, x4⟩ := X7
  go_wp2_with fail
  refine (hcq.out w7 S7.out (o0.out.below (hB7.out.mono (Nat.le_refl _))) (e0.out.below hB7.out)).mono ?_
  rintro e w8 ⟨rfl, B8⟩
  have hB8 : Hid (Below w.heap.size w w8) := hB7.out.trans (B8.mono hB7.out.size)
  clear x0 x1 x2 x3 x4 B8
  go_wp2
  go_ret
  exact ⟨rfl, hB8.out⟩
end Go.Proofs.YtedfjedmapimnaaDoor
/-
  Programs of steps that make noughts: how many acts they are; a program that grows by a step, in memory.
-/
namespace Go.Proofs.YtedfjedmapimnaaDoor.Kc
open Go.RowKit
def zst (c : Int) : Sp.St := ⟨3, 0, 0, 0, c, 0, 0⟩
theorem zst_fm {c : Int} (h1 : 1 ≤ c) (h2 : c ≤ 262144) : Sp.fm (zst c) = true := by
  rw [← Sp.dfm_eq]
  simp [Sp.dfm, zst, Sp.dgood, Sp.num, Sp.hs, Sp.hj, Sp.hn, Sp.hk, Sp.wi, Sp.kn, h1, h2]
theorem zst_gd {c : Int} (h1 : 1 ≤ c) (h2 : c ≤ 262144) : gdS (zst c) 262144 = true := by
  unfold gdS
  rw [zst_fm h1 h2, Bool.true_and]
  obtain ⟨n, rfl⟩ : ∃ n : Nat, c = (n : Int) := ⟨c.toNat, by omega⟩
  have e : touS (zst n) = ⟨[], [⟨0, 1, n⟩], false⟩ := rfl
  rw [e]
  have hb : (To.mk [] [⟨0, 1, n⟩] false).below 262144 = true := by
    rw [below_iff]
    exact ⟨by simp, by simp [last_eq]; omega⟩
  rw [hb]
  simp [To.clash]
theorem flt_snoc (cells : Int) (s : Sp.St) : ∀ (l : List Sp.St) (i : Nat) (a : Int), flt cells i a (l ++ [s]) = if flt cells i a l < 0 then flt cells (i + l.length) (a + sumc l) [s] else flt cells i a l
  | [], i, a => by simp [flt, sumc]
  | t :: l, i, a => by
    rw [List.cons_append]
    show (bif (i == 65536) || !gdS t cells then (i : Int) else bif decide (67108864 < a + t.count) then (i : Int) else flt cells (i + 1) (a + t.count) (l ++ [s])) = if (bif (i == 65536) || !gdS t cells then (i : Int) else bif decide (67108864 < a + t.count) then (i : Int) else flt cells (i + 1) (a + t.count) l) < 0 then _ else (bif (i == 65536) || !gdS t cells then (i : Int) else bif decide (67108864 < a + t.count) then (i : Int) else flt cells (i + 1) (a + t.count) l)
    cases (i == 65536) || !gdS t cells with
    | true => simp only [cond_true]; rw [if_neg (by omega)]
    | false =>
      simp only [cond_false]
      cases decide (67108864 < a + t.count) with
      | true => simp only [cond_true]; rw [if_neg (by omega)]
      | false =>
        simp only [cond_false]
        rw [flt_snoc cells s l (i + 1) (a + t.count), List.length_cons]
        have e1 : i + 1 + l.length = i + (l.length + 1) := by omega
        have e2 : a + t.count + sumc l = a + sumc (t :: l) := by show _ = a + (t.count + sumc l); omega
        rw [e1, e2]
theorem sumc_snoc (s : Sp.St) : ∀ l, sumc (l ++ [s]) = sumc l + s.count
  | [] => by simp [sumc]
  | t :: l => by rw [List.cons_append]; unfold sumc; rw [sumc_snoc s l]; omega
end Go.Proofs.YtedfjedmapimnaaDoor.Kc
namespace Go.Proofs.YtedfjedmapimnaaDoor
open Flo Go.RowKit
/-- a box of a program: its cells, and that they may be written -/
structure Bp8 (w : World) (b : Nat) (p : Sp.Pg) (v : Value) : Prop where
  bx : Bpg w b p v
  fz : ∀ i, w.frozen? ⟨b, i, none⟩ = false
theorem Bp8.blk {w w' : World} {b : Nat} {p : Sp.Pg} {v : Value} (h : Bp8 w b p v) (e : w'.heap[b]? = w.heap[b]?) : Bp8 w' b p v :=
  ⟨⟨(World.cell?_of_block (a := ⟨b, 0, none⟩) e).trans h.bx.c0, (World.cell?_of_block (a := ⟨b, 1, none⟩) e).trans h.bx.c1, (World.cell?_of_block (a := ⟨b, 2, none⟩) e).trans h.bx.c2, (World.cell?_of_block (a := ⟨b, 3, none⟩) e).trans h.bx.c3, (World.cell?_of_block (a := ⟨b, 4, none⟩) e).trans h.bx.c4⟩, fun i => (World.frozen?_of_block (a := ⟨b, i, none⟩) e).trans (h.fz i)⟩
theorem Bp8.new (w : World) (p : Sp.Pg) (v : Value) : Bp8 (w.alloc (.cells #[.int .i64 p.len, .int .i64 p.cells, .int .i64 p.inn, .int .i64 p.out, v] 24)) w.heap.size p v := ⟨Bpg.new w p v, fun i => by simp⟩
theorem Bp8.set4 {w : World} {b : Nat} {p : Sp.Pg} {v : Value} (h : Bp8 w b p v) (v' : Value) : Bp8 (w.setCell ⟨b, 4, none⟩ v') b p v' :=
  ⟨⟨by simp [World.cell?_setCell_other, h.bx.c0], by simp [World.cell?_setCell_other, h.bx.c1], by simp [World.cell?_setCell_other, h.bx.c2], by simp [World.cell?_setCell_other, h.bx.c3], World.cell?_setCell_same _ _ _ h.bx.c4⟩, fun i => by rw [World.frozen?_setCell]; exact h.fz i⟩
/-- a program that grows: its box, and its steps in a row of the call's own behind it -/
structure Cw (G : Nat) (w wx : World) (hd : Sp.Pg) (v : Value) (ss : List Sp.St) : Prop where
  y : Bp8 wx G hd v
  ow : OwS wx (G + 1) v ss
  be : Below w.heap.size w wx
  hG : w.heap.size ≤ G
  sz : G + 1 ≤ wx.heap.size
section
variable {G : Nat} {w wx wy : World} {hd : Sp.Pg} {v : Value} {ss : List Sp.St}
theorem Cw.call (h : Cw G w wx hd v ss) (hb : Below wx.heap.size wx wy) : Cw G w wy hd v ss :=
  ⟨h.y.blk (hb.block G h.sz), h.ow.kept (row := none) ⟨hb.os, hb.tape, hb.output, hb.size, fun j hj _ => hb.block j hj⟩ (by cases hv : v.ownBlock <;> simp), h.be.trans (hb.mono h.be.size), h.hG, Nat.le_trans h.sz hb.size⟩
theorem Cw.push (h : Cw G w wx hd v ss) {v' : Value} {ss' : List Sp.St} (ho : OwS wy (G + 1) v' ss') (hg : wx.grownBy wy v.ownBlock) :
    Bp8 wy G hd v ∧ Cw G w (wy.setCell ⟨G, 4, none⟩ v') hd v' ss' := by
  have n1 : ¬ some G = v.ownBlock := fun e => by have := (World.ownsRow.lt h.ow G e.symm).1; omega
  have y1 : Bp8 wy G hd v := h.y.blk (hg.block G h.sz n1)
  have hsz := hg.size
  have hbl : Below w.heap.size w wy := h.be.grown hg h.be.size fun k hk => Nat.le_trans (Nat.le_trans h.hG (Nat.le_succ _)) (World.ownsRow.lt h.ow k hk).1
  refine ⟨y1, y1.set4 v', ?_, hbl.setCell (p := ⟨G, 4, none⟩) h.hG v', h.hG, by simp; exact Nat.le_trans h.sz hsz⟩
  exact ownsRow_setCell_below ho (a := ⟨G, 4, none⟩) (Nat.lt_succ_self G) v'
end
end Go.Proofs.YtedfjedmapimnaaDoor
/-
  The statements of layer 18: copied, work.
-/
namespace Go.Proofs.YtedfjedmapimnaaDoor
open Flo Go.RowKit
set_option maxHeartbeats 4000000 in
set_option maxRecDepth 100000 in
theorem copied18_c (p : Sp.Pg) (ao : Option Addr) (n c : Nat) (w : World) (ha : Ss w ao p.steps) (hc : ao = none → c = 0) (hn : n = p.steps.length) (hb : n * 56 ≤ 140737488351232) :
    Calls Tryd.prog 7 #[pv p (.slice ao n c)] w fun e w' => CpE p n w e w' := by
  obtain ⟨g, hg⟩ : ∃ g, Hid (w.heap.size = g) := ⟨_, (rfl : _ = _)⟩
  obtain ⟨wa, ewa⟩ : ∃ wa, Hid ((w.alloc (.cells #[.int .i64 p.len, .int .i64 p.cells, .int .i64 p.inn, .int .i64 p.out, .slice ao n c] 24)).alloc (.cells #[.int .i64 0, .int .i64 0, .int .i64 0, .int .i64 0, .slice none 0 0] 24) = wa) := ⟨_, (rfl : _ = _)⟩
  have Ba : Hid (Below w.heap.size w wa) := by rw [← ewa.out]; exact ((Below.refl _ _).alloc (Nat.le_refl _) _).alloc (by simp) _
  have X1 : Hid (Bpf wa g p (.slice ao n c)) := by
    rw [← ewa.out, ← hg.out]
    exact (Bpf.new w p (.slice ao n c)).fr (fr_new (fun _ => False) _ _) id
  have X2 : Hid (Bpf wa (g + 1) ⟨0, 0, 0, 0, []⟩ (.slice none 0 0)) := by
    rw [← ewa.out]
    have := Bpf.new (w.alloc (.cells #[.int .i64 p.len, .int .i64 p.cells, .int .i64 p.inn, .int .i64 p.out, .slice ao n c] 24)) ⟨0, 0, 0, 0, []⟩ (.slice none 0 0)
    have e : (w.alloc (.cells #[.int .i64 p.len, .int .i64 p.cells, .int .i64 p.inn, .int .i64 p.out, .slice ao n c] 24)).heap.size = g + 1 := by rw [← hg.out]; simp
    rw [e] at this
    exact this
  have sa : Hid (wa.heap.size = g + 2) := by show _ = _; rw [← ewa.out, ← hg.out]; simp
  have src : Hid (SrcS wa (.slice ao n c) p.steps) := by rw [hn]; exact (ha.src hc).below Ba.out
  have hb2 : Hid (([] ++ p.steps).length = n) := by rw [hn]; rfl
  have hbH : Hid (n * 56 ≤ 140737488351232) := hb
  have src2 : Hid (SrcS (wa.alloc (.cells #[] 39)) (.slice ao n c) p.steps) := src.out.below ((Below.refl _ _).alloc (Nat.le_refl _) _)
  have own0 : Hid (OwS (wa.alloc (.cells #[] 39)) wa.heap.size (.slice (some ⟨wa.heap.size, 0, none⟩) 0 0) []) := World.ownsRow_made wa #[] 0 (Nat.le_refl _) (by decide) rfl
  have hk1 : Hid ((([] : List Sp.St).length + p.steps.length) * 56 ≤ 140737488355328) := by show _ ≤ _; rw [← hn]; simp; omega
  clear ha hc hn hb src
  unfold pv
  go_enter Tryd.func7, Tryd.ntmps7
  go_upto_region 1 with fail
  rw [ewa.out, hg.out]
  obtain ⟨x0, x1, x2, x3, x4⟩ := X1.out.bx
  have x4' := fun X => cell_alloc x4 X
  go_wp2_with (first | (at_builtin; refine appSs _ rfl _ _ rfl wa.heap.size [] p.steps (.slice ao n c) wa.heap.size 0 0 rfl rfl own0.out src2.out hk1.out (by simp) ?_) | fail)
  intro v1 w1 ho1 hg1 hn1
  have sz1 : wa.heap.size ≤ w1.heap.size := by have := hg1.size; simp at this; omega
  have F1 : Hid (Fr (fun k => wa.heap.size ≤ k) wa w1) := ((Fr.refl (fun k => wa.heap.size ≤ k) wa).alloc _).grown hg1 fun k hk => by cases hk; exact Nat.le_refl _
  have own1 : Hid (OwS w1 wa.heap.size v1 p.steps) := ho1
  have own1' : Hid (∀ o, OwS (w1.alloc o) wa.heap.size v1 p.steps) := fun o => World.ownsRow.alloc ho1 o
  have C7 : Hid (SAt (w1.alloc (.cells #[.int .i64 (-77), .int .i64 0, .int .i64 0, .int .i64 0, .int .i64 0, .int .i64 0, .int .i64 0] 39)) w1.heap.size 0 s77) := ⟨by simp [s77], by simp [s77], by simp [s77], by simp [s77], by simp [s77], by simp [s77], by simp [s77]⟩
  have hk2 : Hid ((p.steps.length + 1) * 56 ≤ 140737488355328) := by have h1 := hbH.out; have h2 := hb2.out; simp at h2; show _ ≤ _; omega
  have hB2 : Hid (∀ o, wa.heap.size ≤ (w1.alloc o).heap.size) := fun o => by simp; omega
  clear ho1 hg1 hn1 x0 x1 x2 x3 x4 x4' own0 src2
  go_wp2_with (first | (at_builtin; refine appSt _ rfl _ _ rfl wa.heap.size p.steps s77 w1.heap.size v1 rfl rfl (own1'.out _) C7.out hk2.out (hB2.out _) ?_) | fail)
  intro v2 w2 ho2 hg2 hn2
  have F2 : Hid (Fr (fun k => wa.heap.size ≤ k) wa w2) := by
    have f1 := F1.out.alloc (.cells #[.int .i64 (-77), .int .i64 0, .int .i64 0, .int .i64 0, .int .i64 0, .int .i64 0, .int .i64 0] 39)
    exact f1.grown hg2 fun k hk => (World.ownsRow.lt own1.out k hk).1
  have own2 : Hid (OwS w2 wa.heap.size v2 (p.steps ++ [s77])) := ho2
  have hlen : (p.steps ++ [s77]).length = n + 1 := by have h2 := hb2.out; simp at h2; simp [h2]
  have hrow2 : w2.ownsRow wa.heap.size 39 7 v2 (p.steps ++ [s77]).length (scs (p.steps ++ [s77])) := ho2
  rw [hlen] at hrow2
  obtain ⟨q, cap, rfl, hqc⟩ : ∃ q cap, v2 = .slice (some ⟨q, 0, none⟩) (n + 1) cap ∧ n + 1 ≤ cap := by
    rcases hrow2.2 with ⟨_, h1⟩ | ⟨q, cap, cur, h1, _, _, h4, _⟩
    · omega
    · exact ⟨q, cap, h1, h4⟩
  have X3 : Hid (Bpf w2 g p (.slice ao n c)) := X1.out.fr F2.out (by have := sa.out; omega)
  have Y3 : Hid (Bpf w2 (g + 1) ⟨0, 0, 0, 0, []⟩ (.slice none 0 0)) := X2.out.fr F2.out (by have := sa.out; omega)
  have X4 : Hid (Bpf (w2.setCell ⟨g, 4, none⟩ (.slice (some ⟨q, 0, none⟩) n cap)) g p (.slice (some ⟨q, 0, none⟩) n cap)) := X3.out.set4 _
  have Y4 : Hid (Bpf (w2.setCell ⟨g, 4, none⟩ (.slice (some ⟨q, 0, none⟩) n cap)) (g + 1) ⟨0, 0, 0, 0, []⟩ (.slice none 0 0)) := Y3.out.fr (set_fr w2 g 4 _) (by omega)
  obtain ⟨w3, ew3⟩ : ∃ w3, Hid (w2.setCell ⟨g, 4, none⟩ (.slice (some ⟨q, 0, none⟩) n cap) = w3) := ⟨_, (rfl : _ = _)⟩
  have x4 := X3.out.bx.c4
  have xz := X3.out.fz 4
  have qb : Hid (wa.heap.size ≤ q) := (World.ownsRow.lt hrow2 q rfl).1
  rw [ew3.out] at X4 Y4
  have hn1 : n ≤ cap := by omega
  have hnI : (n : Int) ≤ (cap : Int) := by omega
  clear ho2 hg2 hn2 hrow2 hlen own1 own1' C7 X1 X2
  go_upto_region 3 with fail
  rw [ew3.out]
  obtain ⟨a0, a1, a2, a3, a4⟩ := X4.out.bx
  obtain ⟨b0, b1, b2, b3, b4⟩ := Y4.out.bx
  have bz := Y4.out.fz
  go_wp2
  obtain ⟨z0, z1, z2, z3, z4⟩ := Y4.out.bx.set p (.slice (some ⟨q, 0, none⟩) n cap)
  refine bodyPost_ret (v := .tuple #[pv p (.slice (some ⟨q, 0, none⟩) n cap), .slice (some ⟨q, 0, none⟩) (n + 1) cap]) (by unfold pv; simp [results, Tryd.results7, go_sem, z0, z1, z2, z3, z4]) rfl ⟨q, cap, rfl, ?_, ?_⟩
  · have h1 := (own2.out.base (C := w.heap.size) (by have := sa.out; have := hg.out; omega))
    rw [← ew3.out]
    exact (h1.fr (set_fr w2 g 4 _) fun b hb h2 => by cases hb; have h3 : q = g := h2; have := qb.out; have := sa.out; omega).fr (set5_fr _ (g + 1) _ _ _ _ _) fun b hb h2 => by cases hb; have h3 : q = g + 1 := h2; have := qb.out; have := sa.out; omega
  · have h1 : Below w.heap.size w w2 := F2.out.below Ba.out Ba.out.size fun k _ hk => Nat.le_trans Ba.out.size hk
    have h2 : Below w.heap.size w w3 := by rw [← ew3.out]; exact h1.setCell (p := ⟨g, 4, none⟩) (by rw [← hg.out]; exact Nat.le_refl _) _
    exact (set5_fr w3 (g + 1) _ _ _ _ _).below h2 h2.size fun k _ hk => by have := hg.out; omega
theorem wk_val (A : Int) (c n : Nat) (hA : 0 ≤ A ∧ A ≤ 150000000000000) (hc : c ≤ 262144) : ∃ P : Nat, c ≤ P ∧ P ≤ 17039360 ∧ wrap64 (A + wrap64 ((c : Int) * wrap64 (1 + (n : Int).tmod 65))) = A + P := by
  have h1 : (n : Int).tmod 65 = ((n % 65 : Nat) : Int) := (Int.ofNat_tmod n 65).symm
  have h2 := Nat.mod_lt n (show 65 > 0 by decide)
  rw [h1]
  generalize n % 65 = r at h2
  have e1 : wrap64 (1 + (r : Int)) = ((1 + r : Nat) : Int) := by unfold wrap64; omega
  rw [e1, ← Int.natCast_mul]
  have h3 : c * (1 + r) ≤ 262144 * 65 := Nat.mul_le_mul hc (by omega)
  have h4 : c ≤ c * (1 + r) := Nat.le_mul_of_pos_right c (by omega)
  clear e1
  generalize c * (1 + r) = P at h3 h4
  refine ⟨P, h4, h3, ?_⟩
  have e2 : wrap64 (P : Int) = (P : Int) := by unfold wrap64; omega
  rw [e2]
  clear e2
  unfold wrap64; omega
theorem sumc_take {ss : List Sp.St} {k : Nat} {s : Sp.St} (h : ss[k]? = some s) : Kc.sumc (ss.take (k + 1)) = Kc.sumc (ss.take k) + s.count := by
  rw [List.take_add_one, h]; exact Kc.sumc_snoc s _
/-- what a bound of work says -/
def WkP (ss : List Sp.St) (N : Int) : Prop := N ≤ 1048576 → (∀ s ∈ ss, Sp.fm s = true) → Kc.sumc ss ≤ 1048576
set_option maxHeartbeats 2000000 in
theorem work18_c (p : Sp.Pg) (ao : Option Addr) (m c : Nat) (w : World) (hs : Ss w ao p.steps) (hm : m = p.steps.length) (hb : m ≤ 140737488355328) :
    Calls Tryd.prog 6 #[pv p (.slice ao m c)] w fun e w' => (∃ N : Int, e = .returned (.int .i64 N) ∧ WkP p.steps N) ∧ Below w.heap.size w w' := by
  obtain ⟨g, hg⟩ : ∃ g, Hid (w.heap.size = g) := ⟨_, (rfl : _ = _)⟩
  obtain ⟨wa, ewa⟩ : ∃ wa, Hid (w.alloc (.cells #[.int .i64 p.len, .int .i64 p.cells, .int .i64 p.inn, .int .i64 p.out, .slice ao m c] 24) = wa) := ⟨_, (rfl : _ = _)⟩
  have Ba : Hid (Below w.heap.size w wa) := by rw [← ewa.out]; exact (Below.refl _ _).alloc (Nat.le_refl _) _
  have X1 : Hid (Bpg wa g p (.slice ao m c)) := by show Bpg _ _ _ _; rw [← ewa.out, ← hg.out]; exact Bpg.new w p _
  have sH : Hid (Ss wa ao p.steps) := hs.below Ba.out
  have hmH : Hid (m = p.steps.length) := hm
  clear hs hm
  unfold pv
  go_enter Tryd.func6, Tryd.ntmps6
  go_upto_region 1 with fail
  rw [ewa.out, hg.out]
  obtain ⟨x0, x1, x2, x3, x4⟩ := X1.out
  go_wp2
  clear x0 x1 x2 x3 x4
  go_loopw [3, 13] (fun a i wr => ∃ (k : Nat) (A : Int), k ≤ m ∧ i = .int .i64 k ∧ a = .int .i64 A ∧ Hid (Below wa.heap.size wa wr) ∧ Hid (0 ≤ A ∧ A ≤ 140737488355328 ∧ Kc.sumc (p.steps.take k) ≤ A)) (fun _ i _ => m - (intOf i).toNat)
  case atStart => exact ⟨0, m, Nat.zero_le _, rfl, rfl, Below.refl _ _, ⟨by omega, by omega, by rw [List.take_zero]; show (0 : Int) ≤ _; omega⟩⟩
  case round =>
    obtain ⟨k, A, hk, rfl, rfl, Bk, hAk⟩ := hrel
    by_cases hlt : k < m
    · have hlt' : (k : Int) < (m : Int) := by omega
      obtain ⟨s, hs⟩ : ∃ s, p.steps[k]? = some s := ⟨_, List.getElem?_eq_getElem (by rw [← hmH.out]; exact hlt)⟩
      obtain ⟨q, o, rfl, hat⟩ := sH.out k s hs
      obtain ⟨y0, y1, y2, y3, y4, y5, y6⟩ := hat.below Bk.out
      obtain ⟨wb, ewb⟩ : ∃ wb, Hid (wr.alloc (.cells #[.int .i64 s.op, .int .i64 s.dst, .int .i64 s.src, .int .i64 s.jump, .int .i64 s.count, .int .i64 s.n, .int .i64 s.k] 39) = wb) := ⟨_, (rfl : _ = _)⟩
      obtain ⟨G, hG⟩ : ∃ g, Hid (wr.heap.size = g) := ⟨_, (rfl : _ = _)⟩
      have Bb : Hid (Below wa.heap.size wa wb) := by rw [← ewb.out]; exact Bk.out.alloc Bk.out.size _
      have S1 : Hid (Bst wb G s.op s.dst s.src s.jump s.count s.n s.k) := by show Bst _ _ _ _ _ _ _ _ _; rw [← ewb.out, ← hG.out]; exact Bst.new wr _ _ _ _ _ _ _
      have hf : Hid (Calls Tryd.prog 19 #[sv s] wb fun e w' => e = .returned (.int .i64 (fnn (Sp.fm s))) ∧ Below wb.heap.size wb w') := dform_c s wb
      obtain ⟨b, hb2⟩ : ∃ b, Hid (Sp.fm s = b) := ⟨_, (rfl : _ = _)⟩
      rw [hb2.out] at hf
      obtain ⟨sc, hsc⟩ : ∃ z, Hid (s.count = z) := ⟨_, (rfl : _ = _)⟩
      obtain ⟨sn, hsn⟩ : ∃ z, Hid (s.n = z) := ⟨_, (rfl : _ = _)⟩
      unfold sv sva at hf
      have hsH : Hid (p.steps[k]? = some s) := hs
      clear hat hs
      go_upto_region 5 with fail
      rw [ewb.out, hG.out]
      clear y0 y1 y2 y3 y4 y5 y6
      obtain ⟨y0, y1, y2, y3, y4, y5, y6⟩ := S1.out
      go_wp2_with fail
      refine hf.out.mono ?_
      rintro e w1 ⟨rfl, B1⟩
      have hB1 : Hid (Below wa.heap.size wa w1) := Bb.out.trans (B1.mono Bb.out.size)
      have hBw : Hid (Below w.heap.size w w1) := Ba.out.trans (hB1.out.mono Ba.out.size)
      have S2 := S1.out.below B1
      rw [hsc.out, hsn.out] at S2
      clear y0 y1 y2 y3 y4 y5 y6 B1 hf
      obtain ⟨y0, y1, y2, y3, y4, y5, y6⟩ := S2
      cases b with
      | false =>
        have z1 : fnn false = 9 := rfl
        have hP : Hid (WkP p.steps A) := fun _ h2 => by have := h2 s (List.mem_of_getElem? hsH.out); rw [hb2.out] at this; cases this
        go_wp2
        go_ret
        exact ⟨⟨_, rfl, hP.out⟩, hBw.out⟩
      | true =>
        have z1 : fnn true = 0 := rfl
        go_upto_region 8 with fail
        obtain ⟨_, _, _, _, c', n', _, _, _, _, h5, h6, hFo, _⟩ := fo_of hb2.out
        rw [hsc.out] at h5
        rw [hsn.out] at h6
        obtain ⟨P, hP1, hP2, hP3⟩ := wk_val A c' n' ⟨hAk.out.1, by have := hAk.out.2.1; omega⟩ hFo.c2
        rw [← h5, ← h6] at hP3
        obtain ⟨A2, hA2⟩ : ∃ z, Hid (A + (P : Int) = z) := ⟨_, (rfl : _ = _)⟩
        rw [hP3, hA2.out]
        have hst : Hid (0 ≤ A2 ∧ A2 ≤ 140754527715328 ∧ Kc.sumc (p.steps.take (k + 1)) ≤ A2) := by
          show _ ∧ _
          rw [sumc_take hsH.out, hsc.out, h5]
          have h1 := hAk.out
          have h2 := hA2.out
          clear hP3 h5 h6
          omega
        clear hP1 hP2 hP3 hA2 h5 h6 hFo
        generalize wrap64 (sc * wrap64 (1 + sn.tmod 65)) = A3
        generalize wrap64 (1 + sn.tmod 65) = A4
        generalize sn.tmod 65 = A5
        clear y0 y1 y2 y3 y4 y5 y6
        by_cases hgt : 1099511627776 < A2
        · have hP : Hid (WkP p.steps A2) := fun h1 _ => by omega
          go_wp2
          go_ret
          exact ⟨⟨_, rfl, hP.out⟩, hBw.out⟩
        · have hgt2 : decide (1099511627776 < A2) = false := decide_eq_false hgt
          have hst2 : Hid (0 ≤ A2 ∧ A2 ≤ 140737488355328 ∧ Kc.sumc (p.steps.take (k + 1)) ≤ A2) := ⟨hst.out.1, by omega, hst.out.2.2⟩
          clear hgt
          go_wp2
          go_roundw
          case rel => exact ⟨k + 1, A2, by omega, by go_num, rfl, hB1, hst2⟩
          case measure => simp [intOf]; omega
    · have hlt' : decide ((k : Int) < (m : Int)) = false := decide_eq_false (by omega)
      have hlt2 : ¬ k < m := hlt
      have hP : Hid (WkP p.steps A) := fun h1 _ => by
        have := hAk.out.2.2
        rw [List.take_of_length_le (by have := hmH.out; omega)] at this
        omega
      go_wp2
      go_ret
      exact ⟨⟨_, rfl, hP.out⟩, Ba.out.trans (Bk.out.mono Ba.out.size)⟩
end Go.Proofs.YtedfjedmapimnaaDoor
