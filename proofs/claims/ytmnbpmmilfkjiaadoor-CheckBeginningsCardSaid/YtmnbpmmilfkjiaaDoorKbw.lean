/-
  Programs of steps that make noughts: how many acts they are; a program that grows by a step, in memory.
-/
import Derived.Test.YtmnbpmmilfkjiaaDoorLvv
import Derived.Test.YtmnbpmmilfkjiaaDoorSl1
import Derived.Test.YtmnbpmmilfkjiaaDoorSl2
import Derived.Test.YtmnbpmmilfkjiaaDoorProg
import Derived.Test.YtmnbpmmilfkjiaaDoorWrd
import Derived.Deep.RegionLaw
import Derived.Laws.CopyOwn
import Derived.OwnWalk
import Derived.Deep.RegionHeldLaw
namespace Go.Proofs.YtmnbpmmilfkjiaaDoor.Kc
open Go.RowKit
def zst (c : Int) : Sp.St := ⟨3, 0, 0, 0, c, 0, 0⟩
theorem zst_fm {c : Int} (h1 : 1 ≤ c) (h2 : c ≤ 262144) : Sp.fm (zst c) = true := by
  rw [← Sp.dfm_eq]
  simp [Sp.dfm, zst, Sp.dgood, Sp.num, Sp.hs, Sp.hj, Sp.hn, Sp.hk, Sp.wi, Sp.kn, h1, h2]
theorem zst_gd {c : Int} (h1 : 1 ≤ c) (h2 : c ≤ 262144) : gdS (zst c) 262144 = true := by
  unfold gdS
  rw [zst_fm h1 h2, Bool.true_and]
  obtain ⟨n, rfl⟩ : ∃ n : Nat, c = (n : Int) := ⟨c.toNat, by omega⟩
  have e : touS (zst n) = ⟨[], [⟨0, 1, n⟩], false⟩ := rfl
  rw [e]
  have hb : (To.mk [] [⟨0, 1, n⟩] false).below 262144 = true := by
    rw [below_iff]
    exact ⟨by simp, by simp [last_eq]; omega⟩
  rw [hb]
  simp [To.clash]
theorem flt_snoc (cells : Int) (s : Sp.St) : ∀ (l : List Sp.St) (i : Nat) (a : Int), flt cells i a (l ++ [s]) = if flt cells i a l < 0 then flt cells (i + l.length) (a + sumc l) [s] else flt cells i a l
  | [], i, a => by simp [flt, sumc]
  | t :: l, i, a => by
    rw [List.cons_append]
    show (bif (i == 65536) || !gdS t cells then (i : Int) else bif decide (67108864 < a + t.count) then (i : Int) else flt cells (i + 1) (a + t.count) (l ++ [s])) = if (bif (i == 65536) || !gdS t cells then (i : Int) else bif decide (67108864 < a + t.count) then (i : Int) else flt cells (i + 1) (a + t.count) l) < 0 then _ else (bif (i == 65536) || !gdS t cells then (i : Int) else bif decide (67108864 < a + t.count) then (i : Int) else flt cells (i + 1) (a + t.count) l)
    cases (i == 65536) || !gdS t cells with
    | true => simp only [cond_true]; rw [if_neg (by omega)]
    | false =>
      simp only [cond_false]
      cases decide (67108864 < a + t.count) with
      | true => simp only [cond_true]; rw [if_neg (by omega)]
      | false =>
        simp only [cond_false]
        rw [flt_snoc cells s l (i + 1) (a + t.count), List.length_cons]
        have e1 : i + 1 + l.length = i + (l.length + 1) := by omega
        have e2 : a + t.count + sumc l = a + sumc (t :: l) := by show _ = a + (t.count + sumc l); omega
        rw [e1, e2]
theorem sumc_snoc (s : Sp.St) : ∀ l, sumc (l ++ [s]) = sumc l + s.count
  | [] => by simp [sumc]
  | t :: l => by rw [List.cons_append]; unfold sumc; rw [sumc_snoc s l]; omega
end Go.Proofs.YtmnbpmmilfkjiaaDoor.Kc
namespace Go.Proofs.YtmnbpmmilfkjiaaDoor
open Flo Go.RowKit
/-- a box of a program: its cells, and that they may be written -/
structure Bp8 (w : World) (b : Nat) (p : Sp.Pg) (v : Value) : Prop where
  bx : Bpg w b p v
  fz : ∀ i, w.frozen? ⟨b, i, none⟩ = false
theorem Bp8.blk {w w' : World} {b : Nat} {p : Sp.Pg} {v : Value} (h : Bp8 w b p v) (e : w'.heap[b]? = w.heap[b]?) : Bp8 w' b p v :=
  ⟨⟨(World.cell?_of_block (a := ⟨b, 0, none⟩) e).trans h.bx.c0, (World.cell?_of_block (a := ⟨b, 1, none⟩) e).trans h.bx.c1, (World.cell?_of_block (a := ⟨b, 2, none⟩) e).trans h.bx.c2, (World.cell?_of_block (a := ⟨b, 3, none⟩) e).trans h.bx.c3, (World.cell?_of_block (a := ⟨b, 4, none⟩) e).trans h.bx.c4⟩, fun i => (World.frozen?_of_block (a := ⟨b, i, none⟩) e).trans (h.fz i)⟩
theorem Bp8.new (w : World) (p : Sp.Pg) (v : Value) : Bp8 (w.alloc (.cells #[.int .i64 p.len, .int .i64 p.cells, .int .i64 p.inn, .int .i64 p.out, v] 24)) w.heap.size p v := ⟨Bpg.new w p v, fun i => by simp⟩
theorem Bp8.set4 {w : World} {b : Nat} {p : Sp.Pg} {v : Value} (h : Bp8 w b p v) (v' : Value) : Bp8 (w.setCell ⟨b, 4, none⟩ v') b p v' :=
  ⟨⟨by simp [World.cell?_setCell_other, h.bx.c0], by simp [World.cell?_setCell_other, h.bx.c1], by simp [World.cell?_setCell_other, h.bx.c2], by simp [World.cell?_setCell_other, h.bx.c3], World.cell?_setCell_same _ _ _ h.bx.c4⟩, fun i => by rw [World.frozen?_setCell]; exact h.fz i⟩
/-- a program that grows: its box, and its steps in a row of the call's own behind it -/
structure Cw (G : Nat) (w wx : World) (hd : Sp.Pg) (v : Value) (ss : List Sp.St) : Prop where
  y : Bp8 wx G hd v
  ow : OwS wx (G + 1) v ss
  be : Below w.heap.size w wx
  hG : w.heap.size ≤ G
  sz : G + 1 ≤ wx.heap.size
section
variable {G : Nat} {w wx wy : World} {hd : Sp.Pg} {v : Value} {ss : List Sp.St}
theorem Cw.call (h : Cw G w wx hd v ss) (hb : Below wx.heap.size wx wy) : Cw G w wy hd v ss :=
  ⟨h.y.blk (hb.block G h.sz), h.ow.kept (row := none) ⟨hb.os, hb.tape, hb.output, hb.size, fun j hj _ => hb.block j hj⟩ (by cases hv : v.ownBlock <;> simp), h.be.trans (hb.mono h.be.size), h.hG, Nat.le_trans h.sz hb.size⟩
theorem Cw.push (h : Cw G w wx hd v ss) {v' : Value} {ss' : List Sp.St} (ho : OwS wy (G + 1) v' ss') (hg : wx.grownBy wy v.ownBlock) :
    Bp8 wy G hd v ∧ Cw G w (wy.setCell ⟨G, 4, none⟩ v') hd v' ss' := by
  have n1 : ¬ some G = v.ownBlock := fun e => by have := (World.ownsRow.lt h.ow G e.symm).1; omega
  have y1 : Bp8 wy G hd v := h.y.blk (hg.block G h.sz n1)
  have hsz := hg.size
  have hbl : Below w.heap.size w wy := h.be.grown hg h.be.size fun k hk => Nat.le_trans (Nat.le_trans h.hG (Nat.le_succ _)) (World.ownsRow.lt h.ow k hk).1
  refine ⟨y1, y1.set4 v', ?_, hbl.setCell (p := ⟨G, 4, none⟩) h.hG v', h.hG, by simp; exact Nat.le_trans h.sz hsz⟩
  exact ownsRow_setCell_below ho (a := ⟨G, 4, none⟩) (Nat.lt_succ_self G) v'
end
end Go.Proofs.YtmnbpmmilfkjiaaDoor
/-
  The statements of layer 18: copied, work.
-/
namespace Go.Proofs.YtmnbpmmilfkjiaaDoor
open Flo Go.RowKit
set_option maxHeartbeats 4000000 in
set_option maxRecDepth 100000 in
theorem copied18_c (p : Sp.Pg) (ao : Option Addr) (n c : Nat) (w : World) (ha : Ss w ao p.steps) (hc : ao = none → c = 0) (hn : n = p.steps.length) (hb : n * 56 ≤ 140737488351232) :
    Calls Tryd.prog 10 #[pv p (.slice ao n c)] w fun e w' => CpE p n w e w' := by
  obtain ⟨g, hg⟩ : ∃ g, Hid (w.heap.size = g) := ⟨_, (rfl : _ = _)⟩
  obtain ⟨wa, ewa⟩ : ∃ wa, Hid ((w.alloc (.cells #[.int .i64 p.len, .int .i64 p.cells, .int .i64 p.inn, .int .i64 p.out, .slice ao n c] 24)).alloc (.cells #[.int .i64 0, .int .i64 0, .int .i64 0, .int .i64 0, .slice none 0 0] 24) = wa) := ⟨_, (rfl : _ = _)⟩
  have Ba : Hid (Below w.heap.size w wa) := by rw [← ewa.out]; exact ((Below.refl _ _).alloc (Nat.le_refl _) _).alloc (by simp) _
  have X1 : Hid (Bpf wa g p (.slice ao n c)) := by
    rw [← ewa.out, ← hg.out]
    exact (Bpf.new w p (.slice ao n c)).fr (fr_new (fun _ => False) _ _) id
  have X2 : Hid (Bpf wa (g + 1) ⟨0, 0, 0, 0, []⟩ (.slice none 0 0)) := by
    rw [← ewa.out]
    have := Bpf.new (w.alloc (.cells #[.int .i64 p.len, .int .i64 p.cells, .int .i64 p.inn, .int .i64 p.out, .slice ao n c] 24)) ⟨0, 0, 0, 0, []⟩ (.slice none 0 0)
    have e : (w.alloc (.cells #[.int .i64 p.len, .int .i64 p.cells, .int .i64 p.inn, .int .i64 p.out, .slice ao n c] 24)).heap.size = g + 1 := by rw [← hg.out]; simp
    rw [e] at this
    exact this
  have sa : Hid (wa.heap.size = g + 2) := by show _ = _; rw [← ewa.out, ← hg.out]; simp
  have src : Hid (SrcS wa (.slice ao n c) p.steps) := by rw [hn]; exact (ha.src hc).below Ba.out
  have hb2 : Hid (([] ++ p.steps).length = n) := by rw [hn]; rfl
  have hbH : Hid (n * 56 ≤ 140737488351232) := hb
  have src2 : Hid (SrcS (wa.alloc (.cells #[] 39)) (.slice ao n c) p.steps) := src.out.below ((Below.refl _ _).alloc (Nat.le_refl _) _)
  have own0 : Hid (OwS (wa.alloc (.cells #[] 39)) wa.heap.size (.slice (some ⟨wa.heap.size, 0, none⟩) 0 0) []) := World.ownsRow_made wa #[] 0 (Nat.le_refl _) (by decide) rfl
  have hk1 : Hid ((([] : List Sp.St).length + p.steps.length) * 56 ≤ 140737488355328) := by show _ ≤ _; rw [← hn]; simp; omega
  clear ha hc hn hb src
  unfold pv
  go_enter Tryd.func10, Tryd.ntmps10
  go_upto_region 1 with fail
  rw [ewa.out, hg.out]
  obtain ⟨x0, x1, x2, x3, x4⟩ := X1.out.bx
  have x4' := fun X => cell_alloc x4 X
  go_wp2_with (first | (at_builtin; refine appSs _ rfl _ _ rfl wa.heap.size [] p.steps (.slice ao n c) wa.heap.size 0 0 rfl rfl own0.out src2.out hk1.out (by simp) ?_) | fail)
  intro v1 w1 ho1 hg1 hn1
  have sz1 : wa.heap.size ≤ w1.heap.size := by have := hg1.size; simp at this; omega
  have F1 : Hid (Fr (fun k => wa.heap.size ≤ k) wa w1) := ((Fr.refl (fun k => wa.heap.size ≤ k) wa).alloc _).grown hg1 fun k hk => by cases hk; exact Nat.le_refl _
  have own1 : Hid (OwS w1 wa.heap.size v1 p.steps) := ho1
  have own1' : Hid (∀ o, OwS (w1.alloc o) wa.heap.size v1 p.steps) := fun o => World.ownsRow.alloc ho1 o
  have C7 : Hid (SAt (w1.alloc (.cells #[.int .i64 (-77), .int .i64 0, .int .i64 0, .int .i64 0, .int .i64 0, .int .i64 0, .int .i64 0] 39)) w1.heap.size 0 s77) := ⟨by simp [s77], by simp [s77], by simp [s77], by simp [s77], by simp [s77], by simp [s77], by simp [s77]⟩
  have hk2 : Hid ((p.steps.length + 1) * 56 ≤ 140737488355328) := by have h1 := hbH.out; have h2 := hb2.out; simp at h2; show _ ≤ _; omega
  have hB2 : Hid (∀ o, wa.heap.size ≤ (w1.alloc o).heap.size) := fun o => by simp; omega
  clear ho1 hg1 hn1 x0 x1 x2 x3 x4 x4' own0 src2
  go_wp2_with (first | (at_builtin; refine appSt _ rfl _ _ rfl wa.heap.size p.steps s77 w1.heap.size v1 rfl rfl (own1'.out _) C7.out hk2.out (hB2.out _) ?_) | fail)
  intro v2 w2 ho2 hg2 hn2
  have F2 : Hid (Fr (fun k => wa.heap.size ≤ k) wa w2) := by
    have f1 := F1.out.alloc (.cells #[.int .i64 (-77), .int .i64 0, .int .i64 0, .int .i64 0, .int .i64 0, .int .i64 0, .int .i64 0] 39)
    exact f1.grown hg2 fun k hk => (World.ownsRow.lt own1.out k hk).1
  have own2 : Hid (OwS w2 wa.heap.size v2 (p.steps ++ [s77])) := ho2
  have hlen : (p.steps ++ [s77]).length = n + 1 := by have h2 := hb2.out; simp at h2; simp [h2]
  have hrow2 : w2.ownsRow wa.heap.size 39 7 v2 (p.steps ++ [s77]).length (scs (p.steps ++ [s77])) := ho2
  rw [hlen] at hrow2
  obtain ⟨q, cap, rfl, hqc⟩ : ∃ q cap, v2 = .slice (some ⟨q, 0, none⟩) (n + 1) cap ∧ n + 1 ≤ cap := by
    rcases hrow2.2 with ⟨_, h1⟩ | ⟨q, cap, cur, h1, _, _, h4, _⟩
    · omega
    · exact ⟨q, cap, h1, h4⟩
  have X3 : Hid (Bpf w2 g p (.slice ao n c)) := X1.out.fr F2.out (by have := sa.out; omega)
  have Y3 : Hid (Bpf w2 (g + 1) ⟨0, 0, 0, 0, []⟩ (.slice none 0 0)) := X2.out.fr F2.out (by have := sa.out; omega)
  have X4 : Hid (Bpf (w2.setCell ⟨g, 4, none⟩ (.slice (some ⟨q, 0, none⟩) n cap)) g p (.slice (some ⟨q, 0, none⟩) n cap)) := X3.out.set4 _
  have Y4 : Hid (Bpf (w2.setCell ⟨g, 4, none⟩ (.slice (some ⟨q, 0, none⟩) n cap)) (g + 1) ⟨0, 0, 0, 0, []⟩ (.slice none 0 0)) := Y3.out.fr (set_fr w2 g 4 _) (by omega)
  obtain ⟨w3, ew3⟩ : ∃ w3, Hid (w2.setCell ⟨g, 4, none⟩ (.slice (some ⟨q, 0, none⟩) n cap) = w3) := ⟨_, (rfl : _ = _)⟩
  have x4 := X3.out.bx.c4
  have xz := X3.out.fz 4
  have qb : Hid (wa.heap.size ≤ q) := (World.ownsRow.lt hrow2 q rfl).1
  rw [ew3.out] at X4 Y4
  have hn1 : n ≤ cap := by omega
  have hnI : (n : Int) ≤ (cap : Int) := by omega
  clear ho2 hg2 hn2 hrow2 hlen own1 own1' C7 X1 X2
  go_upto_region 3 with fail
  rw [ew3.out]
  obtain ⟨a0, a1, a2, a3, a4⟩ := X4.out.bx
  obtain ⟨b0, b1, b2, b3, b4⟩ := Y4.out.bx
  have bz := Y4.out.fz
  go_wp2
  obtain ⟨z0, z1, z2, z3, z4⟩ := Y4.out.bx.set p (.slice (some ⟨q, 0, none⟩) n cap)
  refine bodyPost_ret (v := .tuple #[pv p (.slice (some ⟨q, 0, none⟩) n cap), .slice (some ⟨q, 0, none⟩) (n + 1) cap]) (by unfold pv; simp [results, Tryd.results10, go_sem, z0, z1, z2, z3, z4]) rfl ⟨q, cap, rfl, ?_, ?_⟩
  · have h1 := (own2.out.base (C := w.heap.size) (by have := sa.out; have := hg.out; omega))
    rw [← ew3.out]
    exact (h1.fr (set_fr w2 g 4 _) fun b hb h2 => by cases hb; have h3 : q = g := h2; have := qb.out; have := sa.out; omega).fr (set5_fr _ (g + 1) _ _ _ _ _) fun b hb h2 => by cases hb; have h3 : q = g + 1 := h2; have := qb.out; have := sa.out; omega
  · have h1 : Below w.heap.size w w2 := F2.out.below Ba.out Ba.out.size fun k _ hk => Nat.le_trans Ba.out.size hk
    have h2 : Below w.heap.size w w3 := by rw [← ew3.out]; exact h1.setCell (p := ⟨g, 4, none⟩) (by rw [← hg.out]; exact Nat.le_refl _) _
    exact (set5_fr w3 (g + 1) _ _ _ _ _).below h2 h2.size fun k _ hk => by have := hg.out; omega
theorem wk_val (A : Int) (c n : Nat) (hA : 0 ≤ A ∧ A ≤ 150000000000000) (hc : c ≤ 262144) : ∃ P : Nat, c ≤ P ∧ P ≤ 17039360 ∧ wrap64 (A + wrap64 ((c : Int) * wrap64 (1 + (n : Int).tmod 65))) = A + P := by
  have h1 : (n : Int).tmod 65 = ((n % 65 : Nat) : Int) := (Int.ofNat_tmod n 65).symm
  have h2 := Nat.mod_lt n (show 65 > 0 by decide)
  rw [h1]
  generalize n % 65 = r at h2
  have e1 : wrap64 (1 + (r : Int)) = ((1 + r : Nat) : Int) := by unfold wrap64; omega
  rw [e1, ← Int.natCast_mul]
  have h3 : c * (1 + r) ≤ 262144 * 65 := Nat.mul_le_mul hc (by omega)
  have h4 : c ≤ c * (1 + r) := Nat.le_mul_of_pos_right c (by omega)
  clear e1
  generalize c * (1 + r) = P at h3 h4
  refine ⟨P, h4, h3, ?_⟩
  have e2 : wrap64 (P : Int) = (P : Int) := by unfold wrap64; omega
  rw [e2]
  clear e2
  unfold wrap64; omega
theorem sumc_take {ss : List Sp.St} {k : Nat} {s : Sp.St} (h : ss[k]? = some s) : Kc.sumc (ss.take (k + 1)) = Kc.sumc (ss.take k) + s.count := by
  rw [List.take_add_one, h]; exact Kc.sumc_snoc s _
/-- what a bound of work says -/
def WkP (ss : List Sp.St) (N : Int) : Prop := N ≤ 1048576 → (∀ s ∈ ss, Sp.fm s = true) → Kc.sumc ss ≤ 1048576
set_option maxHeartbeats 2000000 in
theorem work18_c (p : Sp.Pg) (ao : Option Addr) (m c : Nat) (w : World) (hs : Ss w ao p.steps) (hm : m = p.steps.length) (hb : m ≤ 140737488355328) :
    Calls Tryd.prog 9 #[pv p (.slice ao m c)] w fun e w' => (∃ N : Int, e = .returned (.int .i64 N) ∧ WkP p.steps N) ∧ Below w.heap.size w w' := by
  obtain ⟨g, hg⟩ : ∃ g, Hid (w.heap.size = g) := ⟨_, (rfl : _ = _)⟩
  obtain ⟨wa, ewa⟩ : ∃ wa, Hid (w.alloc (.cells #[.int .i64 p.len, .int .i64 p.cells, .int .i64 p.inn, .int .i64 p.out, .slice ao m c] 24) = wa) := ⟨_, (rfl : _ = _)⟩
  have Ba : Hid (Below w.heap.size w wa) := by rw [← ewa.out]; exact (Below.refl _ _).alloc (Nat.le_refl _) _
  have X1 : Hid (Bpg wa g p (.slice ao m c)) := by show Bpg _ _ _ _; rw [← ewa.out, ← hg.out]; exact Bpg.new w p _
  have sH : Hid (Ss wa ao p.steps) := hs.below Ba.out
  have hmH : Hid (m = p.steps.length) := hm
  clear hs hm
  unfold pv
  go_enter Tryd.func9, Tryd.ntmps9
  go_upto_region 1 with fail
  rw [ewa.out, hg.out]
  obtain ⟨x0, x1, x2, x3, x4⟩ := X1.out
  go_wp2
  clear x0 x1 x2 x3 x4
  go_loopw [3, 13] (fun a i wr => ∃ (k : Nat) (A : Int), k ≤ m ∧ i = .int .i64 k ∧ a = .int .i64 A ∧ Hid (Below wa.heap.size wa wr) ∧ Hid (0 ≤ A ∧ A ≤ 140737488355328 ∧ Kc.sumc (p.steps.take k) ≤ A)) (fun _ i _ => m - (intOf i).toNat)
  case atStart => exact ⟨0, m, Nat.zero_le _, rfl, rfl, Below.refl _ _, ⟨by omega, by omega, by rw [List.take_zero]; show (0 : Int) ≤ _; omega⟩⟩
  case round =>
    obtain ⟨k, A, hk, rfl, rfl, Bk, hAk⟩ := hrel
    by_cases hlt : k < m
    · have hlt' : (k : Int) < (m : Int) := by omega
      obtain ⟨s, hs⟩ : ∃ s, p.steps[k]? = some s := ⟨_, List.getElem?_eq_getElem (by rw [← hmH.out]; exact hlt)⟩
      obtain ⟨q, o, rfl, hat⟩ := sH.out k s hs
      obtain ⟨y0, y1, y2, y3, y4, y5, y6⟩ := hat.below Bk.out
      obtain ⟨wb, ewb⟩ : ∃ wb, Hid (wr.alloc (.cells #[.int .i64 s.op, .int .i64 s.dst, .int .i64 s.src, .int .i64 s.jump, .int .i64 s.count, .int .i64 s.n, .int .i64 s.k] 39) = wb) := ⟨_, (rfl : _ = _)⟩
      obtain ⟨G, hG⟩ : ∃ g, Hid (wr.heap.size = g) := ⟨_, (rfl : _ = _)⟩
      have Bb : Hid (Below wa.heap.size wa wb) := by rw [← ewb.out]; exact Bk.out.alloc Bk.out.size _
      have S1 : Hid (Bst wb G s.op s.dst s.src s.jump s.count s.n s.k) := by show Bst _ _ _ _ _ _ _ _ _; rw [← ewb.out, ← hG.out]; exact Bst.new wr _ _ _ _ _ _ _
      have hf : Hid (Calls Tryd.prog 24 #[sv s] wb fun e w' => e = .returned (.int .i64 (fnn (Sp.fm s))) ∧ Below wb.heap.size wb w') := dform_c s wb
      obtain ⟨b, hb2⟩ : ∃ b, Hid (Sp.fm s = b) := ⟨_, (rfl : _ = _)⟩
      rw [hb2.out] at hf
      obtain ⟨sc, hsc⟩ : ∃ z, Hid (s.count = z) := ⟨_, (rfl : _ = _)⟩
      obtain ⟨sn, hsn⟩ : ∃ z, Hid (s.n = z) := ⟨_, (rfl : _ = _)⟩
      unfold sv sva at hf
      have hsH : Hid (p.steps[k]? = some s) := hs
      clear hat hs
      go_upto_region 5 with fail
      rw [ewb.out, hG.out]
      clear y0 y1 y2 y3 y4 y5 y6
      obtain ⟨y0, y1, y2, y3, y4, y5, y6⟩ := S1.out
      go_wp2_with fail
      refine hf.out.mono ?_
      rintro e w1 ⟨rfl, B1⟩
      have hB1 : Hid (Below wa.heap.size wa w1) := Bb.out.trans (B1.mono Bb.out.size)
      have hBw : Hid (Below w.heap.size w w1) := Ba.out.trans (hB1.out.mono Ba.out.size)
      have S2 := S1.out.below B1
      rw [hsc.out, hsn.out] at S2
      clear y0 y1 y2 y3 y4 y5 y6 B1 hf
      obtain ⟨y0, y1, y2, y3, y4, y5, y6⟩ := S2
      cases b with
      | false =>
        have z1 : fnn false = 9 := rfl
        have hP : Hid (WkP p.steps A) := fun _ h2 => by have := h2 s (List.mem_of_getElem? hsH.out); rw [hb2.out] at this; cases this
        go_wp2
        go_ret
        exact ⟨⟨_, rfl, hP.out⟩, hBw.out⟩
      | true =>
        have z1 : fnn true = 0 := rfl
        go_upto_region 8 with fail
        obtain ⟨_, _, _, _, c', n', _, _, _, _, h5, h6, hFo, _⟩ := fo_of hb2.out
        rw [hsc.out] at h5
        rw [hsn.out] at h6
        obtain ⟨P, hP1, hP2, hP3⟩ := wk_val A c' n' ⟨hAk.out.1, by have := hAk.out.2.1; omega⟩ hFo.c2
        rw [← h5, ← h6] at hP3
        obtain ⟨A2, hA2⟩ : ∃ z, Hid (A + (P : Int) = z) := ⟨_, (rfl : _ = _)⟩
        rw [hP3, hA2.out]
        have hst : Hid (0 ≤ A2 ∧ A2 ≤ 140754527715328 ∧ Kc.sumc (p.steps.take (k + 1)) ≤ A2) := by
          show _ ∧ _
          rw [sumc_take hsH.out, hsc.out, h5]
          have h1 := hAk.out
          have h2 := hA2.out
          clear hP3 h5 h6
          omega
        clear hP1 hP2 hP3 hA2 h5 h6 hFo
        generalize wrap64 (sc * wrap64 (1 + sn.tmod 65)) = A3
        generalize wrap64 (1 + sn.tmod 65) = A4
        generalize sn.tmod 65 = A5
        clear y0 y1 y2 y3 y4 y5 y6
        by_cases hgt : 1099511627776 < A2
        · have hP : Hid (WkP p.steps A2) := fun h1 _ => by omega
          go_wp2
          go_ret
          exact ⟨⟨_, rfl, hP.out⟩, hBw.out⟩
        · have hgt2 : decide (1099511627776 < A2) = false := decide_eq_false hgt
          have hst2 : Hid (0 ≤ A2 ∧ A2 ≤ 140737488355328 ∧ Kc.sumc (p.steps.take (k + 1)) ≤ A2) := ⟨hst.out.1, by omega, hst.out.2.2⟩
          clear hgt
          go_wp2
          go_roundw
          case rel => exact ⟨k + 1, A2, by omega, by go_num, rfl, hB1, hst2⟩
          case measure => simp [intOf]; omega
    · have hlt' : decide ((k : Int) < (m : Int)) = false := decide_eq_false (by omega)
      have hlt2 : ¬ k < m := hlt
      have hP : Hid (WkP p.steps A) := fun h1 _ => by
        have := hAk.out.2.2
        rw [List.take_of_length_le (by have := hmH.out; omega)] at this
        omega
      go_wp2
      go_ret
      exact ⟨⟨_, rfl, hP.out⟩, Ba.out.trans (Bk.out.mono Ba.out.size)⟩
end Go.Proofs.YtmnbpmmilfkjiaaDoor
/-
  Beginnings of programs, more cells, a step more. Plain; and a box of a program that is written over.
-/
namespace Go.Proofs.YtmnbpmmilfkjiaaDoor
open Flo Go.RowKit
theorem flt_cons (c : Int) (i : Nat) (a : Int) (s : Sp.St) (l : List Sp.St) : Kc.flt c i a (s :: l) = bif (i == 65536) || !Kc.gdS s c then (i : Int) else bif decide (67108864 < a + s.count) then (i : Int) else Kc.flt c (i + 1) (a + s.count) l := rfl
theorem flt_pre (c : Int) : ∀ (l : List Sp.St) (i : Nat) (a : Int) (k : Nat), (Kc.flt c i a l = -1 ∨ (i : Int) + k ≤ Kc.flt c i a l) → Kc.flt c i a (l.take k) = -1
  | _, _, _, 0, _ => rfl
  | [], _, _, _ + 1, _ => rfl
  | s :: l, i, a, k + 1, h => by
    rw [List.take_succ_cons, flt_cons]
    rw [flt_cons] at h
    cases e1 : (i == 65536) || !Kc.gdS s c with
    | true => rw [e1, cond_true] at h; omega
    | false =>
      rw [e1, cond_false] at h
      rw [cond_false]
      cases e2 : decide (67108864 < a + s.count) with
      | true => rw [e2, cond_true] at h; omega
      | false =>
        rw [e2, cond_false] at h
        rw [cond_false]
        exact flt_pre c l (i + 1) (a + s.count) k (by omega)
theorem gd_more {s : Sp.St} {c d : Int} (h : Kc.gdS s c = true) (hd : c ≤ d) : Kc.gdS s d = true := by
  unfold Kc.gdS at h ⊢
  rw [Bool.and_eq_true, Bool.and_eq_true] at h ⊢
  refine ⟨h.1, ?_, h.2.2⟩
  have := Kc.below_iff.1 h.2.1
  exact Kc.below_iff.2 ⟨fun r hr => by have := this.1 r hr; omega, fun r hr => by have := this.2 r hr; omega⟩
theorem flt_more {c d : Int} (hd : c ≤ d) : ∀ (l : List Sp.St) (i : Nat) (a : Int), Kc.flt c i a l < 0 → Kc.flt d i a l = -1
  | [], _, _, _ => rfl
  | s :: l, i, a, h => by
    obtain ⟨h1, h2, h3, h4⟩ := flt_step c i a s l h
    unfold Kc.flt
    rw [beq_eq_false_iff_ne.2 h1, gd_more h2 hd, decide_eq_false (by omega)]
    exact flt_more hd l (i + 1) (a + s.count) h4
theorem wi_t {x lo hi : Int} : Sp.wi x lo hi = true ↔ lo ≤ x ∧ x ≤ hi := Sp.wi_iff
theorem hdf_iff {p : Sp.Pg} : Kc.hdf p = true ↔ (1 ≤ p.len ∧ p.len ≤ 16384) ∧ (1 ≤ p.cells ∧ p.cells ≤ 262144) ∧ (0 ≤ p.inn ∧ p.inn ≤ p.cells - p.len) ∧ (0 ≤ p.out ∧ p.out ≤ p.cells - p.len) := by
  unfold Kc.hdf
  simp only [Bool.and_eq_true, wi_t]
  constructor
  · rintro ⟨h1, h2, h3, h4⟩
    have e : wrap64 (p.cells - p.len) = p.cells - p.len := by unfold wrap64; omega
    rw [e] at h3 h4
    exact ⟨h1, h2, h3, h4⟩
  · rintro ⟨h1, h2, h3, h4⟩
    have e : wrap64 (p.cells - p.len) = p.cells - p.len := by unfold wrap64; omega
    rw [e]
    exact ⟨h1, h2, h3, h4⟩
theorem chk_iff {p : Sp.Pg} : Kc.chk p = true ↔ Kc.hdf p = true ∧ Kc.flt p.cells 0 0 p.steps < 0 := by
  unfold Kc.chk; rw [Bool.and_eq_true, decide_eq_true_eq]
theorem chk_more {l c i o d : Int} {ss : List Sp.St} (h : Kc.chk ⟨l, c, i, o, ss⟩ = true) (h1 : c ≤ d) (h2 : d ≤ 262144) : Kc.chk ⟨l, d, i, o, ss⟩ = true := by
  rw [chk_iff] at h ⊢
  refine ⟨?_, ?_⟩
  · have := hdf_iff.1 h.1
    simp only at this
    exact hdf_iff.2 (by simp only; omega)
  · have := flt_more h1 ss 0 0 h.2
    simp only
    omega
theorem flt_one {c : Int} {i : Nat} {a : Int} {s : Sp.St} : Kc.flt c i a [s] < 0 ↔ i ≠ 65536 ∧ Kc.gdS s c = true ∧ a + s.count ≤ 67108864 := by
  constructor
  · intro h
    obtain ⟨h1, h2, h3, _⟩ := flt_step c i a s [] h
    exact ⟨h1, h2, h3⟩
  · rintro ⟨h1, h2, h3⟩
    unfold Kc.flt
    rw [beq_eq_false_iff_ne.2 h1, h2, decide_eq_false (by omega)]
    show (-1 : Int) < 0
    decide
/-- a step more -/
theorem chk_snoc {p : Sp.Pg} {s : Sp.St} (h : Kc.chk p = true) (hl : p.steps.length < 65536) (hs : Kc.sumc p.steps ≤ 1048576) : Kc.chk ⟨p.len, p.cells, p.inn, p.out, p.steps ++ [s]⟩ = Kc.chk ⟨p.len, p.cells, p.inn, p.out, [s]⟩ := by
  rw [chk_iff] at h
  have hh : ∀ ss, Kc.hdf ⟨p.len, p.cells, p.inn, p.out, ss⟩ = Kc.hdf p := fun ss => rfl
  rw [Bool.eq_iff_iff, chk_iff, chk_iff, hh, hh]
  simp only
  rw [Kc.flt_snoc, if_pos h.2, flt_one, flt_one]
  constructor
  · rintro ⟨h1, h2, h3, h4⟩
    exact ⟨h1, by decide, h3, by have := gd_fm h3; omega⟩
  · rintro ⟨h1, h2, h3, h4⟩
    exact ⟨h1, by omega, h3, by have := gd_fm h3; omega⟩
theorem all_fm {c : Int} : ∀ (l : List Sp.St) (i : Nat) (a : Int), Kc.flt c i a l < 0 → ∀ s ∈ l, Sp.fm s = true
  | [], _, _, _, s, hs => by simp at hs
  | t :: l, i, a, h, s, hs => by
    obtain ⟨h1, h2, h3, h4⟩ := flt_step c i a t l h
    rcases List.mem_cons.1 hs with rfl | e
    · unfold Kc.gdS at h2; rw [Bool.and_eq_true] at h2; exact h2.1
    · exact all_fm l (i + 1) (a + t.count) h4 s e
theorem sc_blk8 (w : World) {b j : Nat} (i : Nat) (v : Value) (h : j ≠ b) : (w.setCell ⟨b, i, none⟩ v).heap[j]? = w.heap[j]? := by
  unfold World.setCell
  simp only [Array.getElem?_modify]
  rw [if_neg (fun e => h e.symm)]
/-- a box that is written over, all elder blocks as they were -/
structure Bz (w wz W : World) (G : Nat) (hd : Sp.Pg) (v : Value) : Prop where
  be : Below w.heap.size w W
  sz : G + 1 ≤ W.heap.size
  kp : ∀ k, k < G → W.heap[k]? = wz.heap[k]?
  y : Bp8 W G hd v
  hG : w.heap.size ≤ G
section
variable {w wz W W' : World} {G : Nat} {hd : Sp.Pg} {v : Value}
theorem Bz.call (h : Bz w wz W G hd v) (hb : Below W.heap.size W W') : Bz w wz W' G hd v :=
  ⟨h.be.trans (hb.mono h.be.size), Nat.le_trans h.sz hb.size, fun k hk => (hb.block k (by have := h.sz; omega)).trans (h.kp k hk), h.y.blk (hb.block G h.sz), h.hG⟩
theorem Bz.set4 (h : Bz w wz W G hd v) (v' : Value) : Bz w wz (W.setCell ⟨G, 4, none⟩ v') G hd v' :=
  ⟨h.be.setCell (p := ⟨G, 4, none⟩) h.hG v', by simp; exact h.sz, fun k hk => by rw [sc_blk8 _ _ _ (by omega)]; exact h.kp k hk, h.y.set4 v', h.hG⟩
end
end Go.Proofs.YtmnbpmmilfkjiaaDoor
/-
  append onto a row of one's own, as one step of a region that draws its order.
-/
namespace Go.Proofs.YtmnbpmmilfkjiaaDoor
open Flo Go.RowKit
theorem step_app {P : Program} {ops : Array Oper} {o : Oper} {a : Act} {w : World} {K : Act → World → Prop} {Q : Exit → Act → World → Prop} {E : Prop}
    (hg : o.guard = none) (s x : Operand) (t : TypeId) (hop : o.op = Op.call { callee := Callee.builtin Builtin.append, args := #[s, x], argTypes := #[t, t] })
    (base : Nat) (e : TypeId) (i : TypeInfo) (z : Value) (size bytes : Nat) (h1 : P.underlying t = some (.slice e)) (h2 : P.info? e = some i) (h3 : i.zero = some z) (h4 : i.size = size) (h5 : i.bytes = bytes) (h6 : z.cells.size = size) (h7 : 0 < size)
    (v : Value) (n : Nat) (xs : List Value) (hs : a.eval s = v) (hown : w.ownsRow base e size v n xs)
    (ad : Addr) (m c : Nat) (news : List Value) (hx : a.eval x = .slice (some ad) m c) (hn : news.length = m * size) (hc : ∀ j u, news[j]? = some u → w.cell? (ad.add j) = some u) (h1c : ∀ u ∈ news, u.oneCell' = true)
    (b1 : n + m ≤ maxLen) (b2 : (n + m) * bytes ≤ 140737488355328) (hb : base ≤ w.heap.size)
    (hK : ∀ v' w', w'.ownsRow base e size v' (n + m) (xs ++ news) → w.grownBy w' v.ownBlock → K (a.put o.dst v') w') :
    if Region.wanted o (yielded ops a.tmps) = true then Oper.wp P o a w K Q else E := by
  have hw : Region.wanted o (yielded ops a.tmps) = true := by simp [Region.wanted, hg]
  rw [if_pos hw]
  obtain ⟨v', w', hrun, r1, r2, _⟩ := run_append_own (P := P) w base t o.type e i z size bytes h1 h2 h3 h4 h5 h6 h7 v n xs hown ad m c news hn hc h1c b1 b2 hb
  unfold Oper.wp
  simp [execOp, hop, resolve, invoke, builtin, hs, hx, hrun, Result.andThen]
  exact hK v' w' r1 r2
end Go.Proofs.YtmnbpmmilfkjiaaDoor
namespace Go.Proofs.YtmnbpmmilfkjiaaDoor
open Flo Go.RowKit
theorem step_app2 {P : Program} {ops : Array Oper} {o : Oper} {a : Act} {w : World} {K : Act → World → Prop} {Q : Exit → Act → World → Prop} {E : Prop}
    (hg : o.guard = none) (s x : Operand) (t : TypeId) (hop : o.op = Op.call { callee := Callee.builtin Builtin.append, args := #[s, x], argTypes := #[t, t] })
    (base : Nat) (e : TypeId) (i : TypeInfo) (z : Value) (size bytes : Nat) (h1 : P.underlying t = some (.slice e)) (h2 : P.info? e = some i) (h3 : i.zero = some z) (h4 : i.size = size) (h5 : i.bytes = bytes) (h6 : z.cells.size = size) (h7 : 0 < size)
    (v : Value) (n : Nat) (xs : List Value) (hs : a.eval s = v) (hown : w.ownsRow base e size v n xs)
    (ad : Addr) (m c : Nat) (news : List Value) (hx : a.eval x = .slice (some ad) m c) (hn : news.length = m * size) (hc : ∀ j u, news[j]? = some u → w.cell? (ad.add j) = some u) (h1c : ∀ u ∈ news, u.oneCell' = true)
    (b1 : n + m ≤ maxLen) (b2 : (n + m) * bytes ≤ 140737488355328) (hb : base ≤ w.heap.size)
    (hK : ∀ v' w', w'.ownsRow base e size v' (n + m) (xs ++ news) → w.grownBy w' v.ownBlock → (v' = .slice none 0 0 ↔ v = .slice none 0 0 ∧ m = 0) → K (a.put o.dst v') w') :
    if Region.wanted o (yielded ops a.tmps) = true then Oper.wp P o a w K Q else E := by
  have hw : Region.wanted o (yielded ops a.tmps) = true := by simp [Region.wanted, hg]
  rw [if_pos hw]
  obtain ⟨v', w', hrun, r1, r2, r3⟩ := run_append_own (P := P) w base t o.type e i z size bytes h1 h2 h3 h4 h5 h6 h7 v n xs hown ad m c news hn hc h1c b1 b2 hb
  unfold Oper.wp
  simp [execOp, hop, resolve, invoke, builtin, hs, hx, hrun, Result.andThen]
  exact hK v' w' r1 r2 r3
end Go.Proofs.YtmnbpmmilfkjiaaDoor
/-
  The statement CheckBeginnings: the walk.
-/
namespace Go.Proofs.YtmnbpmmilfkjiaaDoor
open Flo Go.RowKit
theorem cut17 (x : Int) (n : Nat) (hn : n ≤ 65536) : ∃ u m k : Nat, k ≤ n ∧ IntKind.u64.wrap x = (u : Int) ∧ IntKind.i64.wrap ((n : Int) + 1) = (m : Int) ∧ IntKind.u64.wrap (m : Int) = (m : Int) ∧ ((m : Int) == 0) = false ∧ (m : Int) ≠ 0 ∧ (u : Int).tmod (m : Int) = (k : Int) ∧ IntKind.u64.wrap (k : Int) = (k : Int) ∧ IntKind.i64.wrap (k : Int) = (k : Int) := by
  obtain ⟨u, hu⟩ : ∃ u : Nat, IntKind.u64.wrap x = (u : Int) := ⟨(IntKind.u64.wrap x).toNat, by rw [IntKind.wrap_u64]; omega⟩
  have hk := Nat.mod_lt u (show n + 1 > 0 by omega)
  refine ⟨u, n + 1, u % (n + 1), by omega, hu, ?_, ?_, ?_, ?_, ?_, ?_, ?_⟩
  · rw [IntKind.wrap_i64]; omega
  · rw [IntKind.wrap_u64]; omega
  · rw [beq_eq_false_iff_ne]; omega
  · omega
  · rw [← Int.ofNat_tmod]
  · generalize u % (n + 1) = k at hk; rw [IntKind.wrap_u64]; omega
  · generalize u % (n + 1) = k at hk; rw [IntKind.wrap_i64]; omega
theorem fev8_eq (al : List Addr) (b : Bool) (w : World) : (binOp .eql 30 (fev al b) .nilIface).run Tryd.prog w = .ok (.bool b) w := by
  cases b with
  | true => kernel_rfl
  | false => exact nil_c al 8 w
theorem fev8_gd (al : List Addr) (c : Bool) (op : BinOp) (t : TypeId) (x : Operand) (b : Value) (w : World) : (eqGuard op t x (.const .nilIface) (fev al c) b).run Tryd.prog w = .ok () w := by
  cases c
  · exact guard_c al 8 op t x _ b w
  · unfold fev; cases op <;> cases b <;> first | rfl | (simp [eqGuard, go_sem]; done) | kernel_rfl
theorem own29 {w1 : World} {B n : Nat} {v : Value} {ss : List Sp.St} (h : OwS w1 B v ss) (hn : ss.length = n) (o : Obj) : (w1.alloc o).ownsRow B 39 7 v n (scs ss) := by
  have h9 : w1.ownsRow B 39 7 v ss.length (scs ss) := h
  rw [hn] at h9
  exact h9.alloc o
theorem ow29 {w : World} {k m : Nat} {v : Value} {ss : List Sp.St} (h : OwS w k v ss) (e : ss.length = m) : ∃ ao c, v = .slice ao m c := by
  obtain ⟨ao, c, h1, -⟩ := OwS.ss h
  exact ⟨ao, c, e ▸ h1⟩
theorem st29b {X w1 : World} {b : Nat} {row : Option Nat} {s : Sp.St} (hg : X.grownBy w1 row) (hb : some b ≠ row) (h : SAt X b 0 s) (j : Nat) (u : Value) (hj : (sc1 s)[j]? = some u) : w1.cell? ((⟨b, 0, none⟩ : Addr).add j) = some u := by
  rw [add_s]
  exact hg.cell (h.at j u hj) hb
theorem own29b {w1 : World} {B n : Nat} {v : Value} {ss : List Sp.St} (h : OwS w1 B v ss) (hn : ss.length = n) : w1.ownsRow B 39 7 v n (scs ss) := by
  have h9 : w1.ownsRow B 39 7 v ss.length (scs ss) := h
  rw [hn] at h9
  exact h9
theorem scs_one1 (s : Sp.St) : ∀ u ∈ sc1 s, u.oneCell' = true := fun u hu => scs_one [s] u (by simpa [scs] using hu)
theorem st29 (w1 : World) (s : Sp.St) (j : Nat) (u : Value) (hj : (sc1 s)[j]? = some u) : (w1.alloc (.cells #[.int .i64 s.op, .int .i64 s.dst, .int .i64 s.src, .int .i64 s.jump, .int .i64 s.count, .int .i64 s.n, .int .i64 s.k] 39)).cell? ((⟨w1.heap.size, 0, none⟩ : Addr).add j) = some u := by
  have h : SAt (w1.alloc (.cells #[.int .i64 s.op, .int .i64 s.dst, .int .i64 s.src, .int .i64 s.jump, .int .i64 s.count, .int .i64 s.n, .int .i64 s.k] 39)) w1.heap.size 0 s := by constructor <;> simp
  rw [add_s]
  exact h.at j u hj
theorem cut23 (x C : Int) (h1 : 1 ≤ C) (h2 : C ≤ 262144) : ∃ (u m r : Nat) (D C2 : Int), (C ≤ C2 ∧ C2 ≤ 262144) ∧ IntKind.u64.wrap x = (u : Int) ∧ IntKind.i64.wrap (262144 - C) = D ∧ IntKind.i64.wrap (D + 1) = (m : Int) ∧ IntKind.u64.wrap (m : Int) = (m : Int) ∧ ((m : Int) == 0) = false ∧ (m : Int) ≠ 0 ∧ (u : Int).tmod (m : Int) = (r : Int) ∧ IntKind.u64.wrap (r : Int) = (r : Int) ∧ IntKind.i64.wrap (r : Int) = (r : Int) ∧ IntKind.i64.wrap (C + (r : Int)) = C2 := by
  obtain ⟨u, hu⟩ : ∃ u : Nat, IntKind.u64.wrap x = (u : Int) := ⟨(IntKind.u64.wrap x).toNat, by rw [IntKind.wrap_u64]; omega⟩
  obtain ⟨m, hm⟩ : ∃ m : Nat, 262144 - C + 1 = (m : Int) := ⟨(262144 - C + 1).toNat, by omega⟩
  have hk := Nat.mod_lt u (show m > 0 by omega)
  refine ⟨u, m, u % m, 262144 - C, C + ((u % m : Nat) : Int), ⟨?_, ?_⟩, hu, ?_, ?_, ?_, ?_, ?_, ?_, ?_, ?_, ?_⟩
  · omega
  · omega
  · rw [IntKind.wrap_i64]; omega
  · rw [hm, IntKind.wrap_i64]; omega
  · rw [IntKind.wrap_u64]; omega
  · rw [beq_eq_false_iff_ne]; omega
  · omega
  · rw [← Int.ofNat_tmod]
  · generalize u % m = k at hk; rw [IntKind.wrap_u64]; omega
  · generalize u % m = k at hk; rw [IntKind.wrap_i64]; omega
  · generalize u % m = k at hk; rw [IntKind.wrap_i64]; omega
theorem Bz.set5 {w wz W : World} {G : Nat} {hd : Sp.Pg} {v : Value} (h : Bz w wz W G hd v) (p' : Sp.Pg) (v' : Value) : Bz w wz (((((W.setCell ⟨G, 0, none⟩ (.int .i64 p'.len)).setCell ⟨G, 1, none⟩ (.int .i64 p'.cells)).setCell ⟨G, 2, none⟩ (.int .i64 p'.inn)).setCell ⟨G, 3, none⟩ (.int .i64 p'.out)).setCell ⟨G, 4, none⟩ v') G p' v' :=
  ⟨((((h.be.setCell (p := ⟨G, 0, none⟩) h.hG _).setCell (p := ⟨G, 1, none⟩) h.hG _).setCell (p := ⟨G, 2, none⟩) h.hG _).setCell (p := ⟨G, 3, none⟩) h.hG _).setCell (p := ⟨G, 4, none⟩) h.hG _, by simp; exact h.sz,
    fun k hk => by rw [sc_blk8 _ _ _ (by omega), sc_blk8 _ _ _ (by omega), sc_blk8 _ _ _ (by omega), sc_blk8 _ _ _ (by omega), sc_blk8 _ _ _ (by omega)]; exact h.kp k hk,
    ⟨h.y.bx.set p' v', fun i => by simp only [World.frozen?_setCell]; exact h.y.fz i⟩, h.hG⟩
theorem Bz.set1 {w wz W : World} {G : Nat} {hd : Sp.Pg} {v : Value} (h : Bz w wz W G hd v) (C : Int) : Bz w wz (W.setCell ⟨G, 1, none⟩ (.int .i64 C)) G ⟨hd.len, C, hd.inn, hd.out, []⟩ v :=
  ⟨h.be.setCell (p := ⟨G, 1, none⟩) h.hG _, by simp; exact h.sz, fun k hk => by rw [sc_blk8 _ _ _ (by omega)]; exact h.kp k hk,
    ⟨⟨by simp [World.cell?_setCell_other, h.y.bx.c0], World.cell?_setCell_same _ _ _ h.y.bx.c1, by simp [World.cell?_setCell_other, h.y.bx.c2], by simp [World.cell?_setCell_other, h.y.bx.c3], by simp [World.cell?_setCell_other, h.y.bx.c4]⟩, fun i => by simp only [World.frozen?_setCell]; exact h.y.fz i⟩, h.hG⟩
theorem ss_take {w : World} {ao : Option Addr} {ss : List Sp.St} (h : Ss w ao ss) (k : Nat) : Ss w ao (ss.take k) := fun i s hi => h i s (by
  rw [List.getElem?_take] at hi
  split at hi
  · exact hi
  · cases hi)
set_option maxHeartbeats 8000000 in
set_option maxRecDepth 100000 in
theorem checkBeginnings.walk (p : Sp.Pg) (ao : Option Addr) (c : Nat) (x1 x2 : Int) (s : Sp.St) (al : List Addr) (w : World) (hs : Ss w ao p.steps) (hc : ao = none → c = 0) (hb : p.steps.length * 56 ≤ 140737488351232) (hE : Errs w al) (hO : Ops w) (he : Pe w al) :
    Calls Tryd.prog 6 #[pv p (.slice ao p.steps.length c), .int .i64 x1, .int .i64 x2, sv s] w fun e w' => e = .returned (.bool true) ∧ Below w.heap.size w w' := by
  obtain ⟨g, hg⟩ : ∃ g, Hid (w.heap.size = g) := ⟨_, (rfl : _ = _)⟩
  obtain ⟨n, hn⟩ : ∃ n, Hid (p.steps.length = n) := ⟨_, (rfl : _ = _)⟩
  rw [hn.out] at hb ⊢
  obtain ⟨wa, ewa⟩ : ∃ wa, Hid ((w.alloc (.cells #[.int .i64 p.len, .int .i64 p.cells, .int .i64 p.inn, .int .i64 p.out, .slice ao n c] 24)).alloc (.cells #[.int .i64 s.op, .int .i64 s.dst, .int .i64 s.src, .int .i64 s.jump, .int .i64 s.count, .int .i64 s.n, .int .i64 s.k] 39) = wa) := ⟨_, (rfl : _ = _)⟩
  have Ba : Hid (Below w.heap.size w wa) := by rw [← ewa.out]; exact ((Below.refl _ _).alloc (Nat.le_refl _) _).alloc (by simp) _
  have X1 : Hid (Bp8 wa g p (.slice ao n c)) := by
    show Bp8 _ _ _ _
    rw [← ewa.out, ← hg.out]
    exact (Bp8.new w p (.slice ao n c)).blk (((Below.refl _ _).alloc (Nat.le_refl _) _).block w.heap.size (by simp))
  have S1 : Hid (Bst wa (g + 1) s.op s.dst s.src s.jump s.count s.n s.k) := by
    show Bst _ _ _ _ _ _ _ _ _
    rw [← ewa.out, ← hg.out]
    constructor <;> simp [go_sem]
  have sz : Hid (wa.heap.size = g + 2) := by show _ = _; rw [← ewa.out, ← hg.out]; simp
  have sH : Hid (Ss w ao p.steps) := hs
  have EH : Hid (Errs w al) := hE
  have OH : Hid (Ops w) := hO
  have PH : Hid (Pe w al) := he
  have bH : Hid (n * 56 ≤ 140737488351232) := hb
  have cH : Hid (ao = none → c = 0) := hc
  clear hs hc hb hE hO he
  have bl : Hid (∀ W, Below wa.heap.size wa W → Below w.heap.size w W) := fun W hW => Ba.out.trans (hW.mono Ba.out.size)
  have hlv : Hid (Calls Tryd.prog 8 #[] wa fun e w' => e = .returned (.bool true) ∧ Below wa.heap.size wa w') := lives18_c al wa (EH.out.below Ba.out) (OH.out.below (Ba.out.mono (Nat.le_refl _))) (PH.out.below Ba.out)
  have hwk : Hid (∀ W, Below wa.heap.size wa W → Calls Tryd.prog 9 #[.agg #[.int .i64 p.len, .int .i64 p.cells, .int .i64 p.inn, .int .i64 p.out, .slice ao n c]] W fun e w' => (∃ N : Int, e = .returned (.int .i64 N) ∧ WkP p.steps N) ∧ Below W.heap.size W w') := fun W hW => work18_c p ao n c W (sH.out.below (bl.out W hW)) hn.out.symm (by have := bH.out; omega)
  have hcp : Hid (∀ W, Below wa.heap.size wa W → Calls Tryd.prog 10 #[.agg #[.int .i64 p.len, .int .i64 p.cells, .int .i64 p.inn, .int .i64 p.out, .slice ao n c]] W fun e w' => CpE p n W e w') := fun W hW => copied18_c p ao n c W (sH.out.below (bl.out W hW)) cH.out hn.out.symm bH.out
  unfold pv sv sva
  go_enter Tryd.func6, Tryd.ntmps6
  go_upto_region 1 with fail
  rw [ewa.out, hg.out]
  go_wp2_with fail
  refine hlv.out.mono ?_
  rintro e w1 ⟨rfl, B1'⟩
  have B1 : Hid (Below wa.heap.size wa w1) := B1'
  obtain ⟨x0, x1', x2', x3, x4⟩ := X1.out.bx.below B1'
  clear hlv B1'
  go_upto_region 3 with fail
  by_cases hlen : 65536 ≤ n
  · have hlen' : (65536 : Int) ≤ (n : Int) := by omega
    have hB : Hid (Below w.heap.size w w1) := bl.out _ B1.out
    go_wp2
    go_ret
    exact ⟨rfl, hB.out⟩
  have hlen' : decide ((65536 : Int) ≤ (n : Int)) = false := decide_eq_false (by omega)
  have hlen2 : Hid (n < 65536) := by show _ < _; omega
  go_wp2_with fail
  refine (hwk.out w1 B1.out).mono ?_
  rintro e w2 ⟨⟨N, rfl, hW⟩, B2'⟩
  have hWH : Hid (WkP p.steps N) := hW
  have B2 : Hid (Below wa.heap.size wa w2) := B1.out.trans (B2'.mono B1.out.size)
  clear x0 x1' x2' x3 x4 B2' hW hwk
  by_cases hN : 1048576 < N
  · have hB : Hid (Below w.heap.size w w2) := bl.out _ B2.out
    go_wp2
    go_ret
    exact ⟨rfl, hB.out⟩
  have hN' : decide (1048576 < N) = false := decide_eq_false hN
  have hsum : Hid (Kc.flt p.cells 0 0 p.steps < 0 → Kc.sumc p.steps ≤ 1048576) := fun h => hWH.out (by omega) (all_fm _ _ _ h)
  clear hN
  obtain ⟨y0, y1, y2, y3, y4, y5, y6⟩ := S1.out.below B2.out
  go_wp2_with fail
  obtain ⟨g2, hg2⟩ : ∃ z, Hid (w2.heap.size = z) := ⟨_, (rfl : _ = _)⟩
  obtain ⟨wb, ewb⟩ : ∃ z, Hid (w2.alloc (.cells #[.int .i64 s.op, .int .i64 s.dst, .int .i64 s.src, .int .i64 s.jump, .int .i64 s.count, .int .i64 s.n, .int .i64 s.k] 39) = z) := ⟨_, (rfl : _ = _)⟩
  have Bb : Hid (Below wa.heap.size wa wb) := by rw [← ewb.out]; exact B2.out.alloc B2.out.size _
  have A2 : Ss wb (some ⟨g2, 0, none⟩) [s] := fun i t ht => by
    match i, ht with
    | 0, ht =>
      cases ht
      refine ⟨g2, 0, rfl, ?_⟩
      rw [← ewb.out, ← hg2.out]
      constructor <;> simp [go_sem]
    | k + 1, ht => simp at ht
  have hw2 : Hid (Calls Tryd.prog 9 #[.agg #[.int .i64 0, .int .i64 0, .int .i64 0, .int .i64 0, .slice (some ⟨g2, 0, none⟩) 1 1]] wb fun e w' => (∃ N : Int, e = .returned (.int .i64 N) ∧ WkP [s] N) ∧ Below wb.heap.size wb w') := work18_c ⟨0, 0, 0, 0, [s]⟩ (some ⟨g2, 0, none⟩) 1 1 wb A2 rfl (by decide)
  rw [hg2.out, ewb.out]
  refine hw2.out.mono ?_
  rintro e w3 ⟨⟨N2, rfl, -⟩, B3'⟩
  have B3 : Hid (Below wa.heap.size wa w3) := Bb.out.trans (B3'.mono Bb.out.size)
  clear y0 y1 y2 y3 y4 y5 y6 B3' hw2 A2
  by_cases hN2 : 1048576 < N2
  · have hB : Hid (Below w.heap.size w w3) := bl.out _ B3.out
    go_wp2
    go_ret
    exact ⟨rfl, hB.out⟩
  have hN2' : decide (1048576 < N2) = false := decide_eq_false hN2
  clear hN2
  obtain ⟨x0, x1', x2', x3, x4⟩ := X1.out.bx.below B3.out
  go_upto_region 5 with fail
  go_wp2_with fail
  refine (hcp.out w3 B3.out).mono ?_
  rintro e w4 ⟨q, cap, rfl, O4, B4'⟩
  have B4 : Hid (Below wa.heap.size wa w4) := B3.out.trans (B4'.mono B3.out.size)
  have qg : Hid (w3.heap.size ≤ q) := (World.ownsRow.lt O4 q rfl).1
  have O4H : Hid (OwS w4 w3.heap.size (.slice (some ⟨q, 0, none⟩) (n + 1) cap) (p.steps ++ [s77])) := O4
  have hcap : n + 1 ≤ cap := by
    have hrow2 : w4.ownsRow w3.heap.size 39 7 (.slice (some ⟨q, 0, none⟩) (n + 1) cap) (p.steps ++ [s77]).length (scs (p.steps ++ [s77])) := O4
    rcases hrow2.2 with ⟨h1, _⟩ | ⟨q', cap', cur, h1, _, _, h4, _⟩
    · cases h1
    · injection h1 with h6 h7 h8
      have := hn.out
      simp at h4
      omega
  have Y4 := X1.out.blk (B4.out.block g (by have := sz.out; omega))
  have Y4H : Hid (Bp8 w4 g p (.slice ao n c)) := Y4
  clear x0 x1' x2' x3 x4 B4' hcp
  obtain ⟨x0, x1', x2', x3, x4⟩ := Y4.bx
  have fz := Y4.fz
  unfold pv
  go_upto_region 6 with fail
  obtain ⟨w5, ew5⟩ : ∃ z, Hid (((((w4.setCell ⟨g, 0, none⟩ (.int .i64 p.len)).setCell ⟨g, 1, none⟩ (.int .i64 p.cells)).setCell ⟨g, 2, none⟩ (.int .i64 p.inn)).setCell ⟨g, 3, none⟩ (.int .i64 p.out)).setCell ⟨g, 4, none⟩ (.slice (some ⟨q, 0, none⟩) n cap) = z) := ⟨_, (rfl : _ = _)⟩
  rw [ew5.out]
  have fr5 : Fr (fun k => k = g) w4 w5 := by rw [← ew5.out]; exact set5_fr w4 g _ _ _ _ _
  have hqg : q ≠ g := by have := qg.out; have := B3.out.size; have := sz.out; omega
  have Y5 : Hid (Bp8 w5 g p (.slice (some ⟨q, 0, none⟩) n cap)) := by
    refine ⟨?_, fun i => by rw [← ew5.out]; simp only [World.frozen?_setCell]; exact fz i⟩
    show Bpg _ _ _ _
    rw [← ew5.out]; exact Y4H.out.bx.set p _
  have B5 : Hid (Below w.heap.size w w5) := fr5.below (bl.out _ B4.out) (bl.out _ B4.out).size fun k _ hk => by have := hg.out; omega
  have SS5 : Hid (Ss w5 (some ⟨q, 0, none⟩) p.steps) := by
    obtain ⟨ao', cap', e9, h9⟩ := OwS.ss (OwS.fr O4H.out fr5 fun b hb h2 => by cases hb; exact hqg h2)
    injection e9 with e1
    rw [e1]
    exact h9.pre
  have S5 : Hid (Bst w5 (g + 1) s.op s.dst s.src s.jump s.count s.n s.k) := by
    show Bst _ _ _ _ _ _ _ _ _
    exact (S1.out.below B4.out).fr fr5 (by omega)
  have gsz : Hid (g + 2 ≤ w5.heap.size ∧ q < w5.heap.size) := ⟨by have := fr5.size; have := B4.out.size; have := sz.out; omega, by have := fr5.size; have := (World.ownsRow.lt O4H.out q rfl).2; omega⟩
  clear fr5 x0 x1' x2' x3 x4 fz O4 O4H Y4 Y4H B4 ew5 hN' hN2' B3 B2 B1 Bb ewb hg2 X1 S1 ewa
  have cF : Hid (∀ W, Below w5.heap.size w5 W → Calls Tryd.prog 16 #[.agg #[.int .i64 p.len, .int .i64 p.cells, .int .i64 p.inn, .int .i64 p.out, .slice (some ⟨q, 0, none⟩) n cap]] W fun e w' => e = .returned (.int .i64 (Kc.flt p.cells 0 0 p.steps)) ∧ Below W.heap.size W w') := fun W hW => kfault_c p _ n cap al W (SS5.out.below hW) hn.out.symm (by have := bH.out; omega) (OH.out.below ((B5.out.trans (hW.mono B5.out.size)).mono (Nat.le_refl _))) (PH.out.below (B5.out.trans (hW.mono B5.out.size)))
  have cC : Hid (∀ W, Below w5.heap.size w5 W → Calls Tryd.prog 14 #[.agg #[.int .i64 p.len, .int .i64 p.cells, .int .i64 p.inn, .int .i64 p.out, .slice (some ⟨q, 0, none⟩) n cap]] W fun e w' => e = .returned (fev al (Kc.chk p)) ∧ Below W.heap.size W w') := fun W hW => kcheck_c p _ n cap al W (SS5.out.below hW) hn.out.symm (by have := bH.out; omega) (OH.out.below ((B5.out.trans (hW.mono B5.out.size)).mono (Nat.le_refl _))) (PH.out.below (B5.out.trans (hW.mono B5.out.size)))
  have cA : Hid (∀ W, Below w5.heap.size w5 W → Calls Tryd.prog 11 #[.agg #[.int .i64 p.len, .int .i64 p.cells, .int .i64 p.inn, .int .i64 p.out, .slice (some ⟨q, 0, none⟩) n cap]] W fun e w' => e = .returned (.tuple #[.int .i64 (bif Kc.chk p then Kc.sumc p.steps else 0), fev al (Kc.chk p)]) ∧ Below W.heap.size W w') := fun W hW => kacts_c p _ n cap al W (SS5.out.below hW) hn.out.symm (by have := bH.out; omega) (OH.out.below ((B5.out.trans (hW.mono B5.out.size)).mono (Nat.le_refl _))) (PH.out.below (B5.out.trans (hW.mono B5.out.size)))
  obtain ⟨F, hF⟩ : ∃ z, Hid (Kc.flt p.cells 0 0 p.steps = z) := ⟨_, (rfl : _ = _)⟩
  obtain ⟨R, hR⟩ : ∃ z, Hid (Kc.chk p = z) := ⟨_, (rfl : _ = _)⟩
  obtain ⟨T, hT⟩ : ∃ z, Hid (Kc.sumc p.steps = z) := ⟨_, (rfl : _ = _)⟩
  have hFb : -1 ≤ F ∧ F < n := by
    have h1 := flt_lt p.cells p.steps 0 0
    rw [hF.out, hn.out] at h1
    omega
  have hRF : Hid (R = true → F = -1) := fun h => by
    have h1 := (chk_iff.1 (hR.out.trans h)).2
    rw [hF.out] at h1
    omega
  rw [hF.out] at cF
  rw [hR.out] at cC cA
  rw [hT.out] at cA
  obtain ⟨x0, x1', x2', x3, x4⟩ := Y5.out.bx
  go_wp2_with fail
  refine (cF.out w5 (Below.refl _ _)).mono ?_
  rintro e w6 ⟨rfl, B6'⟩
  have B6 : Hid (Below w5.heap.size w5 w6) := B6'
  clear x0 x1' x2' x3 x4 B6' cF
  obtain ⟨x0, x1', x2', x3, x4⟩ := Y5.out.bx.below B6.out
  have hF1 : decide (F < -1) = false := decide_eq_false (by omega)
  have hF2 : decide ((n : Int) ≤ F) = false := decide_eq_false (by omega)
  go_wp2_with fail
  refine (cC.out w6 B6.out).mono ?_
  rintro e w7 ⟨rfl, B7'⟩
  have B7 : Hid (Below w5.heap.size w5 w7) := B6.out.trans (B7'.mono B6.out.size)
  clear x0 x1' x2' x3 x4 B7' cC
  obtain ⟨x0, x1', x2', x3, x4⟩ := Y5.out.bx.below B7.out
  cases R with
  | false =>
    have e1 : fev al false = ek al 8 := rfl
    rw [e1] at cA ⊢
    clear e1
    have hq := nnil_c al 8
    have hqe := nil_c al 8
    have hgd := guard_c al 8
    go_wp2_with fail
    refine (cA.out w7 B7.out).mono ?_
    rintro e w8 ⟨rfl, B8'⟩
    have B8 : Hid (Below w5.heap.size w5 w8) := B7.out.trans (B8'.mono B7.out.size)
    clear x0 x1' x2' x3 x4 B8' cA
    obtain ⟨x0, x1', x2', x3, x4⟩ := Y5.out.bx.below B8.out
    obtain ⟨G, hG⟩ : ∃ z, Hid (w8.heap.size = z) := ⟨_, (rfl : _ = _)⟩
    obtain ⟨w9, ew9⟩ : ∃ z, Hid (w8.alloc (.cells #[.int .i64 p.len, .int .i64 p.cells, .int .i64 p.inn, .int .i64 p.out, .slice (some ⟨q, 0, none⟩) n cap] 24) = z) := ⟨_, (rfl : _ = _)⟩
    have Z9 : Hid (Bz w w8 w9 G p (.slice (some ⟨q, 0, none⟩) n cap)) := by
      show Bz _ _ _ _ _ _
      rw [← ew9.out, ← hG.out]
      have h8 := B5.out.trans (B8.out.mono B5.out.size)
      exact ⟨h8.alloc h8.size _, by simp, fun k hk => ((Below.refl _ _).alloc (Nat.le_refl _) _).block k hk, Bp8.new w8 p _, h8.size⟩
    have gG : Hid (g + 2 ≤ G ∧ q < G) := ⟨by have := gsz.out.1; have := B8.out.size; have := hG.out; omega, by have := gsz.out.2; have := B8.out.size; have := hG.out; omega⟩
    have kw : Hid (∀ W hd v, Bz w w8 W G hd v → Bp8 W g p (.slice (some ⟨q, 0, none⟩) n cap) ∧ Ss W (some ⟨q, 0, none⟩) p.steps ∧ Ops W ∧ Pe W al ∧ Errs W al) := fun W hd v hZ => by
      have h8 := B5.out.trans (B8.out.mono B5.out.size)
      refine ⟨?_, ?_, OH.out.below (hZ.be.mono (Nat.le_refl _)), PH.out.below hZ.be, EH.out.below hZ.be⟩
      · exact (Y5.out.blk (B8.out.block g (by have := gsz.out.1; omega))).blk (hZ.kp g (by have := gG.out.1; omega))
      · intro i t hi
        obtain ⟨q', o, e9, hs⟩ := SS5.out.below B8.out i t hi
        refine ⟨q', o, e9, ?_⟩
        injection e9 with e9
        injection e9 with e9 _
        subst e9
        have e8 := hZ.kp q gG.out.2
        exact ⟨(World.cell?_of_block (a := ⟨q, _, none⟩) e8).trans hs.c0, (World.cell?_of_block (a := ⟨q, _, none⟩) e8).trans hs.c1, (World.cell?_of_block (a := ⟨q, _, none⟩) e8).trans hs.c2, (World.cell?_of_block (a := ⟨q, _, none⟩) e8).trans hs.c3, (World.cell?_of_block (a := ⟨q, _, none⟩) e8).trans hs.c4, (World.cell?_of_block (a := ⟨q, _, none⟩) e8).trans hs.c5, (World.cell?_of_block (a := ⟨q, _, none⟩) e8).trans hs.c6⟩
    have kst : Hid (∀ W hd v, Bz w w8 W G hd v → Bst W (g + 1) s.op s.dst s.src s.jump s.count s.n s.k) := fun W hd v hZ => by
      have e8 := hZ.kp (g + 1) (by have := gG.out.1; omega)
      have hs := S5.out.below B8.out
      exact ⟨(World.cell?_of_block (a := ⟨g + 1, _, none⟩) e8).trans hs.c0, (World.cell?_of_block (a := ⟨g + 1, _, none⟩) e8).trans hs.c1, (World.cell?_of_block (a := ⟨g + 1, _, none⟩) e8).trans hs.c2, (World.cell?_of_block (a := ⟨g + 1, _, none⟩) e8).trans hs.c3, (World.cell?_of_block (a := ⟨g + 1, _, none⟩) e8).trans hs.c4, (World.cell?_of_block (a := ⟨g + 1, _, none⟩) e8).trans hs.c5, (World.cell?_of_block (a := ⟨g + 1, _, none⟩) e8).trans hs.c6⟩
    go_upto_region 14 with fail
    rw [hG.out, ew9.out]
    clear x0 x1' x2' x3 x4
    by_cases hF0 : 0 ≤ F
    · have hF3 : 0 ≤ F := hF0
      obtain ⟨f, rfl⟩ : ∃ f : Nat, F = (f : Int) := ⟨F.toNat, by omega⟩
      have hfn : f < n := by omega
      have hfc : (f : Int) ≤ (cap : Int) := by omega
      have hfc2 : f ≤ cap := by omega
      have hpre : Hid (Kc.flt p.cells 0 0 (p.steps.take f) = -1) := flt_pre _ _ _ _ _ (.inr (by rw [hF.out]; omega))
      obtain ⟨⟨⟨x0, x1', x2', x3, x4⟩, -⟩, -⟩ := kw.out w9 _ _ Z9.out
      have z4 := Z9.out.y.bx.c4
      have zf := Z9.out.y.fz 4
      go_upto_region 16 with fail
      have Z10 : Hid (Bz w w8 (w9.setCell ⟨G, 4, none⟩ (.slice (some ⟨q, 0, none⟩) f cap)) G p (.slice (some ⟨q, 0, none⟩) f cap)) := Z9.out.set4 _
      obtain ⟨w10, ew10⟩ : ∃ z, Hid (w9.setCell ⟨G, 4, none⟩ (.slice (some ⟨q, 0, none⟩) f cap) = z) := ⟨_, (rfl : _ = _)⟩
      rw [ew10.out] at Z10 ⊢
      have cF : Hid (Calls Tryd.prog 16 #[.agg #[.int .i64 p.len, .int .i64 p.cells, .int .i64 p.inn, .int .i64 p.out, .slice (some ⟨q, 0, none⟩) f cap]] w10 fun e w' => e = .returned (.int .i64 (-1)) ∧ Below w10.heap.size w10 w') := by
        obtain ⟨-, h2, h3, h4, -⟩ := kw.out w10 _ _ Z10.out
        have := kfault_c ⟨p.len, p.cells, p.inn, p.out, p.steps.take f⟩ (some ⟨q, 0, none⟩) f cap al w10 (ss_take h2 f) (by rw [List.length_take, hn.out]; omega) (by omega) h3 h4
        rw [show Kc.flt (Sp.Pg.mk p.len p.cells p.inn p.out (p.steps.take f)).cells 0 0 (Sp.Pg.mk p.len p.cells p.inn p.out (p.steps.take f)).steps = -1 from hpre.out] at this
        exact this
      clear x0 x1' x2' x3 x4 z4 zf hfc hfc2
      obtain ⟨z0, z1, z2, z3, z4⟩ := Z10.out.y.bx
      go_wp2_with fail
      refine cF.out.mono ?_
      rintro e w11 ⟨rfl, B11⟩
      have hB : Hid (Below w.heap.size w w11) := Z10.out.be.trans (B11.mono Z10.out.be.size)
      clear z0 z1 z2 z3 z4 B11 cF
      go_wp2
      go_ret
      exact ⟨rfl, hB.out⟩
    · have hF3 : decide (0 ≤ F) = false := decide_eq_false hF0
      obtain rfl : F = -1 := by omega
      obtain ⟨⟨⟨x0, x1', x2', x3, x4⟩, -⟩, -⟩ := kw.out w9 _ _ Z9.out
      have z4 := Z9.out.y.bx.c4
      have zf := Z9.out.y.fz 4
      have zf' : ∀ D, (w9.drewN D).frozen? ⟨G, 4, none⟩ = false := fun D => zf
      obtain ⟨u, m, k, hk, e0, e1, e2, e3, e3', e4, e5, e6⟩ := cut17 x1 n (by have := hlen2.out; omega)
      have hkn : Hid (k ≤ n) := hk
      have hkc : (k : Int) ≤ (cap : Int) := by omega
      have hkc2 : k ≤ cap := by omega
      clear hk
      go_upto_region 17 with fail
      have nGg : ¬ G = g := by have := gG.out.1; omega
      have ngG : ¬ g = G := by have := gG.out.1; omega
      go_region
      have Z10' : Bz w w8 (w9.setCell ⟨G, 4, none⟩ (.slice (some ⟨q, 0, none⟩) k cap)).drew G p (.slice (some ⟨q, 0, none⟩) k cap) := (Z9.out.set4 _).call (Below.refl _ _).drew
      have Z10 : Hid (Bz w w8 (w9.setCell ⟨G, 4, none⟩ (.slice (some ⟨q, 0, none⟩) k cap)).drew G p (.slice (some ⟨q, 0, none⟩) k cap)) := Z10'
      generalize (w9.setCell ⟨G, 4, none⟩ (.slice (some ⟨q, 0, none⟩) k cap)).drew = w10 at Z10 ⊢
      clear Z10' x0 x1' x2' x3 x4 z4 zf zf' e0 e1 e2 e3 e3' e4 e5 e6 hkc hkc2
      have hfk : Hid (Kc.flt p.cells 0 0 (p.steps.take k) = -1) := flt_pre _ _ _ _ _ (.inl hF.out)
      have hck : Hid (Kc.chk ⟨p.len, p.cells, p.inn, p.out, p.steps.take k⟩ = false) := by
        have h1 := hR.out
        unfold Kc.chk at h1
        rw [hF.out] at h1
        show _ = _
        unfold Kc.chk
        rw [show Kc.flt (Sp.Pg.mk p.len p.cells p.inn p.out (p.steps.take k)).cells 0 0 (Sp.Pg.mk p.len p.cells p.inn p.out (p.steps.take k)).steps = -1 from hfk.out]
        exact h1
      have cF : Hid (Calls Tryd.prog 16 #[.agg #[.int .i64 p.len, .int .i64 p.cells, .int .i64 p.inn, .int .i64 p.out, .slice (some ⟨q, 0, none⟩) k cap]] w10 fun e w' => e = .returned (.int .i64 (-1)) ∧ Below w10.heap.size w10 w') := by
        obtain ⟨-, h2, h3, h4, -⟩ := kw.out w10 _ _ Z10.out
        have := kfault_c ⟨p.len, p.cells, p.inn, p.out, p.steps.take k⟩ (some ⟨q, 0, none⟩) k cap al w10 (ss_take h2 k) (by rw [List.length_take, hn.out]; have := hkn.out; omega) (by have := hkn.out; have := hlen2.out; omega) h3 h4
        rw [show Kc.flt (Sp.Pg.mk p.len p.cells p.inn p.out (p.steps.take k)).cells 0 0 (Sp.Pg.mk p.len p.cells p.inn p.out (p.steps.take k)).steps = -1 from hfk.out] at this
        exact this
      have cC : Hid (∀ W, Below w10.heap.size w10 W → Calls Tryd.prog 14 #[.agg #[.int .i64 p.len, .int .i64 p.cells, .int .i64 p.inn, .int .i64 p.out, .slice (some ⟨q, 0, none⟩) k cap]] W fun e w' => e = .returned (ek al 8) ∧ Below W.heap.size W w') := fun W hW => by
        obtain ⟨-, h2, h3, h4, -⟩ := kw.out W _ _ (Z10.out.call hW)
        have := kcheck_c ⟨p.len, p.cells, p.inn, p.out, p.steps.take k⟩ (some ⟨q, 0, none⟩) k cap al W (ss_take h2 k) (by rw [List.length_take, hn.out]; have := hkn.out; omega) (by have := hkn.out; have := hlen2.out; omega) h3 h4
        rw [hck.out] at this
        exact this
      obtain ⟨z0, z1, z2, z3, z4⟩ := Z10.out.y.bx
      go_wp2_with fail
      refine cF.out.mono ?_
      rintro e w11 ⟨rfl, B11⟩
      have Z11 : Hid (Bz w w8 w11 G p (.slice (some ⟨q, 0, none⟩) k cap)) := Z10.out.call B11
      have B11H : Hid (Below w10.heap.size w10 w11) := B11
      clear z0 z1 z2 z3 z4 B11 cF
      obtain ⟨z0, z1, z2, z3, z4⟩ := Z11.out.y.bx
      go_wp2_with fail
      refine (cC.out w11 B11H.out).mono ?_
      rintro e w12 ⟨rfl, B12⟩
      have Z12 : Hid (Bz w w8 w12 G p (.slice (some ⟨q, 0, none⟩) k cap)) := Z11.out.call B12
      have hB : Hid (Below w.heap.size w w12) := Z12.out.be
      clear z0 z1 z2 z3 z4 B12 cC B11H Z11 Z10
      go_wp2
      go_ret
      exact ⟨rfl, hB.out⟩
  | true =>
    have e1 : fev al true = .nilIface := rfl
    rw [e1] at cA ⊢
    clear e1
    obtain rfl : F = -1 := hRF.out rfl
    go_wp2_with fail
    refine (cA.out w7 B7.out).mono ?_
    rintro e w8 ⟨rfl, B8'⟩
    have B8 : Hid (Below w5.heap.size w5 w8) := B7.out.trans (B8'.mono B7.out.size)
    clear x0 x1' x2' x3 x4 B8' cA
    obtain ⟨x0, x1', x2', x3, x4⟩ := Y5.out.bx.below B8.out
    obtain ⟨G, hG⟩ : ∃ z, Hid (w8.heap.size = z) := ⟨_, (rfl : _ = _)⟩
    obtain ⟨w9, ew9⟩ : ∃ z, Hid (w8.alloc (.cells #[.int .i64 p.len, .int .i64 p.cells, .int .i64 p.inn, .int .i64 p.out, .slice (some ⟨q, 0, none⟩) n cap] 24) = z) := ⟨_, (rfl : _ = _)⟩
    have Z9 : Hid (Bz w w8 w9 G p (.slice (some ⟨q, 0, none⟩) n cap)) := by
      show Bz _ _ _ _ _ _
      rw [← ew9.out, ← hG.out]
      have h8 := B5.out.trans (B8.out.mono B5.out.size)
      exact ⟨h8.alloc h8.size _, by simp, fun k hk => ((Below.refl _ _).alloc (Nat.le_refl _) _).block k hk, Bp8.new w8 p _, h8.size⟩
    have gG : Hid (g + 2 ≤ G ∧ q < G) := ⟨by have := gsz.out.1; have := B8.out.size; have := hG.out; omega, by have := gsz.out.2; have := B8.out.size; have := hG.out; omega⟩
    have kw : Hid (∀ W hd v, Bz w w8 W G hd v → Bp8 W g p (.slice (some ⟨q, 0, none⟩) n cap) ∧ Ss W (some ⟨q, 0, none⟩) p.steps ∧ Ops W ∧ Pe W al ∧ Errs W al) := fun W hd v hZ => by
      have h8 := B5.out.trans (B8.out.mono B5.out.size)
      refine ⟨?_, ?_, OH.out.below (hZ.be.mono (Nat.le_refl _)), PH.out.below hZ.be, EH.out.below hZ.be⟩
      · exact (Y5.out.blk (B8.out.block g (by have := gsz.out.1; omega))).blk (hZ.kp g (by have := gG.out.1; omega))
      · intro i t hi
        obtain ⟨q', o, e9, hs⟩ := SS5.out.below B8.out i t hi
        refine ⟨q', o, e9, ?_⟩
        injection e9 with e9
        injection e9 with e9 _
        subst e9
        have e8 := hZ.kp q gG.out.2
        exact ⟨(World.cell?_of_block (a := ⟨q, _, none⟩) e8).trans hs.c0, (World.cell?_of_block (a := ⟨q, _, none⟩) e8).trans hs.c1, (World.cell?_of_block (a := ⟨q, _, none⟩) e8).trans hs.c2, (World.cell?_of_block (a := ⟨q, _, none⟩) e8).trans hs.c3, (World.cell?_of_block (a := ⟨q, _, none⟩) e8).trans hs.c4, (World.cell?_of_block (a := ⟨q, _, none⟩) e8).trans hs.c5, (World.cell?_of_block (a := ⟨q, _, none⟩) e8).trans hs.c6⟩
    have kst : Hid (∀ W hd v, Bz w w8 W G hd v → Bst W (g + 1) s.op s.dst s.src s.jump s.count s.n s.k) := fun W hd v hZ => by
      have e8 := hZ.kp (g + 1) (by have := gG.out.1; omega)
      have hs := S5.out.below B8.out
      exact ⟨(World.cell?_of_block (a := ⟨g + 1, _, none⟩) e8).trans hs.c0, (World.cell?_of_block (a := ⟨g + 1, _, none⟩) e8).trans hs.c1, (World.cell?_of_block (a := ⟨g + 1, _, none⟩) e8).trans hs.c2, (World.cell?_of_block (a := ⟨g + 1, _, none⟩) e8).trans hs.c3, (World.cell?_of_block (a := ⟨g + 1, _, none⟩) e8).trans hs.c4, (World.cell?_of_block (a := ⟨g + 1, _, none⟩) e8).trans hs.c5, (World.cell?_of_block (a := ⟨g + 1, _, none⟩) e8).trans hs.c6⟩
    go_upto_region 14 with fail
    rw [hG.out, ew9.out]
    clear x0 x1' x2' x3 x4
    have hF3 : decide (0 ≤ (-1 : Int)) = false := by decide
    obtain ⟨⟨⟨x0, x1', x2', x3, x4⟩, -⟩, -⟩ := kw.out w9 _ _ Z9.out
    have z4 := Z9.out.y.bx.c4
    have zf := Z9.out.y.fz 4
    have zf' : ∀ D, (w9.drewN D).frozen? ⟨G, 4, none⟩ = false := fun D => zf
    obtain ⟨u, m, k, hk, e0, e1, e2, e3, e3', e4, e5, e6⟩ := cut17 x1 n (by have := hlen2.out; omega)
    have hkn : Hid (k ≤ n) := hk
    have hkc : (k : Int) ≤ (cap : Int) := by omega
    have hkc2 : k ≤ cap := by omega
    clear hk
    go_upto_region 17 with fail
    have nGg : ¬ G = g := by have := gG.out.1; omega
    have ngG : ¬ g = G := by have := gG.out.1; omega
    go_region
    have Z10' : Bz w w8 (w9.setCell ⟨G, 4, none⟩ (.slice (some ⟨q, 0, none⟩) k cap)).drew G p (.slice (some ⟨q, 0, none⟩) k cap) := (Z9.out.set4 _).call (Below.refl _ _).drew
    have Z10 : Hid (Bz w w8 (w9.setCell ⟨G, 4, none⟩ (.slice (some ⟨q, 0, none⟩) k cap)).drew G p (.slice (some ⟨q, 0, none⟩) k cap)) := Z10'
    generalize (w9.setCell ⟨G, 4, none⟩ (.slice (some ⟨q, 0, none⟩) k cap)).drew = w10 at Z10 ⊢
    clear Z10' x0 x1' x2' x3 x4 z4 zf zf' e0 e1 e2 e3 e3' e4 e5 e6 hkc hkc2
    have hfk : Hid (Kc.flt p.cells 0 0 (p.steps.take k) = -1) := flt_pre _ _ _ _ _ (.inl hF.out)
    have hck : Hid (Kc.chk ⟨p.len, p.cells, p.inn, p.out, p.steps.take k⟩ = true) := by
      have h1 := hR.out
      unfold Kc.chk at h1
      rw [hF.out] at h1
      show _ = _
      unfold Kc.chk
      rw [show Kc.flt (Sp.Pg.mk p.len p.cells p.inn p.out (p.steps.take k)).cells 0 0 (Sp.Pg.mk p.len p.cells p.inn p.out (p.steps.take k)).steps = -1 from hfk.out]
      exact h1
    have cF : Hid (Calls Tryd.prog 16 #[.agg #[.int .i64 p.len, .int .i64 p.cells, .int .i64 p.inn, .int .i64 p.out, .slice (some ⟨q, 0, none⟩) k cap]] w10 fun e w' => e = .returned (.int .i64 (-1)) ∧ Below w10.heap.size w10 w') := by
      obtain ⟨-, h2, h3, h4, -⟩ := kw.out w10 _ _ Z10.out
      have := kfault_c ⟨p.len, p.cells, p.inn, p.out, p.steps.take k⟩ (some ⟨q, 0, none⟩) k cap al w10 (ss_take h2 k) (by rw [List.length_take, hn.out]; have := hkn.out; omega) (by have := hkn.out; have := hlen2.out; omega) h3 h4
      rw [show Kc.flt (Sp.Pg.mk p.len p.cells p.inn p.out (p.steps.take k)).cells 0 0 (Sp.Pg.mk p.len p.cells p.inn p.out (p.steps.take k)).steps = -1 from hfk.out] at this
      exact this
    have cC : Hid (∀ W, Below w10.heap.size w10 W → Calls Tryd.prog 14 #[.agg #[.int .i64 p.len, .int .i64 p.cells, .int .i64 p.inn, .int .i64 p.out, .slice (some ⟨q, 0, none⟩) k cap]] W fun e w' => e = .returned (.nilIface) ∧ Below W.heap.size W w') := fun W hW => by
      obtain ⟨-, h2, h3, h4, -⟩ := kw.out W _ _ (Z10.out.call hW)
      have := kcheck_c ⟨p.len, p.cells, p.inn, p.out, p.steps.take k⟩ (some ⟨q, 0, none⟩) k cap al W (ss_take h2 k) (by rw [List.length_take, hn.out]; have := hkn.out; omega) (by have := hkn.out; have := hlen2.out; omega) h3 h4
      rw [hck.out] at this
      exact this
    obtain ⟨z0, z1, z2, z3, z4⟩ := Z10.out.y.bx
    go_wp2_with fail
    refine cF.out.mono ?_
    rintro e w11 ⟨rfl, B11⟩
    have Z11 : Hid (Bz w w8 w11 G p (.slice (some ⟨q, 0, none⟩) k cap)) := Z10.out.call B11
    have B11H : Hid (Below w10.heap.size w10 w11) := B11
    clear z0 z1 z2 z3 z4 B11 cF
    obtain ⟨z0, z1, z2, z3, z4⟩ := Z11.out.y.bx
    go_wp2_with fail
    refine (cC.out w11 B11H.out).mono ?_
    rintro e w12 ⟨rfl, B12⟩
    have Z12 : Hid (Bz w w8 w12 G p (.slice (some ⟨q, 0, none⟩) k cap)) := Z11.out.call B12
    have hB : Hid (Below w.heap.size w w12) := Z12.out.be
    clear z0 z1 z2 z3 z4 B12 cC B11H Z11 Z10
    obtain ⟨hHD, hFL⟩ := chk_iff.1 hR.out
    obtain ⟨hd1, hd2, hd3, hd4⟩ := hdf_iff.1 hHD
    have hcb : Hid (1 ≤ p.cells ∧ p.cells ≤ 262144) := hd2
    clear hd1 hd2 hd3 hd4 hHD hFL
    obtain ⟨⟨⟨x0, x1', x2', x3, x4⟩, -⟩, -⟩ := kw.out w12 _ _ Z12.out
    obtain ⟨z0, z1, z2, z3, z4⟩ := Z12.out.y.bx
    have zf := Z12.out.y.fz
    go_upto_region 23 with fail
    have Z13 : Hid (Bz w w8 (((((w12.setCell ⟨G, 0, none⟩ (.int .i64 p.len)).setCell ⟨G, 1, none⟩ (.int .i64 p.cells)).setCell ⟨G, 2, none⟩ (.int .i64 p.inn)).setCell ⟨G, 3, none⟩ (.int .i64 p.out)).setCell ⟨G, 4, none⟩ (.slice (some ⟨q, 0, none⟩) n cap)) G p (.slice (some ⟨q, 0, none⟩) n cap)) := Z12.out.set5 p _
    obtain ⟨w13, ew13⟩ : ∃ z, Hid (((((w12.setCell ⟨G, 0, none⟩ (.int .i64 p.len)).setCell ⟨G, 1, none⟩ (.int .i64 p.cells)).setCell ⟨G, 2, none⟩ (.int .i64 p.inn)).setCell ⟨G, 3, none⟩ (.int .i64 p.out)).setCell ⟨G, 4, none⟩ (.slice (some ⟨q, 0, none⟩) n cap) = z) := ⟨_, (rfl : _ = _)⟩
    rw [ew13.out] at Z13 ⊢
    clear x0 x1' x2' x3 x4 z0 z1 z2 z3 z4 zf Z12 ew13
    obtain ⟨⟨⟨x0, x1', x2', x3, x4⟩, -⟩, -⟩ := kw.out w13 _ _ Z13.out
    have z1 := Z13.out.y.bx.c1
    have zf := Z13.out.y.fz 1
    have zf' : ∀ D, (w13.drewN D).frozen? ⟨G, 1, none⟩ = false := fun D => zf
    obtain ⟨u, m, r, Dd, C2, hC2, f0, f1, f2, f3, f4, f4', f5, f6, f7, f8⟩ := cut23 x2 p.cells hcb.out.1 hcb.out.2
    have hC2H : Hid (p.cells ≤ C2 ∧ C2 ≤ 262144) := hC2
    clear hC2
    go_region
    have Z14' : Bz w w8 (w13.setCell ⟨G, 1, none⟩ (.int .i64 C2)).drew G ⟨p.len, C2, p.inn, p.out, []⟩ (.slice (some ⟨q, 0, none⟩) n cap) := (Z13.out.set1 C2).call (Below.refl _ _).drew
    have Z14 : Hid (Bz w w8 (w13.setCell ⟨G, 1, none⟩ (.int .i64 C2)).drew G ⟨p.len, C2, p.inn, p.out, []⟩ (.slice (some ⟨q, 0, none⟩) n cap)) := Z14'
    generalize (w13.setCell ⟨G, 1, none⟩ (.int .i64 C2)).drew = w14 at Z14 ⊢
    clear Z14' x0 x1' x2' x3 x4 z1 zf zf' f0 f1 f2 f3 f4 f4' f5 f6 f7 f8 Z13
    have cC : Hid (Calls Tryd.prog 14 #[.agg #[.int .i64 p.len, .int .i64 C2, .int .i64 p.inn, .int .i64 p.out, .slice (some ⟨q, 0, none⟩) n cap]] w14 fun e w' => e = .returned .nilIface ∧ Below w14.heap.size w14 w') := by
      obtain ⟨-, h2, h3, h4, -⟩ := kw.out w14 _ _ Z14.out
      have := kcheck_c ⟨p.len, C2, p.inn, p.out, p.steps⟩ (some ⟨q, 0, none⟩) n cap al w14 h2 hn.out.symm (by have := hlen2.out; omega) h3 h4
      rw [chk_more (show Kc.chk ⟨p.len, p.cells, p.inn, p.out, p.steps⟩ = true from hR.out) hC2H.out.1 hC2H.out.2] at this
      exact this
    obtain ⟨z0, z1, z2, z3, z4⟩ := Z14.out.y.bx
    go_wp2_with fail
    refine cC.out.mono ?_
    rintro e w15 ⟨rfl, B15⟩
    have Z15 : Hid (Bz w w8 w15 G ⟨p.len, C2, p.inn, p.out, []⟩ (.slice (some ⟨q, 0, none⟩) n cap)) := Z14.out.call B15
    clear z0 z1 z2 z3 z4 B15 cC Z14
    obtain ⟨⟨⟨x0, x1', x2', x3, x4⟩, -⟩, -⟩ := kw.out w15 _ _ Z15.out
    have st15 : Hid (Bst w15 (g + 1) s.op s.dst s.src s.jump s.count s.n s.k) := kst.out w15 _ _ Z15.out
    obtain ⟨y0, y1, y2, y3, y4, y5, y6⟩ := st15.out
    go_upto_region 27 with fail
    obtain ⟨H, hH⟩ : ∃ z, Hid (w15.heap.size = z) := ⟨_, (rfl : _ = _)⟩
    obtain ⟨w16, ew16⟩ : ∃ z, Hid ((w15.alloc (.cells #[.int .i64 s.op, .int .i64 s.dst, .int .i64 s.src, .int .i64 s.jump, .int .i64 s.count, .int .i64 s.n, .int .i64 s.k] 39)).alloc (.cells #[.int .i64 p.len, .int .i64 p.cells, .int .i64 p.inn, .int .i64 p.out, .slice (some ⟨H, 0, none⟩) 1 1] 24) = z) := ⟨_, (rfl : _ = _)⟩
    rw [hH.out, ew16.out]
    have B16 : Below w15.heap.size w15 w16 := by rw [← ew16.out]; exact ((Below.refl _ _).alloc (Nat.le_refl _) _).alloc (by simp) _
    have Z16 : Hid (Bz w w8 w16 G ⟨p.len, C2, p.inn, p.out, []⟩ (.slice (some ⟨q, 0, none⟩) n cap)) := Z15.out.call B16
    have X16 : Hid (Bpg w16 (H + 1) p (.slice (some ⟨H, 0, none⟩) 1 1)) := by show Bpg _ _ _ _; rw [← ew16.out, ← hH.out]; constructor <;> simp [go_sem]
    have SS1 : Hid (Ss w16 (some ⟨H, 0, none⟩) [s]) := fun i t ht => by
      match i, ht with
      | 0, ht =>
        cases ht
        refine ⟨H, 0, rfl, ?_⟩
        rw [← ew16.out, ← hH.out]
        constructor <;> simp [go_sem]
      | k + 1, ht => simp at ht
    obtain ⟨A1, hA1⟩ : ∃ z, Hid (Kc.chk ⟨p.len, p.cells, p.inn, p.out, [s]⟩ = z) := ⟨_, (rfl : _ = _)⟩
    have cC : Hid (Calls Tryd.prog 14 #[.agg #[.int .i64 p.len, .int .i64 p.cells, .int .i64 p.inn, .int .i64 p.out, .slice (some ⟨H, 0, none⟩) 1 1]] w16 fun e w' => e = .returned (fev al A1) ∧ Below w16.heap.size w16 w') := by
      obtain ⟨-, -, h3, h4, -⟩ := kw.out w16 _ _ Z16.out
      have := kcheck_c ⟨p.len, p.cells, p.inn, p.out, [s]⟩ (some ⟨H, 0, none⟩) 1 1 al w16 SS1.out rfl (by decide) h3 h4
      rw [hA1.out] at this
      exact this
    have hsm : Hid (T ≤ 1048576 ∧ 0 ≤ T) := by
      have h1 := (chk_iff.1 hR.out).2
      have h2 := hsum.out h1
      have h3 := (sumc_nn _ _ _ _ h1).1
      rw [hT.out] at h2 h3
      exact ⟨h2, h3⟩
    have hsn : Hid (Kc.chk ⟨p.len, p.cells, p.inn, p.out, p.steps ++ [s]⟩ = A1) := by
      show _ = _
      rw [chk_snoc hR.out (by rw [hn.out]; exact hlen2.out) (by rw [hT.out]; exact hsm.out.1), hA1.out]
    have hsT : Hid (Kc.sumc (p.steps ++ [s]) = T + s.count) := by show _ = _; rw [Kc.sumc_snoc, hT.out]
    clear x0 x1' x2' x3 x4 y0 y1 y2 y3 y4 y5 y6 st15 Z15 B16 ew16
    obtain ⟨o0, o1, o2, o3, o4⟩ := X16.out
    go_wp2_with fail
    refine cC.out.mono ?_
    rintro e w17 ⟨rfl, B17⟩
    have Z17 : Hid (Bz w w8 w17 G ⟨p.len, C2, p.inn, p.out, []⟩ (.slice (some ⟨q, 0, none⟩) n cap)) := Z16.out.call B17
    clear o0 o1 o2 o3 o4 B17 cC Z16 X16 SS1
    obtain ⟨⟨⟨x0, x1', x2', x3, x4⟩, -⟩, -⟩ := kw.out w17 _ _ Z17.out
    obtain ⟨z0, z1, z2, z3, z4⟩ := Z17.out.y.bx
    have zf := Z17.out.y.fz
    have hqf := fev8_eq al A1
    have hgf := fev8_gd al A1
    generalize hfe : fev al A1 = fe at hqf hgf ⊢
    have hfeH : Hid (fev al A1 = fe) := hfe
    clear hfe
    go_upto_region 29 with fail
    have Z18 : Hid (Bz w w8 (((((w17.setCell ⟨G, 0, none⟩ (.int .i64 p.len)).setCell ⟨G, 1, none⟩ (.int .i64 p.cells)).setCell ⟨G, 2, none⟩ (.int .i64 p.inn)).setCell ⟨G, 3, none⟩ (.int .i64 p.out)).setCell ⟨G, 4, none⟩ (.slice (some ⟨q, 0, none⟩) n cap)) G p (.slice (some ⟨q, 0, none⟩) n cap)) := Z17.out.set5 p _
    obtain ⟨w18, ew18⟩ : ∃ z, Hid (((((w17.setCell ⟨G, 0, none⟩ (.int .i64 p.len)).setCell ⟨G, 1, none⟩ (.int .i64 p.cells)).setCell ⟨G, 2, none⟩ (.int .i64 p.inn)).setCell ⟨G, 3, none⟩ (.int .i64 p.out)).setCell ⟨G, 4, none⟩ (.slice (some ⟨q, 0, none⟩) n cap) = z) := ⟨_, (rfl : _ = _)⟩
    rw [ew18.out] at Z18 ⊢
    clear x0 x1' x2' x3 x4 z0 z1 z2 z3 z4 zf Z17 ew18 hqf hgf
    obtain ⟨i0, hi0, hz0, hz1, hz2⟩ := info_parts infoS
    obtain ⟨k0, hk0⟩ : ∃ z, Hid (w18.heap.size = z) := ⟨_, (rfl : _ = _)⟩
    have hS : Hid (∀ W, Below k0 w18 W → W.cell? ⟨g, 4, none⟩ = some (.slice (some ⟨q, 0, none⟩) n cap) ∧ W.cell? ⟨g + 1, 0, none⟩ = some (.int .i64 s.op) ∧ W.cell? ⟨g + 1, 1, none⟩ = some (.int .i64 s.dst) ∧ W.cell? ⟨g + 1, 2, none⟩ = some (.int .i64 s.src) ∧ W.cell? ⟨g + 1, 3, none⟩ = some (.int .i64 s.jump) ∧ W.cell? ⟨g + 1, 4, none⟩ = some (.int .i64 s.count) ∧ W.cell? ⟨g + 1, 5, none⟩ = some (.int .i64 s.n) ∧ W.cell? ⟨g + 1, 6, none⟩ = some (.int .i64 s.k)) := fun W hW => by
      have hZ := Z18.out.call (hk0.out ▸ hW)
      have h1 := (kw.out W _ _ hZ).1.bx.c4
      obtain ⟨c0, c1, c2, c3, c4, c5, c6⟩ := kst.out W _ _ hZ
      exact ⟨h1, c0, c1, c2, c3, c4, c5, c6⟩
    have hS2 : Hid (∀ W v, Below k0 w18 W → (W.setCell ⟨G, 4, none⟩ v).cell? ⟨g, 4, none⟩ = some (.slice (some ⟨q, 0, none⟩) n cap) ∧ (W.setCell ⟨G, 4, none⟩ v).cell? ⟨g + 1, 0, none⟩ = some (.int .i64 s.op) ∧ (W.setCell ⟨G, 4, none⟩ v).cell? ⟨g + 1, 1, none⟩ = some (.int .i64 s.dst) ∧ (W.setCell ⟨G, 4, none⟩ v).cell? ⟨g + 1, 2, none⟩ = some (.int .i64 s.src) ∧ (W.setCell ⟨G, 4, none⟩ v).cell? ⟨g + 1, 3, none⟩ = some (.int .i64 s.jump) ∧ (W.setCell ⟨G, 4, none⟩ v).cell? ⟨g + 1, 4, none⟩ = some (.int .i64 s.count) ∧ (W.setCell ⟨G, 4, none⟩ v).cell? ⟨g + 1, 5, none⟩ = some (.int .i64 s.n) ∧ (W.setCell ⟨G, 4, none⟩ v).cell? ⟨g + 1, 6, none⟩ = some (.int .i64 s.k)) := fun W v hW => by
      have hZ := (Z18.out.call (hk0.out ▸ hW)).set4 v
      have h1 := (kw.out _ _ _ hZ).1.bx.c4
      obtain ⟨c0, c1, c2, c3, c4, c5, c6⟩ := kst.out _ _ _ hZ
      exact ⟨h1, c0, c1, c2, c3, c4, c5, c6⟩
    have hq29 : Hid (∀ W, Below k0 w18 W → ∀ j u, (scs p.steps)[j]? = some u → W.cell? ((⟨q, 0, none⟩ : Addr).add j) = some u) := fun W hW j u hj => by
      have hZ := Z18.out.call (hk0.out ▸ hW)
      have h2 := (kw.out W _ _ hZ).2.1
      rcases h2.src (c := cap) (fun h => by cases h) with ⟨h3, _⟩ | ⟨ad, c', h3, h4⟩
      · cases h3
      · injection h3 with h3 _ _
        injection h3 with h3
        subst h3
        exact h4 j u hj
    have hBr : Hid (Below k0 w18 w18.drew) := (Below.refl _ _).drew
    have hzG : Hid (∀ W, Below k0 w18 W → W.cell? ⟨G, 4, none⟩ = some (.slice (some ⟨q, 0, none⟩) n cap) ∧ W.frozen? ⟨G, 4, none⟩ = false) := fun W hW => by
      have hZ := Z18.out.call (hk0.out ▸ hW)
      exact ⟨hZ.y.bx.c4, hZ.y.fz 4⟩
    have hlS : Hid ((scs p.steps).length = n * 7) := by show _ = _; rw [scs_len, hn.out]
    have hSt : Hid (∀ W : World, SAt (W.alloc (.cells #[.int .i64 s.op, .int .i64 s.dst, .int .i64 s.src, .int .i64 s.jump, .int .i64 s.count, .int .i64 s.n, .int .i64 s.k] 39)) W.heap.size 0 s) := fun W => by constructor <;> simp
    have oE : Hid (∀ W : World, k0 ≤ W.heap.size → OwS (W.alloc (.cells #[] 39)) k0 (.slice (some ⟨W.heap.size, 0, none⟩) 0 0) []) := fun W hW => World.ownsRow_made W #[] 0 hW (by decide) rfl
    have szd : Hid (w18.drew.heap.size = k0) := hk0.out
    have bE0 : Hid (Below k0 w18 (w18.alloc (.cells #[] 39))) := (Below.refl _ _).alloc (Nat.le_of_eq hk0.out.symm) _
    have bE : Hid (Below k0 w18 (w18.alloc (.cells #[] 39)).drew) := bE0.out.drew
    have bEz : Hid (k0 ≤ (w18.alloc (.cells #[] 39)).drew.heap.size) := by show _ ≤ (w18.alloc (.cells #[] 39)).heap.size; rw [← hk0.out]; simp
    have bE2 : Hid (Below k0 w18 ((w18.alloc (.cells #[] 39)).alloc (.cells #[.int .i64 s.op, .int .i64 s.dst, .int .i64 s.src, .int .i64 s.jump, .int .i64 s.count, .int .i64 s.n, .int .i64 s.k] 39)).drew) := (bE0.out.alloc (by rw [← hk0.out]; simp) _).drew
    have oE2 : Hid (OwS (w18.alloc (.cells #[] 39)).drew k0 (.slice (some ⟨w18.heap.size, 0, none⟩) 0 0) []) := oE.out w18 (Nat.le_of_eq hk0.out.symm)
    have hl29 := hlen2.out
    have bF0 : Hid (Below k0 w18 (w18.alloc (.cells #[.int .i64 s.op, .int .i64 s.dst, .int .i64 s.src, .int .i64 s.jump, .int .i64 s.count, .int .i64 s.n, .int .i64 s.k] 39))) := (Below.refl _ _).alloc (Nat.le_of_eq hk0.out.symm) _
    have bF2 : Hid (Below k0 w18 ((w18.alloc (.cells #[.int .i64 s.op, .int .i64 s.dst, .int .i64 s.src, .int .i64 s.jump, .int .i64 s.count, .int .i64 s.n, .int .i64 s.k] 39)).alloc (.cells #[] 39)).drew) := (bF0.out.alloc (by rw [← hk0.out]; simp) _).drew
    have oEb : Hid (OwS ((w18.alloc (.cells #[] 39)).alloc (.cells #[.int .i64 s.op, .int .i64 s.dst, .int .i64 s.src, .int .i64 s.jump, .int .i64 s.count, .int .i64 s.n, .int .i64 s.k] 39)).drew k0 (.slice (some ⟨w18.heap.size, 0, none⟩) 0 0) []) := World.ownsRow.alloc (oE.out w18 (Nat.le_of_eq hk0.out.symm)) _
    have oEc : Hid (OwS ((w18.alloc (.cells #[.int .i64 s.op, .int .i64 s.dst, .int .i64 s.src, .int .i64 s.jump, .int .i64 s.count, .int .i64 s.n, .int .i64 s.k] 39)).alloc (.cells #[] 39)).drew k0 (.slice (some ⟨(w18.alloc (.cells #[.int .i64 s.op, .int .i64 s.dst, .int .i64 s.src, .int .i64 s.jump, .int .i64 s.count, .int .i64 s.n, .int .i64 s.k] 39)).heap.size, 0, none⟩) 0 0) []) := oE.out (w18.alloc (.cells #[.int .i64 s.op, .int .i64 s.dst, .int .i64 s.src, .int .i64 s.jump, .int .i64 s.count, .int .i64 s.n, .int .i64 s.k] 39)) (by rw [← hk0.out]; simp)
    have sAb : Hid (SAt ((w18.alloc (.cells #[] 39)).alloc (.cells #[.int .i64 s.op, .int .i64 s.dst, .int .i64 s.src, .int .i64 s.jump, .int .i64 s.count, .int .i64 s.n, .int .i64 s.k] 39)).drew (w18.alloc (.cells #[] 39)).heap.size 0 s) := by
      show SAt _ _ _ _
      constructor <;> simp
    have sAc : Hid (SAt ((w18.alloc (.cells #[.int .i64 s.op, .int .i64 s.dst, .int .i64 s.src, .int .i64 s.jump, .int .i64 s.count, .int .i64 s.n, .int .i64 s.k] 39)).alloc (.cells #[] 39)).drew w18.heap.size 0 s) := by
      show SAt _ _ _ _
      constructor <;> simp [go_sem]
    have szb : Hid (k0 ≤ ((w18.alloc (.cells #[] 39)).alloc (.cells #[.int .i64 s.op, .int .i64 s.dst, .int .i64 s.src, .int .i64 s.jump, .int .i64 s.count, .int .i64 s.n, .int .i64 s.k] 39)).drew.heap.size) := by show _ ≤ ((w18.alloc (.cells #[] 39)).alloc (.cells #[.int .i64 s.op, .int .i64 s.dst, .int .i64 s.src, .int .i64 s.jump, .int .i64 s.count, .int .i64 s.n, .int .i64 s.k] 39)).heap.size; rw [← hk0.out]; simp; omega
    have szc : Hid (k0 ≤ ((w18.alloc (.cells #[.int .i64 s.op, .int .i64 s.dst, .int .i64 s.src, .int .i64 s.jump, .int .i64 s.count, .int .i64 s.n, .int .i64 s.k] 39)).alloc (.cells #[] 39)).drew.heap.size) := by show _ ≤ ((w18.alloc (.cells #[.int .i64 s.op, .int .i64 s.dst, .int .i64 s.src, .int .i64 s.jump, .int .i64 s.count, .int .i64 s.n, .int .i64 s.k] 39)).alloc (.cells #[] 39)).heap.size; rw [← hk0.out]; simp; omega
    have oBc : Hid (k0 ≤ (w18.alloc (.cells #[.int .i64 s.op, .int .i64 s.dst, .int .i64 s.src, .int .i64 s.jump, .int .i64 s.count, .int .i64 s.n, .int .i64 s.k] 39)).heap.size) := by show _ ≤ _; rw [← hk0.out]; simp
    obtain ⟨s0, s1, s2, s3, s4, s5, s6, s7⟩ := hS.out w18 (Below.refl _ _)
    go_region_held_law (fun W => W.cell? ⟨g, 4, none⟩ = some (.slice (some ⟨q, 0, none⟩) n cap) ∧ W.cell? ⟨g + 1, 0, none⟩ = some (.int .i64 s.op) ∧ W.cell? ⟨g + 1, 1, none⟩ = some (.int .i64 s.dst) ∧ W.cell? ⟨g + 1, 2, none⟩ = some (.int .i64 s.src) ∧ W.cell? ⟨g + 1, 3, none⟩ = some (.int .i64 s.jump) ∧ W.cell? ⟨g + 1, 4, none⟩ = some (.int .i64 s.count) ∧ W.cell? ⟨g + 1, 5, none⟩ = some (.int .i64 s.n) ∧ W.cell? ⟨g + 1, 6, none⟩ = some (.int .i64 s.k)) (first | exact hS2.out _ _ B2w.out | exact hS.out _ B2w.out | exact hS.out _ bE2.out | exact hS.out _ bF2.out | exact hS.out _ bF0.out | exact hS.out _ bF0.out.drew | exact hS2.out _ _ B2w.out.drew | exact hS.out _ (B1w.out.alloc B1z.out _).drew | exact hS.out _ (B1w.out.alloc B1z.out _) | exact hS.out _ B1w.out | exact hS.out _ bE.out | exact hS.out _ bE0.out | exact hS.out _ hBr.out) ((first
      | (refine step_app rfl (.tmp 144) (.tmp 146) 22 rfl k0 39 i0 _ 7 56 Tryd.underlying22 hi0 hz0 hz1 hz2 rfl (by decide) (.slice (some ⟨w18.heap.size, 0, none⟩) 0 0) 0 [] (by simp [Act.eval]) oE2.out ⟨q, 0, none⟩ n cap (scs p.steps) (by simp [Act.eval]) hlS.out (hq29.out _ bE.out) (scs_one _) (by unfold maxLen; omega) (by omega) bEz.out ?_
         intro v1 w1 hown1 hgrow1
         have B1w : Hid (Below k0 w18 w1) := bE.out.grown hgrow1 bEz.out (fun k hk => by cases hk; exact Nat.le_of_eq hk0.out.symm)
         have O1w : Hid (OwS w1 k0 v1 p.steps) := by
           show World.ownsRow _ _ _ _ _ _ _
           have h9 := hown1
           rw [List.nil_append, Nat.zero_add] at h9
           rw [hn.out]; exact h9
         have B1z : Hid (k0 ≤ w1.heap.size) := by have := hgrow1.size; have := bEz.out; show _ ≤ _; omega
         clear hown1 hgrow1)
      | (refine step_app rfl (.tmp 147) (.tmp 149) 22 rfl k0 39 i0 _ 7 56 Tryd.underlying22 hi0 hz0 hz1 hz2 rfl (by decide) v1 n (scs p.steps) (by simp [Act.eval]) (own29 O1w.out hn.out _) ⟨w1.heap.size, 0, none⟩ 1 1 (sc1 s) (by simp [Act.eval]) rfl (st29 w1 s) (scs_one1 s) (by unfold maxLen; omega) (by omega) (by simp; exact Nat.le_succ_of_le B1z.out) ?_
         intro v2 w2' hown2 hgrow2
         have B2w : Hid (Below k0 w18 w2') := ((B1w.out.alloc B1z.out _)).grown hgrow2 (by simp; exact Nat.le_succ_of_le B1z.out) (fun k hk => (World.ownsRow.lt O1w.out k hk).1)
         have O2w : Hid (OwS w2' k0 v2 (p.steps ++ [s])) := by
           show World.ownsRow _ _ _ _ _ _ _
           have h9 := hown2
           rw [List.length_append, hn.out, scs_snoc]; exact h9
         obtain ⟨zg4, zgf⟩ := hzG.out w2' B2w.out
         obtain ⟨ao2, cap2, rfl⟩ := ow29 O2w.out (show (p.steps ++ [s]).length = n + 1 by rw [List.length_append, hn.out]; rfl)
         clear hown2 hgrow2)
      | (refine step_app rfl (.tmp 144) (.tmp 146) 22 rfl k0 39 i0 _ 7 56 Tryd.underlying22 hi0 hz0 hz1 hz2 rfl (by decide) (.slice (some ⟨w18.heap.size, 0, none⟩) 0 0) 0 [] (by simp [Act.eval]) oEb.out ⟨q, 0, none⟩ n cap (scs p.steps) (by simp [Act.eval]) hlS.out (hq29.out _ bE2.out) (scs_one _) (by unfold maxLen; omega) (by omega) szb.out ?_
         intro v1 w1 hown1 hgrow1
         have B1w : Hid (Below k0 w18 w1) := bE2.out.grown hgrow1 szb.out (fun k hk => by cases hk; exact Nat.le_of_eq hk0.out.symm)
         have O1w : Hid (OwS w1 k0 v1 p.steps) := by
           show World.ownsRow _ _ _ _ _ _ _
           have h9 := hown1
           rw [List.nil_append, Nat.zero_add] at h9
           rw [hn.out]; exact h9
         have B1z : Hid (k0 ≤ w1.heap.size) := by have := hgrow1.size; have := szb.out; show _ ≤ _; omega
         have c1w : Hid (∀ (j : Nat) (u : Value), (sc1 s)[j]? = some u → w1.cell? ((⟨(w18.alloc (.cells #[] 39)).heap.size, 0, none⟩ : Addr).add j) = some u) := fun j u hj => st29b hgrow1 (by simp [Value.ownBlock]) sAb.out j u hj
         clear hown1 hgrow1)
      | (refine step_app rfl (.tmp 144) (.tmp 146) 22 rfl k0 39 i0 _ 7 56 Tryd.underlying22 hi0 hz0 hz1 hz2 rfl (by decide) (.slice (some ⟨(w18.alloc (.cells #[.int .i64 s.op, .int .i64 s.dst, .int .i64 s.src, .int .i64 s.jump, .int .i64 s.count, .int .i64 s.n, .int .i64 s.k] 39)).heap.size, 0, none⟩) 0 0) 0 [] (by simp [Act.eval]) oEc.out ⟨q, 0, none⟩ n cap (scs p.steps) (by simp [Act.eval]) hlS.out (hq29.out _ bF2.out) (scs_one _) (by unfold maxLen; omega) (by omega) szc.out ?_
         intro v1 w1 hown1 hgrow1
         have B1w : Hid (Below k0 w18 w1) := bF2.out.grown hgrow1 szc.out (fun k hk => by cases hk; exact oBc.out)
         have O1w : Hid (OwS w1 k0 v1 p.steps) := by
           show World.ownsRow _ _ _ _ _ _ _
           have h9 := hown1
           rw [List.nil_append, Nat.zero_add] at h9
           rw [hn.out]; exact h9
         have B1z : Hid (k0 ≤ w1.heap.size) := by have := hgrow1.size; have := szc.out; show _ ≤ _; omega
         have c1w : Hid (∀ (j : Nat) (u : Value), (sc1 s)[j]? = some u → w1.cell? ((⟨w18.heap.size, 0, none⟩ : Addr).add j) = some u) := fun j u hj => st29b hgrow1 (by simp [Value.ownBlock]) sAc.out j u hj
         clear hown1 hgrow1)
      | (refine step_app rfl (.tmp 147) (.tmp 149) 22 rfl k0 39 i0 _ 7 56 Tryd.underlying22 hi0 hz0 hz1 hz2 rfl (by decide) v1 n (scs p.steps) (by simp [Act.eval, Act.put]) (own29b O1w.out hn.out) ⟨(w18.alloc (.cells #[] 39)).heap.size, 0, none⟩ 1 1 (sc1 s) (by simp [Act.eval, Act.put]) rfl c1w.out (scs_one1 s) (by unfold maxLen; omega) (by omega) B1z.out ?_
         intro v2 w2' hown2 hgrow2
         have B2w : Hid (Below k0 w18 w2') := B1w.out.grown hgrow2 B1z.out (fun k hk => (World.ownsRow.lt O1w.out k hk).1)
         have O2w : Hid (OwS w2' k0 v2 (p.steps ++ [s])) := by
           show World.ownsRow _ _ _ _ _ _ _
           have h9 := hown2
           rw [List.length_append, hn.out, scs_snoc]; exact h9
         obtain ⟨zg4, zgf⟩ := hzG.out w2' B2w.out
         obtain ⟨ao2, cap2, rfl⟩ := ow29 O2w.out (show (p.steps ++ [s]).length = n + 1 by rw [List.length_append, hn.out]; rfl)
         clear hown2 hgrow2)
      | (refine step_app rfl (.tmp 147) (.tmp 149) 22 rfl k0 39 i0 _ 7 56 Tryd.underlying22 hi0 hz0 hz1 hz2 rfl (by decide) v1 n (scs p.steps) (by simp [Act.eval, Act.put]) (own29b O1w.out hn.out) ⟨w18.heap.size, 0, none⟩ 1 1 (sc1 s) (by simp [Act.eval, Act.put]) rfl c1w.out (scs_one1 s) (by unfold maxLen; omega) (by omega) B1z.out ?_
         intro v2 w2' hown2 hgrow2
         have B2w : Hid (Below k0 w18 w2') := B1w.out.grown hgrow2 B1z.out (fun k hk => (World.ownsRow.lt O1w.out k hk).1)
         have O2w : Hid (OwS w2' k0 v2 (p.steps ++ [s])) := by
           show World.ownsRow _ _ _ _ _ _ _
           have h9 := hown2
           rw [List.length_append, hn.out, scs_snoc]; exact h9
         obtain ⟨zg4, zgf⟩ := hzG.out w2' B2w.out
         obtain ⟨ao2, cap2, rfl⟩ := ow29 O2w.out (show (p.steps ++ [s]).length = n + 1 by rw [List.length_append, hn.out]; rfl)
         clear hown2 hgrow2)
      | (trace_state; fail)))
    all_goals
      have Z19' : Bz w w8 (w2'.setCell ⟨G, 4, none⟩ (.slice ao2 (n + 1) cap2)) G p (.slice ao2 (n + 1) cap2) := (Z18.out.call (hk0.out ▸ B2w.out)).set4 _
      have Z19 : Hid (Bz w w8 (w2'.setCell ⟨G, 4, none⟩ (.slice ao2 (n + 1) cap2)) G p (.slice ao2 (n + 1) cap2)) := Z19'
      have SS9 : Hid (Ss (w2'.setCell ⟨G, 4, none⟩ (.slice ao2 (n + 1) cap2)) ao2 (p.steps ++ [s])) := by
        obtain ⟨ao', cap', e9, h9⟩ := OwS.ss (OwS.fr O2w.out (set_fr w2' G 4 (.slice ao2 (n + 1) cap2)) fun b hb h2 => by
          have h3 : b = G := h2
          have h4 := (World.ownsRow.lt O2w.out b hb).1
          have h5 := Z18.out.hG
          have h6 := Z18.out.sz
          have h7 := hk0.out
          omega)
        injection e9 with e1
        rw [← e1] at h9
        exact h9
      generalize (w2'.setCell ⟨G, 4, none⟩ (.slice ao2 (n + 1) cap2)) = w19 at Z19 SS9 ⊢
      clear Z19' s0 s1 s2 s3 s4 s5 s6 s7 hl29 zg4 zgf O1w B1w B1z O2w B2w
      have cA : Hid (Calls Tryd.prog 11 #[.agg #[.int .i64 p.len, .int .i64 p.cells, .int .i64 p.inn, .int .i64 p.out, .slice ao2 (n + 1) cap2]] w19 fun e w' => e = .returned (.tuple #[.int .i64 (bif A1 then T + s.count else 0), fev al A1]) ∧ Below w19.heap.size w19 w') := by
        obtain ⟨-, -, h3, h4, -⟩ := kw.out w19 _ _ Z19.out
        have := kacts_c ⟨p.len, p.cells, p.inn, p.out, p.steps ++ [s]⟩ ao2 (n + 1) cap2 al w19 SS9.out (by rw [List.length_append, hn.out]; rfl) (by have := hlen2.out; omega) h3 h4
        rw [hsn.out, hsT.out] at this
        exact this
      have cC : Hid (∀ W, Below w19.heap.size w19 W → Calls Tryd.prog 14 #[.agg #[.int .i64 p.len, .int .i64 p.cells, .int .i64 p.inn, .int .i64 p.out, .slice ao2 (n + 1) cap2]] W fun e w' => e = .returned (fev al A1) ∧ Below W.heap.size W w') := fun W hW => by
        obtain ⟨-, -, h3, h4, -⟩ := kw.out W _ _ (Z19.out.call hW)
        have := kcheck_c ⟨p.len, p.cells, p.inn, p.out, p.steps ++ [s]⟩ ao2 (n + 1) cap2 al W (SS9.out.below hW) (by rw [List.length_append, hn.out]; rfl) (by have := hlen2.out; omega) h3 h4
        rw [hsn.out] at this
        exact this
      cases A1 with
      | false =>
        have e1 : fev al false = ek al 8 := rfl
        rw [e1] at cA cC
        obtain rfl : ek al 8 = fe := hfeH.out
        clear e1 hfeH
        have hq := nnil_c al 8
        have hqe := nil_c al 8
        have hgd := guard_c al 8
        obtain ⟨z0, z1, z2, z3, z4⟩ := Z19.out.y.bx
        go_wp2_with fail
        refine cA.out.mono ?_
        rintro e w20 ⟨rfl, B20⟩
        have B20H : Hid (Below w19.heap.size w19 w20) := B20
        have Z20 : Hid (Bz w w8 w20 G p (.slice ao2 (n + 1) cap2)) := Z19.out.call B20
        clear z0 z1 z2 z3 z4 B20 cA
        obtain ⟨z0, z1, z2, z3, z4⟩ := Z20.out.y.bx
        go_wp2_with fail
        refine (cC.out w20 B20H.out).mono ?_
        rintro e w21 ⟨rfl, B21⟩
        have Z21 : Hid (Bz w w8 w21 G p (.slice ao2 (n + 1) cap2)) := Z20.out.call B21
        have hB : Hid (Below w.heap.size w w21) := Z21.out.be
        clear z0 z1 z2 z3 z4 B21 cC
        have z4 := (kst.out w21 _ _ Z21.out).c4
        go_wp2
        go_ret
        exact ⟨rfl, hB.out⟩
      | true =>
        have e1 : fev al true = .nilIface := rfl
        rw [e1] at cA cC
        obtain rfl : Value.nilIface = fe := hfeH.out
        clear e1 hfeH
        have hwr : IntKind.i64.wrap (T + s.count) = T + s.count := by
          have h1 := (chk_iff.1 hA1.out).2
          have h2 := gd_fm (flt_one.1 h1).2.1
          have h3 := hsm.out
          rw [IntKind.wrap_i64]
          omega
        obtain ⟨z0, z1, z2, z3, z4⟩ := Z19.out.y.bx
        go_wp2_with fail
        refine cA.out.mono ?_
        rintro e w20 ⟨rfl, B20⟩
        have B20H : Hid (Below w19.heap.size w19 w20) := B20
        have Z20 : Hid (Bz w w8 w20 G p (.slice ao2 (n + 1) cap2)) := Z19.out.call B20
        clear z0 z1 z2 z3 z4 B20 cA
        obtain ⟨z0, z1, z2, z3, z4⟩ := Z20.out.y.bx
        go_wp2_with fail
        refine (cC.out w20 B20H.out).mono ?_
        rintro e w21 ⟨rfl, B21⟩
        have Z21 : Hid (Bz w w8 w21 G p (.slice ao2 (n + 1) cap2)) := Z20.out.call B21
        have hB : Hid (Below w.heap.size w w21) := Z21.out.be
        clear z0 z1 z2 z3 z4 B21 cC
        have z4 := (kst.out w21 _ _ Z21.out).c4
        go_wp2
        go_ret
        exact ⟨rfl, hB.out⟩
end Go.Proofs.YtmnbpmmilfkjiaaDoor
