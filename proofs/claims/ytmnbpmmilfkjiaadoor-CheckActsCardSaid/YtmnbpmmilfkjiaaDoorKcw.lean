/-
  Programs of steps that make noughts: how many acts they are; a program that grows by a step, in memory.
-/
import Derived.Test.YtmnbpmmilfkjiaaDoorLvv
import Derived.Test.YtmnbpmmilfkjiaaDoorSl1
namespace Go.Proofs.YtmnbpmmilfkjiaaDoor.Kc
open Go.RowKit
def zst (c : Int) : Sp.St := ⟨3, 0, 0, 0, c, 0, 0⟩
theorem zst_fm {c : Int} (h1 : 1 ≤ c) (h2 : c ≤ 262144) : Sp.fm (zst c) = true := by
  rw [← Sp.dfm_eq]
  simp [Sp.dfm, zst, Sp.dgood, Sp.num, Sp.hs, Sp.hj, Sp.hn, Sp.hk, Sp.wi, Sp.kn, h1, h2]
theorem zst_gd {c : Int} (h1 : 1 ≤ c) (h2 : c ≤ 262144) : gdS (zst c) 262144 = true := by
  unfold gdS
  rw [zst_fm h1 h2, Bool.true_and]
  obtain ⟨n, rfl⟩ : ∃ n : Nat, c = (n : Int) := ⟨c.toNat, by omega⟩
  have e : touS (zst n) = ⟨[], [⟨0, 1, n⟩], false⟩ := rfl
  rw [e]
  have hb : (To.mk [] [⟨0, 1, n⟩] false).below 262144 = true := by
    rw [below_iff]
    exact ⟨by simp, by simp [last_eq]; omega⟩
  rw [hb]
  simp [To.clash]
theorem flt_snoc (cells : Int) (s : Sp.St) : ∀ (l : List Sp.St) (i : Nat) (a : Int), flt cells i a (l ++ [s]) = if flt cells i a l < 0 then flt cells (i + l.length) (a + sumc l) [s] else flt cells i a l
  | [], i, a => by simp [flt, sumc]
  | t :: l, i, a => by
    rw [List.cons_append]
    show (bif (i == 65536) || !gdS t cells then (i : Int) else bif decide (67108864 < a + t.count) then (i : Int) else flt cells (i + 1) (a + t.count) (l ++ [s])) = if (bif (i == 65536) || !gdS t cells then (i : Int) else bif decide (67108864 < a + t.count) then (i : Int) else flt cells (i + 1) (a + t.count) l) < 0 then _ else (bif (i == 65536) || !gdS t cells then (i : Int) else bif decide (67108864 < a + t.count) then (i : Int) else flt cells (i + 1) (a + t.count) l)
    cases (i == 65536) || !gdS t cells with
    | true => simp only [cond_true]; rw [if_neg (by omega)]
    | false =>
      simp only [cond_false]
      cases decide (67108864 < a + t.count) with
      | true => simp only [cond_true]; rw [if_neg (by omega)]
      | false =>
        simp only [cond_false]
        rw [flt_snoc cells s l (i + 1) (a + t.count), List.length_cons]
        have e1 : i + 1 + l.length = i + (l.length + 1) := by omega
        have e2 : a + t.count + sumc l = a + sumc (t :: l) := by show _ = a + (t.count + sumc l); omega
        rw [e1, e2]
theorem sumc_snoc (s : Sp.St) : ∀ l, sumc (l ++ [s]) = sumc l + s.count
  | [] => by simp [sumc]
  | t :: l => by rw [List.cons_append]; unfold sumc; rw [sumc_snoc s l]; omega
end Go.Proofs.YtmnbpmmilfkjiaaDoor.Kc
namespace Go.Proofs.YtmnbpmmilfkjiaaDoor
open Flo Go.RowKit
/-- a box of a program: its cells, and that they may be written -/
structure Bp8 (w : World) (b : Nat) (p : Sp.Pg) (v : Value) : Prop where
  bx : Bpg w b p v
  fz : ∀ i, w.frozen? ⟨b, i, none⟩ = false
theorem Bp8.blk {w w' : World} {b : Nat} {p : Sp.Pg} {v : Value} (h : Bp8 w b p v) (e : w'.heap[b]? = w.heap[b]?) : Bp8 w' b p v :=
  ⟨⟨(World.cell?_of_block (a := ⟨b, 0, none⟩) e).trans h.bx.c0, (World.cell?_of_block (a := ⟨b, 1, none⟩) e).trans h.bx.c1, (World.cell?_of_block (a := ⟨b, 2, none⟩) e).trans h.bx.c2, (World.cell?_of_block (a := ⟨b, 3, none⟩) e).trans h.bx.c3, (World.cell?_of_block (a := ⟨b, 4, none⟩) e).trans h.bx.c4⟩, fun i => (World.frozen?_of_block (a := ⟨b, i, none⟩) e).trans (h.fz i)⟩
theorem Bp8.new (w : World) (p : Sp.Pg) (v : Value) : Bp8 (w.alloc (.cells #[.int .i64 p.len, .int .i64 p.cells, .int .i64 p.inn, .int .i64 p.out, v] 24)) w.heap.size p v := ⟨Bpg.new w p v, fun i => by simp⟩
theorem Bp8.set4 {w : World} {b : Nat} {p : Sp.Pg} {v : Value} (h : Bp8 w b p v) (v' : Value) : Bp8 (w.setCell ⟨b, 4, none⟩ v') b p v' :=
  ⟨⟨by simp [World.cell?_setCell_other, h.bx.c0], by simp [World.cell?_setCell_other, h.bx.c1], by simp [World.cell?_setCell_other, h.bx.c2], by simp [World.cell?_setCell_other, h.bx.c3], World.cell?_setCell_same _ _ _ h.bx.c4⟩, fun i => by rw [World.frozen?_setCell]; exact h.fz i⟩
/-- a program that grows: its box, and its steps in a row of the call's own behind it -/
structure Cw (G : Nat) (w wx : World) (hd : Sp.Pg) (v : Value) (ss : List Sp.St) : Prop where
  y : Bp8 wx G hd v
  ow : OwS wx (G + 1) v ss
  be : Below w.heap.size w wx
  hG : w.heap.size ≤ G
  sz : G + 1 ≤ wx.heap.size
section
variable {G : Nat} {w wx wy : World} {hd : Sp.Pg} {v : Value} {ss : List Sp.St}
theorem Cw.call (h : Cw G w wx hd v ss) (hb : Below wx.heap.size wx wy) : Cw G w wy hd v ss :=
  ⟨h.y.blk (hb.block G h.sz), h.ow.kept (row := none) ⟨hb.os, hb.tape, hb.output, hb.size, fun j hj _ => hb.block j hj⟩ (by cases hv : v.ownBlock <;> simp), h.be.trans (hb.mono h.be.size), h.hG, Nat.le_trans h.sz hb.size⟩
theorem Cw.push (h : Cw G w wx hd v ss) {v' : Value} {ss' : List Sp.St} (ho : OwS wy (G + 1) v' ss') (hg : wx.grownBy wy v.ownBlock) :
    Bp8 wy G hd v ∧ Cw G w (wy.setCell ⟨G, 4, none⟩ v') hd v' ss' := by
  have n1 : ¬ some G = v.ownBlock := fun e => by have := (World.ownsRow.lt h.ow G e.symm).1; omega
  have y1 : Bp8 wy G hd v := h.y.blk (hg.block G h.sz n1)
  have hsz := hg.size
  have hbl : Below w.heap.size w wy := h.be.grown hg h.be.size fun k hk => Nat.le_trans (Nat.le_trans h.hG (Nat.le_succ _)) (World.ownsRow.lt h.ow k hk).1
  refine ⟨y1, y1.set4 v', ?_, hbl.setCell (p := ⟨G, 4, none⟩) h.hG v', h.hG, by simp; exact Nat.le_trans h.sz hsz⟩
  exact ownsRow_setCell_below ho (a := ⟨G, 4, none⟩) (Nat.lt_succ_self G) v'
end
end Go.Proofs.YtmnbpmmilfkjiaaDoor
/-
  The statement CheckActs: the walk.
-/
namespace Go.Proofs.YtmnbpmmilfkjiaaDoor
open Flo Go.RowKit
def kap : Sp.Pg := ⟨1, 262144, 0, 0, []⟩
/-- so many steps of one length, and one of another behind them -/
def kas (n : Nat) (c d : Int) (k : Nat) : List Sp.St := if k ≤ n then List.replicate k (Kc.zst c) else List.replicate n (Kc.zst c) ++ [Kc.zst d]
theorem kas_len (n : Nat) (c d : Int) (k : Nat) (h : k ≤ n + 1) : (kas n c d k).length = k := by
  unfold kas; split
  · simp
  · simp; omega
theorem kas_succ (n : Nat) (c d : Int) (k : Nat) (h : k ≤ n) : kas n c d (k + 1) = kas n c d k ++ [Kc.zst (if k = n then d else c)] := by
  unfold kas
  rw [if_pos h]
  by_cases e : k = n
  · subst e
    rw [if_neg (by omega), if_pos rfl]
  · rw [if_pos (by omega), if_neg e, List.replicate_succ']
theorem md18 (x : Int) (m : Nat) (h1 : 1 ≤ m) (h2 : m ≤ 262144) : ∃ r : Nat, r < m ∧ (IntKind.u64.wrap x).tmod (m : Int) = (r : Int) ∧ wrap64 (r : Int) = (r : Int) ∧ wrap64 (1 + (r : Int)) = ((1 + r : Nat) : Int) := by
  have e : 0 ≤ IntKind.u64.wrap x := by rw [IntKind.wrap_u64]; omega
  obtain ⟨y, hy⟩ : ∃ y : Nat, IntKind.u64.wrap x = (y : Int) := ⟨(IntKind.u64.wrap x).toNat, by omega⟩
  have hlt := Nat.mod_lt y (show m > 0 by omega)
  refine ⟨y % m, hlt, by rw [hy, ← Int.ofNat_tmod], ?_, ?_⟩
  · generalize y % m = r at hlt; unfold wrap64; omega
  · generalize y % m = r at hlt; unfold wrap64; omega
theorem sumc_rep (c : Int) : ∀ k, Kc.sumc (List.replicate k (Kc.zst c)) = k * c
  | 0 => by simp [Kc.sumc]
  | k + 1 => by rw [List.replicate_succ]; unfold Kc.sumc; rw [sumc_rep c k]; simp only [Kc.zst]; rw [Int.natCast_succ, Int.add_mul]; omega
theorem kas_bd {n : Nat} {c d : Int} {k : Nat} (hn : n ≤ 300) (h1 : 1 ≤ c) (h2 : c ≤ 262144) (h3 : 1 ≤ d) (h4 : d ≤ 262144) : 0 ≤ Kc.sumc (kas n c d k) ∧ Kc.sumc (kas n c d k) ≤ 78905344 := by
  have hb : ∀ m : Nat, m ≤ 300 → 0 ≤ (m : Int) * c ∧ (m : Int) * c ≤ 78643200 := fun m hm => by
    obtain ⟨y, rfl⟩ : ∃ y : Nat, c = (y : Int) := ⟨c.toNat, by omega⟩
    have : m * y ≤ 300 * 262144 := Nat.mul_le_mul hm (by omega)
    rw [← Int.natCast_mul]; omega
  unfold kas
  split
  · rename_i h; rw [sumc_rep]; have := hb k (by omega); omega
  · rw [Kc.sumc_snoc, sumc_rep]; have := hb n hn; simp only [Kc.zst]; omega
theorem flt_neg {F cells : Int} {l : List Sp.St} (h : F = Kc.flt cells 0 0 l) (hF : F < 0) : F = -1 := by
  have := flt_lt cells l 0 0
  omega
theorem w18 {n k : Nat} (hk : k ≤ n) (hn : n ≤ 300) : wrap64 ((k : Int) + 1) = ((k + 1 : Nat) : Int) := by unfold wrap64; omega
theorem meas18 {n k : Nat} (hk : k ≤ n) (hn : n ≤ 300) : n + 1 - (intOf (.int .i64 (wrap64 ((k : Int) + 1)))).toNat < n + 1 - (intOf (.int .i64 (k : Int))).toNat := by
  have e : wrap64 ((k : Int) + 1) = ((k + 1 : Nat) : Int) := by unfold wrap64; omega
  rw [e]
  simp only [intOf, Int.toNat_natCast]
  omega
theorem kap_chk (ss : List Sp.St) : Kc.chk ⟨1, 262144, 0, 0, ss⟩ = decide (Kc.flt 262144 0 0 ss < 0) := by
  have h : Kc.hdf ⟨1, 262144, 0, 0, ss⟩ = true := show (Sp.wi 1 1 16384 && (Sp.wi 262144 1 262144 && (Sp.wi 0 0 (wrap64 (262144 - 1)) && Sp.wi 0 0 (wrap64 (262144 - 1))))) = true by decide +kernel
  unfold Kc.chk
  rw [h, Bool.true_and]
theorem kas_flt {n : Nat} {c d x : Int} {k : Nat} (hk : k ≤ n) (hn : n ≤ 300) (hx : x = if k = n then d else c) (h1 : 1 ≤ x) (h2 : x ≤ 262144) :
    Kc.flt 262144 0 0 (kas n c d (k + 1)) = if Kc.flt 262144 0 0 (kas n c d k) < 0 then (if 67108864 < Kc.sumc (kas n c d k) + x then (k : Int) else -1) else Kc.flt 262144 0 0 (kas n c d k) := by
  rw [kas_succ n c d k hk, ← hx, Kc.flt_snoc, kas_len n c d k (by omega)]
  congr 1
  show (bif (0 + k == 65536) || !Kc.gdS (Kc.zst x) 262144 then ((0 + k : Nat) : Int) else bif decide (67108864 < 0 + Kc.sumc (kas n c d k) + x) then ((0 + k : Nat) : Int) else -1) = _
  have e1 : (0 + k == 65536) = false := beq_eq_false_iff_ne.2 (by omega)
  rw [e1, Kc.zst_gd h1 h2, Nat.zero_add, Int.zero_add]
  by_cases h : 67108864 < Kc.sumc (kas n c d k) + x
  · rw [if_pos h, decide_eq_true h]; rfl
  · rw [if_neg h, decide_eq_false h]; rfl
set_option maxHeartbeats 4000000 in
set_option maxRecDepth 100000 in
theorem checkActs.walk (x0 x1 x2 : Int) (al : List Addr) (w : World) (hE : Errs w al) (hO : Ops w) (he : Pe w al) :
    Calls Tryd.prog 4 #[.int .i64 x0, .int .i64 x1, .int .i64 x2] w fun e w' => e = .returned (.bool true) ∧ Below w.heap.size w w' := by
  have hlv : Hid (Calls Tryd.prog 8 #[] w fun e w' => e = .returned (.bool true) ∧ Below w.heap.size w w') := lives18_c al w hE hO he
  have hEH : Hid (Errs w al) := hE
  have hOH : Hid (Ops w) := hO
  have heH : Hid (Pe w al) := he
  clear hE hO he
  go_enter Tryd.func4, Tryd.ntmps4
  go_wp2_with fail
  refine hlv.out.mono ?_
  rintro e w1 ⟨rfl, B1⟩
  have B1H : Hid (Below w.heap.size w w1) := B1
  clear B1 hlv
  go_upto_region 5 with fail
  obtain ⟨r0, hr0, e0, e1, e2⟩ := md18 x0 300 (by decide) (by decide)
  obtain ⟨r1, hr1, e3, e4, e5⟩ := md18 x1 262144 (by decide) (by decide)
  obtain ⟨r2, hr2, e6, e7, e8⟩ := md18 x2 262144 (by decide) (by decide)
  rw [show ((300 : Nat) : Int) = 300 from rfl] at e0
  rw [show ((262144 : Nat) : Int) = 262144 from rfl] at e3 e6
  rw [e0, e3, e6, e1, e2, e4, e5, e7, e8]
  clear e0 e1 e2 e3 e4 e5 e6 e7 e8
  obtain ⟨n, hn⟩ : ∃ n, 1 + r0 = n := ⟨_, rfl⟩
  obtain ⟨c, hc⟩ : ∃ c : Int, ((1 + r1 : Nat) : Int) = c := ⟨_, rfl⟩
  obtain ⟨d, hd⟩ : ∃ c : Int, ((1 + r2 : Nat) : Int) = c := ⟨_, rfl⟩
  rw [hn, hc, hd]
  have hnb : Hid (n ≤ 300) := by show _ ≤ _; omega
  have hcb : 1 ≤ c ∧ c ≤ 262144 := by omega
  have hdb : 1 ≤ d ∧ d ≤ 262144 := by omega
  clear hn hc hd hr0 hr1 hr2
  obtain ⟨G, hG⟩ : ∃ z, Hid (w1.heap.size = z) := ⟨_, (rfl : _ = _)⟩
  have hC0 : Hid (Cw G w (w1.alloc (.cells #[.int .i64 1, .int .i64 262144, .int .i64 0, .int .i64 0, .slice none 0 0] 24)) kap (.slice none 0 0) (kas n c d 0)) := by
    rw [← hG.out]
    exact ⟨Bp8.new w1 kap _, ⟨rfl, .inl ⟨rfl, rfl⟩⟩, B1H.out.alloc B1H.out.size _, B1H.out.size, by simp⟩
  go_wp2
  rw [hG.out]
  go_loopw [8, 9, 10] (fun a f i wr => ∃ (k : Nat) (A F : Int) (v : Value), k ≤ n + 1 ∧ i = .int .i64 k ∧ a = .int .i64 A ∧ f = .int .i64 F ∧ Hid (Cw G w wr kap v (kas n c d k)) ∧ Hid (A = Kc.sumc (kas n c d k) ∧ F = Kc.flt 262144 0 0 (kas n c d k))) (fun _ _ i _ => n + 1 - (intOf i).toNat)
  case atStart => exact ⟨0, 0, -1, _, Nat.zero_le _, rfl, rfl, rfl, hC0, ⟨rfl, rfl⟩⟩
  case round =>
    obtain ⟨k, A, F, v, hk, rfl, rfl, rfl, hC, hA⟩ := hrel
    have hAb : Hid (0 ≤ A ∧ A ≤ 78905344) := by show _ ∧ _; rw [hA.out.1]; exact kas_bd hnb.out hcb.1 hcb.2 hdb.1 hdb.2
    by_cases hlt : k ≤ n
    · have hlt' : (k : Int) ≤ (n : Int) := by omega
      by_cases hkn : k = n
      · have q1 : ((k : Int) == (n : Int)) = true := by rw [hkn]; simp
        obtain ⟨S2, hS2⟩ : ∃ z, Hid (A + d = z) := ⟨_, (rfl : _ = _)⟩
        have esH : Hid (wrap64 (A + d) = S2) := by show _ = _; rw [← hS2.out]; have := hAb.out; unfold wrap64; omega
        have hflt := kas_flt (n := n) (c := c) (d := d) (x := d) (k := k) (by omega) hnb.out (by rw [if_pos hkn]) (by omega) (by omega)
        rw [← hA.out.1, ← hA.out.2, hS2.out] at hflt
        have hss : Hid (kas n c d (k + 1) = kas n c d k ++ [Kc.zst d]) := by show _ = _; rw [kas_succ n c d k (by omega), if_pos hkn]
        have hsu : Hid (S2 = Kc.sumc (kas n c d (k + 1))) := by show _ = _; rw [hss.out, Kc.sumc_snoc, ← hA.out.1, ← hS2.out]; rfl
        have hfH : Hid _ := hflt
        clear hflt hkn
        go_upto_region 13 with fail
        obtain ⟨wb, ewb⟩ : ∃ z, Hid (wr.alloc (.cells #[.int .i64 3, .int .i64 0, .int .i64 0, .int .i64 0, .int .i64 d, .int .i64 0, .int .i64 0] 39) = z) := ⟨_, (rfl : _ = _)⟩
        obtain ⟨gs, hgs⟩ : ∃ z, Hid (wr.heap.size = z) := ⟨_, (rfl : _ = _)⟩
        rw [ewb.out, hgs.out]
        have hCb : Hid (Cw G w wb kap v (kas n c d k)) := by show Cw _ _ _ _ _ _; rw [← ewb.out]; exact hC.out.call ((Below.refl _ _).alloc (Nat.le_refl _) _)
        have hZ : Hid (SAt wb gs 0 (Kc.zst d)) := by show SAt _ _ _ _; rw [← ewb.out, ← hgs.out]; constructor <;> simp [Kc.zst]
        obtain ⟨p0, p1, p2, p3, p4⟩ := hCb.out.y.bx
        obtain ⟨y0, y1, y2, y3, y4, y5, y6⟩ := hZ.out
        unfold Kc.zst at y0 y1 y2 y3 y4 y5 y6
        have hC7 : Hid (∀ o, Cw G w (wb.alloc o) kap v (kas n c d k)) := fun o => hCb.out.call ((Below.refl _ _).alloc (Nat.le_refl _) o)
        have hZ7 : Hid (SAt (wb.alloc (.cells #[.int .i64 3, .int .i64 0, .int .i64 0, .int .i64 0, .int .i64 d, .int .i64 0, .int .i64 0] 39)) wb.heap.size 0 (Kc.zst d)) := ⟨by simp [Kc.zst], by simp [Kc.zst], by simp [Kc.zst], by simp [Kc.zst], by simp [Kc.zst], by simp [Kc.zst], by simp [Kc.zst]⟩
        have hkb : Hid (((kas n c d k).length + 1) * 56 ≤ 140737488355328) := by show _ ≤ _; rw [kas_len n c d k (by omega)]; have := hnb.out; omega
        go_wp2_with (first | (at_builtin; refine appSt _ rfl _ _ rfl (G + 1) (kas n c d k) (Kc.zst d) wb.heap.size v rfl rfl (hC7.out _).ow hZ7.out hkb.out (hC7.out _).sz ?_) | fail)
        intro v' w8 ho hgr _
        obtain ⟨yb, hC8⟩ := (hC7.out _).push ho hgr
        rw [← hss.out] at hC8 ho
        have hC8H : Hid (Cw G w (w8.setCell ⟨G, 4, none⟩ v') kap v' (kas n c d (k + 1))) := hC8
        have v8 := yb.bx.c4
        have f8 := yb.fz 4
        obtain ⟨ao, cap, hv', -⟩ := OwS.ss ho
        rw [kas_len n c d (k + 1) (by omega)] at hv'
        subst hv'
        have z4 : Hid ((w8.setCell ⟨G, 4, none⟩ (.slice ao (k + 1) cap)).cell? ⟨gs, 4, none⟩ = some (.int .i64 d)) := by
          show _ = _
          have hlt0 : gs < (wb.alloc (.cells #[.int .i64 3, .int .i64 0, .int .i64 0, .int .i64 0, .int .i64 d, .int .i64 0, .int .i64 0] 39)).heap.size := by rw [← ewb.out, ← hgs.out]; simp; omega
          have hne : some gs ≠ v.ownBlock := fun e => by have := (World.ownsRow.lt hC.out.ow gs e.symm).2; have := hgs.out; omega
          have hG2 : G ≠ gs := by have := hC.out.sz; have := hgs.out; omega
          have e9 := hgr.block gs hlt0 hne
          have y9 : (wb.alloc (.cells #[.int .i64 3, .int .i64 0, .int .i64 0, .int .i64 0, .int .i64 d, .int .i64 0, .int .i64 0] 39)).cell? ⟨gs, 4, none⟩ = some (.int .i64 d) := (((Below.refl wb.heap.size wb).alloc (Nat.le_refl _) _).cell (cell_lt y4)).trans y4
          rw [World.cell?_setCell_far _ _ _ _ (by exact hG2)]
          exact (World.cell?_of_block (a := ⟨gs, 4, none⟩) e9).trans y9
        clear ho hgr hC8 yb y0 y1 y2 y3 y4 y5 y6 p0 p1 p2 p3 p4
        obtain ⟨w9, ew9⟩ : ∃ z, Hid (w8.setCell ⟨G, 4, none⟩ (.slice ao (k + 1) cap) = z) := ⟨_, (rfl : _ = _)⟩
        go_upto_region 14 with fail
        rw [ew9.out] at hC8H z4 ⊢
        clear v8 f8 ew9
        have y4 := z4.out
        have es := esH.out
        go_upto_region 15 with fail
        rw [es]
        clear es y4 esH
        by_cases hgt : 67108864 < S2
        · by_cases hF : F < 0
          · have hFn : Hid ((k : Int) = Kc.flt 262144 0 0 (kas n c d (k + 1))) := by show _ = _; rw [hfH.out, if_pos hF, if_pos hgt]
            go_wp2
            go_roundw
            case rel => exact ⟨k + 1, S2, (k : Int), _, by omega, congrArg (Value.int .i64) (w18 hlt hnb.out), rfl, rfl, hC8H, ⟨hsu.out, hFn.out⟩⟩
            case measure => exact meas18 hlt hnb.out
          · have hF2 : decide (F < 0) = false := decide_eq_false hF
            have hFn : Hid (F = Kc.flt 262144 0 0 (kas n c d (k + 1))) := by show _ = _; rw [hfH.out, if_neg hF]
            clear hF
            go_wp2
            go_roundw
            case rel => exact ⟨k + 1, S2, F, _, by omega, congrArg (Value.int .i64) (w18 hlt hnb.out), rfl, rfl, hC8H, ⟨hsu.out, hFn.out⟩⟩
            case measure => exact meas18 hlt hnb.out
        · have hgt2 : decide (67108864 < S2) = false := decide_eq_false hgt
          have hFx : Hid (F = Kc.flt 262144 0 0 (kas n c d (k + 1))) := by
            show _ = _
            rw [hfH.out]
            by_cases hF : F < 0
            · rw [if_pos hF, if_neg hgt]; exact flt_neg hA.out.2 hF
            · rw [if_neg hF]
          clear hgt
          go_wp2
          go_roundw
          case rel => exact ⟨k + 1, S2, F, _, by omega, congrArg (Value.int .i64) (w18 hlt hnb.out), rfl, rfl, hC8H, ⟨hsu.out, hFx.out⟩⟩
          case measure => exact meas18 hlt hnb.out
      · have q1 : ((k : Int) == (n : Int)) = false := by rw [beq_eq_false_iff_ne]; omega
        obtain ⟨S2, hS2⟩ : ∃ z, Hid (A + c = z) := ⟨_, (rfl : _ = _)⟩
        have esH : Hid (wrap64 (A + c) = S2) := by show _ = _; rw [← hS2.out]; have := hAb.out; unfold wrap64; omega
        have hflt := kas_flt (n := n) (c := c) (d := d) (x := c) (k := k) (by omega) hnb.out (by rw [if_neg hkn]) (by omega) (by omega)
        rw [← hA.out.1, ← hA.out.2, hS2.out] at hflt
        have hss : Hid (kas n c d (k + 1) = kas n c d k ++ [Kc.zst c]) := by show _ = _; rw [kas_succ n c d k (by omega), if_neg hkn]
        have hsu : Hid (S2 = Kc.sumc (kas n c d (k + 1))) := by show _ = _; rw [hss.out, Kc.sumc_snoc, ← hA.out.1, ← hS2.out]; rfl
        have hfH : Hid _ := hflt
        clear hflt hkn
        go_upto_region 13 with fail
        obtain ⟨wb, ewb⟩ : ∃ z, Hid (wr.alloc (.cells #[.int .i64 3, .int .i64 0, .int .i64 0, .int .i64 0, .int .i64 c, .int .i64 0, .int .i64 0] 39) = z) := ⟨_, (rfl : _ = _)⟩
        obtain ⟨gs, hgs⟩ : ∃ z, Hid (wr.heap.size = z) := ⟨_, (rfl : _ = _)⟩
        rw [ewb.out, hgs.out]
        have hCb : Hid (Cw G w wb kap v (kas n c d k)) := by show Cw _ _ _ _ _ _; rw [← ewb.out]; exact hC.out.call ((Below.refl _ _).alloc (Nat.le_refl _) _)
        have hZ : Hid (SAt wb gs 0 (Kc.zst c)) := by show SAt _ _ _ _; rw [← ewb.out, ← hgs.out]; constructor <;> simp [Kc.zst]
        obtain ⟨p0, p1, p2, p3, p4⟩ := hCb.out.y.bx
        obtain ⟨y0, y1, y2, y3, y4, y5, y6⟩ := hZ.out
        unfold Kc.zst at y0 y1 y2 y3 y4 y5 y6
        have hC7 : Hid (∀ o, Cw G w (wb.alloc o) kap v (kas n c d k)) := fun o => hCb.out.call ((Below.refl _ _).alloc (Nat.le_refl _) o)
        have hZ7 : Hid (SAt (wb.alloc (.cells #[.int .i64 3, .int .i64 0, .int .i64 0, .int .i64 0, .int .i64 c, .int .i64 0, .int .i64 0] 39)) wb.heap.size 0 (Kc.zst c)) := ⟨by simp [Kc.zst], by simp [Kc.zst], by simp [Kc.zst], by simp [Kc.zst], by simp [Kc.zst], by simp [Kc.zst], by simp [Kc.zst]⟩
        have hkb : Hid (((kas n c d k).length + 1) * 56 ≤ 140737488355328) := by show _ ≤ _; rw [kas_len n c d k (by omega)]; have := hnb.out; omega
        go_wp2_with (first | (at_builtin; refine appSt _ rfl _ _ rfl (G + 1) (kas n c d k) (Kc.zst c) wb.heap.size v rfl rfl (hC7.out _).ow hZ7.out hkb.out (hC7.out _).sz ?_) | fail)
        intro v' w8 ho hgr _
        obtain ⟨yb, hC8⟩ := (hC7.out _).push ho hgr
        rw [← hss.out] at hC8 ho
        have hC8H : Hid (Cw G w (w8.setCell ⟨G, 4, none⟩ v') kap v' (kas n c d (k + 1))) := hC8
        have v8 := yb.bx.c4
        have f8 := yb.fz 4
        obtain ⟨ao, cap, hv', -⟩ := OwS.ss ho
        rw [kas_len n c d (k + 1) (by omega)] at hv'
        subst hv'
        have z4 : Hid ((w8.setCell ⟨G, 4, none⟩ (.slice ao (k + 1) cap)).cell? ⟨gs, 4, none⟩ = some (.int .i64 c)) := by
          show _ = _
          have hlt0 : gs < (wb.alloc (.cells #[.int .i64 3, .int .i64 0, .int .i64 0, .int .i64 0, .int .i64 c, .int .i64 0, .int .i64 0] 39)).heap.size := by rw [← ewb.out, ← hgs.out]; simp; omega
          have hne : some gs ≠ v.ownBlock := fun e => by have := (World.ownsRow.lt hC.out.ow gs e.symm).2; have := hgs.out; omega
          have hG2 : G ≠ gs := by have := hC.out.sz; have := hgs.out; omega
          have e9 := hgr.block gs hlt0 hne
          have y9 : (wb.alloc (.cells #[.int .i64 3, .int .i64 0, .int .i64 0, .int .i64 0, .int .i64 c, .int .i64 0, .int .i64 0] 39)).cell? ⟨gs, 4, none⟩ = some (.int .i64 c) := (((Below.refl wb.heap.size wb).alloc (Nat.le_refl _) _).cell (cell_lt y4)).trans y4
          rw [World.cell?_setCell_far _ _ _ _ (by exact hG2)]
          exact (World.cell?_of_block (a := ⟨gs, 4, none⟩) e9).trans y9
        clear ho hgr hC8 yb y0 y1 y2 y3 y4 y5 y6 p0 p1 p2 p3 p4
        obtain ⟨w9, ew9⟩ : ∃ z, Hid (w8.setCell ⟨G, 4, none⟩ (.slice ao (k + 1) cap) = z) := ⟨_, (rfl : _ = _)⟩
        go_upto_region 14 with fail
        rw [ew9.out] at hC8H z4 ⊢
        clear v8 f8 ew9
        have y4 := z4.out
        have es := esH.out
        go_upto_region 15 with fail
        rw [es]
        clear es y4 esH
        by_cases hgt : 67108864 < S2
        · by_cases hF : F < 0
          · have hFn : Hid ((k : Int) = Kc.flt 262144 0 0 (kas n c d (k + 1))) := by show _ = _; rw [hfH.out, if_pos hF, if_pos hgt]
            go_wp2
            go_roundw
            case rel => exact ⟨k + 1, S2, (k : Int), _, by omega, congrArg (Value.int .i64) (w18 hlt hnb.out), rfl, rfl, hC8H, ⟨hsu.out, hFn.out⟩⟩
            case measure => exact meas18 hlt hnb.out
          · have hF2 : decide (F < 0) = false := decide_eq_false hF
            have hFn : Hid (F = Kc.flt 262144 0 0 (kas n c d (k + 1))) := by show _ = _; rw [hfH.out, if_neg hF]
            clear hF
            go_wp2
            go_roundw
            case rel => exact ⟨k + 1, S2, F, _, by omega, congrArg (Value.int .i64) (w18 hlt hnb.out), rfl, rfl, hC8H, ⟨hsu.out, hFn.out⟩⟩
            case measure => exact meas18 hlt hnb.out
        · have hgt2 : decide (67108864 < S2) = false := decide_eq_false hgt
          have hFx : Hid (F = Kc.flt 262144 0 0 (kas n c d (k + 1))) := by
            show _ = _
            rw [hfH.out]
            by_cases hF : F < 0
            · rw [if_pos hF, if_neg hgt]; exact flt_neg hA.out.2 hF
            · rw [if_neg hF]
          clear hgt
          go_wp2
          go_roundw
          case rel => exact ⟨k + 1, S2, F, _, by omega, congrArg (Value.int .i64) (w18 hlt hnb.out), rfl, rfl, hC8H, ⟨hsu.out, hFx.out⟩⟩
          case measure => exact meas18 hlt hnb.out
    · have hlt' : decide ((k : Int) ≤ (n : Int)) = false := decide_eq_false (by omega)
      have hlt2 : ¬ k ≤ n := hlt
      obtain rfl : k = n + 1 := by omega
      obtain ⟨ss, hss⟩ : ∃ z, Hid (kas n c d (n + 1) = z) := ⟨_, (rfl : _ = _)⟩
      rw [hss.out] at hC hA
      have hln : Hid (n + 1 = ss.length) := by show _ = _; rw [← hss.out, kas_len n c d (n + 1) (Nat.le_refl _)]
      obtain ⟨m, hm⟩ : ∃ m, Hid (n + 1 = m) := ⟨_, (rfl : _ = _)⟩
      have hmb : Hid (m ≤ 140737488355328) := by show _ ≤ _; have := hm.out; have := hnb.out; omega
      obtain ⟨ao, cap, rfl, hs⟩ := OwS.ss hC.out.ow
      have hsH : Hid (Ss wr ao ss) := hs
      have hCH : Hid (Cw G w wr kap (.slice ao ss.length cap) ss) := hC.out
      rw [← hln.out, hm.out] at hCH
      obtain ⟨pq, hpq⟩ : ∃ z, Hid ((⟨1, 262144, 0, 0, ss⟩ : Sp.Pg) = z) := ⟨_, (rfl : _ = _)⟩
      have c1 : Hid (∀ W, Below wr.heap.size wr W → Calls Tryd.prog 11 #[.agg #[.int .i64 1, .int .i64 262144, .int .i64 0, .int .i64 0, .slice ao m cap]] W fun e w' => e = .returned (.tuple #[.int .i64 (bif decide (F < 0) then A else 0), fev al (decide (F < 0))]) ∧ Below W.heap.size W w') := fun W hW => by
        have := kacts_c ⟨1, 262144, 0, 0, ss⟩ ao m cap al W (hsH.out.below hW) (hm.out.symm.trans hln.out) hmb.out (hOH.out.below ((hCH.out.be.trans (hW.mono hCH.out.be.size)).mono (Nat.le_refl _))) (heH.out.below (hCH.out.be.trans (hW.mono hCH.out.be.size)))
        rw [kap_chk, ← hA.out.1, ← hA.out.2] at this
        exact this
      have c2 : Hid (∀ W, Below wr.heap.size wr W → Calls Tryd.prog 16 #[.agg #[.int .i64 1, .int .i64 262144, .int .i64 0, .int .i64 0, .slice ao m cap]] W fun e w' => e = .returned (.int .i64 F) ∧ Below W.heap.size W w') := fun W hW => by
        have := kfault_c ⟨1, 262144, 0, 0, ss⟩ ao m cap al W (hsH.out.below hW) (hm.out.symm.trans hln.out) hmb.out (hOH.out.below ((hCH.out.be.trans (hW.mono hCH.out.be.size)).mono (Nat.le_refl _))) (heH.out.below (hCH.out.be.trans (hW.mono hCH.out.be.size)))
        rw [show Kc.flt (Sp.Pg.mk 1 262144 0 0 ss).cells 0 0 (Sp.Pg.mk 1 262144 0 0 ss).steps = F from hA.out.2.symm] at this
        exact this
      have c3 : Hid (∀ W, Below wr.heap.size wr W → Calls Tryd.prog 14 #[.agg #[.int .i64 1, .int .i64 262144, .int .i64 0, .int .i64 0, .slice ao m cap]] W fun e w' => e = .returned (fev al (decide (F < 0))) ∧ Below W.heap.size W w') := fun W hW => by
        have := kcheck_c ⟨1, 262144, 0, 0, ss⟩ ao m cap al W (hsH.out.below hW) (hm.out.symm.trans hln.out) hmb.out (hOH.out.below ((hCH.out.be.trans (hW.mono hCH.out.be.size)).mono (Nat.le_refl _))) (heH.out.below (hCH.out.be.trans (hW.mono hCH.out.be.size)))
        rw [kap_chk, ← hA.out.2] at this
        exact this
      have c4 : Hid (∀ W, Below wr.heap.size wr W → Calls Tryd.prog 13 #[fev al false] W fun e w' => e = .returned (.int .i64 9) ∧ Below W.heap.size W w') := fun W hW => num_fe8 al false W (hEH.out.below (hCH.out.be.trans (hW.mono hCH.out.be.size)))
      have bx := hCH.out.y.bx
      have hbe : Hid (Below w.heap.size w wr) := hCH.out.be
      have bxH : Hid (Bpg wr G kap (.slice ao m cap)) := bx
      obtain ⟨p0, p1, p2, p3, p4⟩ := bx
      unfold kap at p0 p1 p2 p3
      rw [show ((n + 1 : Nat) : Int) = (m : Int) by rw [hm.out]] at hlt' ⊢
      have hlt3 : ¬ m ≤ n := by have := hm.out; omega
      clear hC hA hs hss hln hcb hdb hpq hm hlt hlt2 hk
      go_wp2_with fail
      refine (c1.out wr (Below.refl _ _)).mono ?_
      rintro e w2 ⟨rfl, B2⟩
      have B2H : Hid (Below wr.heap.size wr w2) := B2
      clear p0 p1 p2 p3 p4 B2
      have bx := bxH.out.below B2H.out
      obtain ⟨p0, p1, p2, p3, p4⟩ := bx
      unfold kap at p0 p1 p2 p3
      go_wp2_with fail
      refine (c2.out w2 B2H.out).mono ?_
      rintro e w3 ⟨rfl, B3⟩
      have B3H : Hid (Below wr.heap.size wr w3) := B2H.out.trans (B3.mono B2H.out.size)
      clear p0 p1 p2 p3 p4 B3
      have bx := bxH.out.below B3H.out
      obtain ⟨p0, p1, p2, p3, p4⟩ := bx
      unfold kap at p0 p1 p2 p3
      have qF : (F != F) = false := by simp
      by_cases hF : F < 0
      · have hF2 : decide (0 ≤ F) = false := decide_eq_false (by omega)
        rw [decide_eq_true hF] at c3 ⊢
        have e1 : fev al true = .nilIface := rfl
        rw [e1] at c3 ⊢
        rw [cond_true]
        have qA : (A == A) = true := by simp
        go_wp2_with fail
        refine (c3.out w3 B3H.out).mono ?_
        rintro e w4 ⟨rfl, B4⟩
        have B4H : Hid (Below w.heap.size w w4) := hbe.out.trans ((B3H.out.trans (B4.mono B3H.out.size)).mono hbe.out.size)
        clear p0 p1 p2 p3 p4 B4
        go_wp2
        go_ret
        exact ⟨rfl, B4H.out⟩
      · have hF2 : 0 ≤ F := by omega
        rw [decide_eq_false hF] at c3 ⊢
        rw [cond_false]
        clear hF
        go_wp2_with fail
        refine (c3.out w3 B3H.out).mono ?_
        rintro e w4 ⟨rfl, B4⟩
        have B4H : Hid (Below wr.heap.size wr w4) := B3H.out.trans (B4.mono B3H.out.size)
        clear p0 p1 p2 p3 p4 B4
        go_wp2_with fail
        refine (c4.out w4 B4H.out).mono ?_
        rintro e w5 ⟨rfl, B5⟩
        have B5H : Hid (Below wr.heap.size wr w5) := B4H.out.trans (B5.mono B4H.out.size)
        clear B5
        go_wp2_with fail
        refine (c4.out w5 B5H.out).mono ?_
        rintro e w6 ⟨rfl, B6⟩
        have B6H : Hid (Below w.heap.size w w6) := hbe.out.trans ((B5H.out.trans (B6.mono B5H.out.size)).mono hbe.out.size)
        clear B6
        go_wp2
        go_ret
        exact ⟨rfl, B6H.out⟩
end Go.Proofs.YtmnbpmmilfkjiaaDoor
