/-
  The program's Length, Check: a tree measured, part by part.
-/
import Derived.WalkKit
import Ieee.Arith
import Derived.WalkLawsBesides
import Derived.Test.YtoaccmblaifnmaaDoorProg
import Derived.Deep.DeepCutAuto
import Derived.Deep.QuietTactic
import Derived.Laws.Rows
import Derived.Test.YtoaccmblaifnmaaDoorRows
import Derived.LaidEql
import Derived.LaidLaws
import Derived.LaidHandle
import Derived.Stop.Joined
import Derived.Lib.SmallJoins
import Derived.Lib.HexFns
import Derived.Deep.RegionWith
import Derived.Deep.RegionHeld3
import Derived.Test.YtoaccmblaifnmaaDoorBa5
import Derived.Test.YtoaccmblaifnmaaDoorBa6
namespace Go.Proofs.YtoaccmblaifnmaaDoor
open Flo Go.RowKit Tr
theorem gb_tr {a w w' : World} {row : Option Nat} (h : a.grownBy w row) (k : w.grownBy w' row) : a.grownBy w' row :=
  ⟨k.os.trans h.os, k.tape.trans h.tape, k.output.trans h.output, Nat.le_trans h.size k.size, fun i hi hn => (k.block i (Nat.lt_of_lt_of_le hi h.size) hn).trans (h.block i hi hn)⟩
theorem gb_dr {w w' : World} {g : Option Nat} (h : w.grownBy w' g) (k : Nat) : w.grownBy (w'.drewN k) g := ⟨h.os, h.tape, h.output, h.size, h.block⟩
theorem gb_al {w : World} (o : Obj) (row : Option Nat) : w.grownBy (w.alloc o) row := World.grownBy_alloc w o row
theorem gb_bel {B g : Nat} {a w w' : World} (h : Below B a w) (hg : w.grownBy w' (some g)) (hB : B ≤ w.heap.size) (hr : B ≤ g) : Below B a w' := h.grown hg hB (fun k hk => by cases hk; exact hr)
/-- the box of an order stays where another block is written -/
theorem Bx3.kept {w w' : World} {g : Nat} {k n : Int} {s : Value} {h : Nat} (x : Bx3 w g k n s) (hg : w.grownBy w' (some h)) (hne : g ≠ h) : Bx3 w' g k n s :=
  ⟨hg.cell (a := ⟨g, 0, none⟩) x.c0 (fun e => hne (Option.some.inj e)), hg.cell (a := ⟨g, 1, none⟩) x.c1 (fun e => hne (Option.some.inj e)), hg.cell (a := ⟨g, 2, none⟩) x.c2 (fun e => hne (Option.some.inj e)), Nat.lt_of_lt_of_le x.lt hg.size⟩
def ifw (n a b : Int) : Int := if n < a ∨ b < n then 0 else n
theorem ifw_c (n a b : Int) (w : World) : Calls Tryd.prog 82 #[.int .i64 n, .int .i64 a, .int .i64 b] w fun e w' => e = .returned (.int .i64 (ifw n a b)) ∧ w' = w := by
  obtain ⟨R, hR⟩ : ∃ R, Hid (ifw n a b = R) := ⟨_, (rfl : _ = _)⟩
  rw [hR.out]
  go_enter Tryd.func82, Tryd.ntmps82
  by_cases h1 : n < a
  · have e : Hid (0 = R) := by show _ = _; rw [← hR.out]; unfold ifw; rw [if_pos (Or.inl h1)]
    go_wp2_with fail
    go_ret
    exact ⟨by rw [← e.out]; rfl, rfl⟩
  · have h1' : decide (n < a) = false := decide_eq_false h1
    by_cases h2 : n > b
    · have e : Hid (0 = R) := by show _ = _; rw [← hR.out]; unfold ifw; rw [if_pos (Or.inr h2)]
      go_wp2_with fail
      go_ret
      exact ⟨by rw [← e.out]; rfl, rfl⟩
    · have h2' : decide (n > b) = false := decide_eq_false h2
      have e : Hid (n = R) := by show _ = _; rw [← hR.out]; unfold ifw; rw [if_neg (by omega)]
      go_wp2_with fail
      go_ret
      exact ⟨by rw [← e.out]; rfl, rfl⟩
theorem tms_pos {a b : Nat} (h : 0 < tms [a, b]) : 2 ≤ a ∧ 2 ≤ b := by
  have h' : 0 < (if 2 ≤ a ∧ 2 ≤ b ∧ a ≤ 16384 / b then a * b else 0) := h
  by_cases hc : 2 ≤ a ∧ 2 ≤ b ∧ a ≤ 16384 / b
  · exact ⟨hc.1, hc.2.1⟩
  · rw [if_neg hc] at h'; omega
/-- a meter in memory -/
structure Mt (w : World) (g p : Nat) : Prop where
  b : w.heap[g]? = some (.cells #[.int .i64 (p : Int)] 88 (0, 0))
theorem Mt.c {w : World} {g p : Nat} (h : Mt w g p) : w.cell? ⟨g, 0, none⟩ = some (.int .i64 (p : Int)) := by rw [Joins.cell_of_block h.b]; rfl
theorem Mt.fz {w : World} {g p : Nat} (h : Mt w g p) : w.frozen? ⟨g, 0, none⟩ = false := Joins.unfrozen_of_block h.b 0
theorem Mt.lt {w : World} {g p : Nat} (h : Mt w g p) : g < w.heap.size := (Array.getElem?_eq_some_iff.1 h.b).1
theorem Mt.set {w : World} {g p : Nat} (h : Mt w g p) (q : Nat) : Mt (w.setCell ⟨g, 0, none⟩ (.int .i64 (q : Int))) g q := ⟨by rw [Joins.block_setCell h.b]; rfl⟩
theorem Mt.al {w : World} {g p : Nat} (h : Mt w g p) (o : Obj) : Mt (w.alloc o) g p := ⟨((gb_al o none).block g h.lt (by simp)).trans h.b⟩
theorem Mt.dr {w : World} {g p : Nat} (h : Mt w g p) (k : Nat) : Mt (w.drewN k) g p := ⟨h.b⟩
/-- what is told of a part at a level, where so many parts were met -/
def MR (P D L : Nat) (p lev r p' : Nat) : Prop :=
  p' ≤ 4097 ∧ r ≤ 16384 ∧ (0 < r → p' = p + P ∧ p' ≤ 4096 ∧ lev + D ≤ 17 ∧ r = L) ∧ (r = 0 → ¬ (p + P ≤ 4096 ∧ lev + D ≤ 17 ∧ 0 < L))
def ME (g P D L p lev : Nat) (w : World) (e : Ending) (w' : World) : Prop := ∃ r p', MR P D L p lev r p' ∧ e = .returned (.int .i64 (r : Int)) ∧ Mt w' g p' ∧ w.grownBy w' (some g)
def MC (w0 : World) (t : Tr) : Prop := ∀ (v : Value) (w : World) (g p lev : Nat), Od w0 t v → Below w0.heap.size w0 w → w0.heap.size ≤ g → Mt w g p → p ≤ 4096 → 1 ≤ lev → lev ≤ 17 →
  Calls Tryd.prog 53 #[.pointer (some ⟨g, 0, none⟩), v, .int .i64 (lev : Int)] w (ME g (pt t) (dp t) (ln t) p lev w)
set_option maxHeartbeats 1000000 in
theorem mprod_c (w0 : World) (x y : Tr) (hx : MC w0 x) (hy : MC w0 y) (v u : Value) (w : World) (g p lev : Nat) (ox : Od w0 x v) (oy : Od w0 y u) (hb : Below w0.heap.size w0 w) (hg : w0.heap.size ≤ g) (hm : Mt w g p) (hp : p ≤ 4096) (h1 : 1 ≤ lev) (h2 : lev ≤ 17) :
    Calls Tryd.prog 83 #[.pointer (some ⟨g, 0, none⟩), v, u, .int .i64 (lev : Int)] w (ME g (pt x + pt y) (max (dp x) (dp y)) (tms [ln x, ln y]) p lev w) := by
  have hxH : Hid (MC w0 x) := hx
  have hyH : Hid (MC w0 y) := hy
  have oxH : Hid (Od w0 x v) := ox
  have oyH : Hid (Od w0 y u) := oy
  obtain ⟨xk, xn, xs⟩ := x
  obtain ⟨yk, yn, ys⟩ := y
  obtain ⟨xa, xc, rfl, _, _⟩ := ox.kds
  obtain ⟨ya, yc, rfl, _, _⟩ := oy.kds
  obtain ⟨x, hx'⟩ : ∃ x, Hid (Tr.mk xk xn xs = x) := ⟨_, (rfl : _ = _)⟩
  obtain ⟨y, hy'⟩ : ∃ y, Hid (Tr.mk yk yn ys = y) := ⟨_, (rfl : _ = _)⟩
  rw [hx'.out] at hxH oxH ⊢
  rw [hy'.out] at hyH oyH ⊢
  generalize xs.length = lx at *
  generalize ys.length = ly at *
  clear hx hy ox oy hx' hy'
  have hbH : Hid (Below w0.heap.size w0 w) := hb
  have hmH : Hid (Mt w g p) := hm
  obtain ⟨wa, ewa⟩ : ∃ wa, Hid (w.alloc (.cells #[.int .i64 xk, .int .i64 xn, .slice xa lx xc] 24) = wa) := ⟨_, (rfl : _ = _)⟩
  obtain ⟨wb, ewb⟩ : ∃ wb, Hid (wa.alloc (.cells #[.int .i64 yk, .int .i64 yn, .slice ya ly yc] 24) = wb) := ⟨_, (rfl : _ = _)⟩
  have G1 : Hid (w.grownBy wb (some g)) := by show World.grownBy _ _ _; rw [← ewb.out, ← ewa.out]; exact gb_tr (gb_al _ _) (gb_al _ _)
  have X1 : Hid (Bx3 wb w.heap.size xk xn (.slice xa lx xc)) := by show Bx3 _ _ _ _ _; rw [← ewb.out, ← ewa.out]; exact (Bx3.new w xk xn (.slice xa lx xc) _).below ((Below.refl _ _).alloc (Nat.le_refl _) _)
  have X2 : Hid (Bx3 wb wa.heap.size yk yn (.slice ya ly yc)) := by show Bx3 _ _ _ _ _; rw [← ewb.out]; exact Bx3.new _ _ _ _ _
  have M1 : Hid (Mt wb g p) := by show Mt _ _ _; rw [← ewb.out, ← ewa.out]; exact (hm.al _).al _
  have hga : g < w.heap.size := hm.lt
  have hwa : w.heap.size + 1 = wa.heap.size := by rw [← ewa.out]; simp
  have hBs : w0.heap.size ≤ w.heap.size := hb.size
  have B1 : Hid (Below w0.heap.size w0 wb) := gb_bel hb G1.out hBs hg
  clear hb hm
  go_enter Tryd.func83, Tryd.ntmps83
  go_upto_region 1 with fail
  rw [ewa.out, ewb.out]
  have c0 := X1.out.c0
  have c1 := X1.out.c1
  have c2 := X1.out.c2
  obtain ⟨gx, hgx⟩ : ∃ gx, Hid (w.heap.size = gx) := ⟨_, (rfl : _ = _)⟩
  obtain ⟨gy, hgy⟩ : ∃ gy, Hid (wa.heap.size = gy) := ⟨_, (rfl : _ = _)⟩
  have hne2 : Hid (gy ≠ g) := by show _ ≠ _; rw [← hgy.out]; omega
  rw [hgx.out] at c0 c1 c2 X1 ⊢
  rw [hgy.out] at X2 ⊢
  clear hwa hga
  go_wp2_with fail
  refine (hxH.out _ _ g p lev oxH.out B1.out hg M1.out hp h1 h2).mono ?_
  rintro e w1 ⟨r, q, hr, rfl, M2, G2⟩
  have hM2 : Hid (Mt w1 g q) := M2
  have hG : Hid (w.grownBy w1 (some g)) := gb_tr G1.out G2
  have X2' : Hid (Bx3 w1 gy yk yn (.slice ya ly yc)) := X2.out.kept G2 hne2.out
  have B2 : Hid (Below w0.heap.size w0 w1) := gb_bel B1.out G2 B1.out.size hg
  have hrH : Hid (MR (pt x) (dp x) (ln x) p lev r q) := hr
  have hr1 := hr.2.1
  clear c0 c1 c2 M2 G2 hr
  have hld : max (dp x) (dp y) = dp x ∨ max (dp x) (dp y) = dp y := by omega
  by_cases q1 : (r : Int) < 2
  · have hfin : Hid (ME g (pt x + pt y) (max (dp x) (dp y)) (tms [ln x, ln y]) p lev w (.returned (.int .i64 0)) w1) := by
      refine ⟨0, q, ⟨hrH.out.1, by omega, fun h => by omega, fun _ h => ?_⟩, rfl, hM2.out, hG.out⟩
      obtain ⟨a1, a2, a3⟩ := h
      have a4 := tms_pos a3
      by_cases hr0 : r = 0
      · exact hrH.out.2.2.2 hr0 ⟨by omega, by omega, by omega⟩
      · have := (hrH.out.2.2.1 (by omega)).2.2.2
        omega
    clear hld
    go_wp2_with fail
    go_ret
    exact hfin.out
  · have q1' : decide ((r : Int) < 2) = false := decide_eq_false q1
    obtain ⟨t1, t2, t3, t4⟩ := hrH.out.2.2.1 (by omega)
    have hq : q ≤ 4096 := t2
    have T : Hid (q = p + pt x ∧ lev + dp x ≤ 17 ∧ r = ln x) := ⟨t1, t3, t4⟩
    clear t1 t2 t3 t4 hrH
    have d0 := X2'.out.c0
    have d1 := X2'.out.c1
    have d2 := X2'.out.c2
    clear hld
    go_wp2_with fail
    refine (hyH.out _ _ g q lev oyH.out B2.out hg hM2.out hq h1 h2).mono ?_
    rintro e w2 ⟨s, q2, hs, rfl, M3, G3⟩
    have hM3 : Hid (Mt w2 g q2) := M3
    have hG3 : Hid (w.grownBy w2 (some g)) := gb_tr hG.out G3
    have hsH : Hid (MR (pt y) (dp y) (ln y) q lev s q2) := hs
    have hs1 := hs.2.1
    clear d0 d1 d2 M3 G3 hs
    by_cases q2' : (s : Int) < 2
    · have hfin : Hid (ME g (pt x + pt y) (max (dp x) (dp y)) (tms [ln x, ln y]) p lev w (.returned (.int .i64 0)) w2) := by
        refine ⟨0, q2, ⟨hsH.out.1, by omega, fun h => by omega, fun _ h => ?_⟩, rfl, hM3.out, hG3.out⟩
        obtain ⟨a1, a2, a3⟩ := h
        obtain ⟨t1, t3, t4⟩ := T.out
        have a4 := tms_pos a3
        by_cases hr0 : s = 0
        · exact hsH.out.2.2.2 hr0 ⟨by omega, by omega, by omega⟩
        · have := (hsH.out.2.2.1 (by omega)).2.2.2
          omega
      go_wp2_with fail
      go_ret
      exact hfin.out
    · have q2'' : decide ((s : Int) < 2) = false := decide_eq_false q2'
      obtain ⟨t1, t2, t3, t4⟩ := hsH.out.2.2.1 (by omega)
      obtain ⟨M, hM, hM1⟩ : ∃ M : Nat, Hid (M = r * s) ∧ (r : Int) * (s : Int) = (M : Int) := ⟨r * s, (rfl : _ = _), by rw [Int.natCast_mul]⟩
      have hMb : M ≤ 268435456 := by rw [hM.out]; exact Nat.mul_le_mul hr1 hs1
      have hfin : Hid (ME g (pt x + pt y) (max (dp x) (dp y)) (tms [ln x, ln y]) p lev w (.returned (.int .i64 (ifw (M : Int) 4 16384))) w2) := by
        obtain ⟨u1, u3, u4⟩ := T.out
        have h4 : 4 ≤ M := by rw [hM.out]; exact Nat.mul_le_mul (show 2 ≤ r by omega) (show 2 ≤ s by omega)
        have hdiv : r ≤ 16384 / s ↔ r * s ≤ 16384 := Nat.le_div_iff_mul_le (by omega)
        have et : tms [ln x, ln y] = if M ≤ 16384 then M else 0 := by
          show (if 2 ≤ ln x ∧ 2 ≤ ln y ∧ ln x ≤ 16384 / ln y then ln x * ln y else 0) = _
          rw [← u4, ← t4, hM.out]
          by_cases hc : r * s ≤ 16384
          · rw [if_pos ⟨by omega, by omega, hdiv.2 hc⟩, if_pos hc]
          · rw [if_neg (fun h => hc (hdiv.1 h.2.2)), if_neg hc]
        rw [et]
        by_cases hc : M ≤ 16384
        · rw [if_pos hc]
          refine ⟨M, q2, ⟨by omega, hc, fun _ => ⟨by omega, t2, by omega, rfl⟩, fun h => by omega⟩, ?_, hM3.out, hG3.out⟩
          unfold ifw; rw [if_neg (by omega)]
        · rw [if_neg hc]
          refine ⟨0, q2, ⟨by omega, by omega, fun h => by omega, fun _ h => by omega⟩, ?_, hM3.out, hG3.out⟩
          unfold ifw; rw [if_pos (by omega)]; rfl
      have hw : Hid (∀ w, Calls Tryd.prog 82 #[.int .i64 (M : Int), .int .i64 4, .int .i64 16384] w fun e w' => e = .returned (.int .i64 (ifw (M : Int) 4 16384)) ∧ w' = w) := fun w => ifw_c _ _ _ w
      generalize ifw (M : Int) 4 16384 = Z at *
      clear t1 t2 t3 t4 T hM
      go_wp2_with fail
      refine (hw.out _).mono ?_
      rintro e w3 ⟨rfl, rfl⟩
      go_wp2_with fail
      go_ret
      exact hfin.out
theorem mr_zero {P D L p lev q : Nat} (h1 : q ≤ 4097) (h : ¬ (p + P ≤ 4096 ∧ lev + D ≤ 17 ∧ 0 < L)) : MR P D L p lev 0 q := ⟨h1, by omega, fun h => by omega, fun _ => h⟩
theorem mr_pos {P D L p lev r q : Nat} (h0 : 0 < r) (h1 : q = p + P) (h2 : q ≤ 4096) (h3 : lev + D ≤ 17) (h4 : r = L) (h5 : r ≤ 16384) : MR P D L p lev r q := ⟨by omega, h5, fun _ => ⟨h1, h2, h3, h4⟩, fun h => by omega⟩
theorem ln_leaf {k n : Int} {ks : List Tr} (hk : k = 1 ∨ k = 2) (h : ks.length ≠ 0) : ln ⟨k, n, ks⟩ = 0 := by
  have e : ks.map ln ≠ [] := fun e => h (by rw [← List.length_map (f := ln), e]; rfl)
  rw [ln_eq]; unfold lnc
  rcases hk with rfl | rfl
  · rw [if_pos rfl, if_neg (fun h => e h.2.2)]
  · rw [if_neg (by decide), if_pos rfl, if_neg (fun h => e h.2.2)]
theorem pt_nil (k n : Int) : pt ⟨k, n, []⟩ = 1 := by rw [pt_eq]; rfl
theorem dp_nil (k n : Int) : dp ⟨k, n, []⟩ = 1 := by rw [dp_eq]; rfl
theorem pt_one (k n : Int) (x : Tr) : pt ⟨k, n, [x]⟩ = 1 + pt x := by rw [pt_eq]; simp
theorem dp_one (k n : Int) (x : Tr) : dp ⟨k, n, [x]⟩ = 1 + dp x := by rw [dp_eq]; simp
theorem pt_two (k n : Int) (x y : Tr) : pt ⟨k, n, [x, y]⟩ = 1 + (pt x + pt y) := by rw [pt_eq]; simp
theorem dp_two (k n : Int) (x y : Tr) : dp ⟨k, n, [x, y]⟩ = 1 + max (dp x) (dp y) := by rw [dp_eq]; simp
theorem ln_not {k n : Int} {ks : List Tr} (h : ¬ (k = 1 ∧ ks.length = 0)) (h2 : ¬ (k = 2 ∧ ks.length = 0)) (h3 : ¬ (k = 3 ∧ ks.length = 2 ∧ n = 0)) (h4 : ¬ (k = 4 ∧ ks.length = 1)) : ln ⟨k, n, ks⟩ = 0 := by
  by_cases k1 : k = 1
  · exact ln_leaf (Or.inl k1) (fun e => h ⟨k1, e⟩)
  by_cases k2 : k = 2
  · exact ln_leaf (Or.inr k2) (fun e => h2 ⟨k2, e⟩)
  rw [ln_eq]; unfold lnc
  rw [if_neg k1, if_neg k2]
  by_cases k3 : k = 3
  · rw [if_pos k3]
    by_cases hn : n = 0
    · rw [if_pos hn, tms_ne (by rw [List.length_map]; exact fun e => h3 ⟨k3, e, hn⟩)]
    · rw [if_neg hn]
  · rw [if_neg k3]
    by_cases k4 : k = 4
    · rw [if_pos k4, blu_ne (by rw [List.length_map]; exact fun e => h4 ⟨k4, e⟩)]
      split <;> rfl
    · rw [if_neg k4]
theorem ifw_leaf (n : Int) (a b : Nat) (ha : 1 ≤ a) : (0 ≤ ifw n a b) ∧ (ifw n a b).toNat ≤ b ∧ (ifw n a b).toNat = (if (a : Int) ≤ n ∧ n ≤ b then n.toNat else 0) := by
  unfold ifw
  by_cases h : n < a ∨ (b : Int) < n
  · rw [if_pos h, if_neg (by omega)]; simp
  · rw [if_neg h, if_pos (by omega)]; omega
theorem me_leaf {k n : Int} {p lev q g : Nat} {w w' : World} (hk : k = 1 ∨ k = 2) (hq : q = p + 1) (hp : q ≤ 4096) (hl : lev ≤ 16) (hM : Mt w' g q) (hG : w.grownBy w' (some g)) :
    ME g (pt ⟨k, n, []⟩) (dp ⟨k, n, []⟩) (ln ⟨k, n, []⟩) p lev w (.returned (.int .i64 (ifw n (if k = 1 then 1 else 2) (if k = 1 then 64 else 5)))) w' := by
  have hb : ∃ a b : Nat, 1 ≤ a ∧ b ≤ 64 ∧ ((if k = 1 then 1 else 2 : Int) = (a : Int)) ∧ ((if k = 1 then 64 else 5 : Int) = (b : Int)) ∧ ln ⟨k, n, []⟩ = (if (a : Int) ≤ n ∧ n ≤ b then n.toNat else 0) := by
    rcases hk with rfl | rfl
    · refine ⟨1, 64, by decide, by decide, rfl, rfl, ?_⟩
      rw [ln_eq]; unfold lnc
      rw [if_pos rfl]; simp
    · refine ⟨2, 5, by decide, by decide, rfl, rfl, ?_⟩
      rw [ln_eq]; unfold lnc
      rw [if_neg (by decide), if_pos rfl]; simp
  obtain ⟨a, b, h1, h2, e1, e2, e3⟩ := hb
  rw [e1, e2]
  obtain ⟨f1, f2, f3⟩ := ifw_leaf n a b h1
  refine ⟨(ifw n a b).toNat, q, ?_, by rw [Int.toNat_of_nonneg f1], hM, hG⟩
  rw [pt_nil, dp_nil, e3, ← f3]
  by_cases h0 : 0 < (ifw n a b).toNat
  · exact mr_pos h0 hq hp (by omega) rfl (by omega)
  · have : (ifw n a b).toNat = 0 := by omega
    rw [this]; exact mr_zero (by omega) (by omega)
set_option maxRecDepth 100000 in
set_option maxHeartbeats 2000000 in
theorem mlen_c (w0 : World) (t : Tr) : MC w0 t := by
  refine Tr.ind (P := fun t => MC w0 t) (fun k n ks ih0 v w g p lev ho hb hg hm hp hl1 hl2 => ?_) t
  obtain ⟨ao, cap, rfl, hl0, hk0⟩ := ho.kds
  have hfit := ho.fits
  obtain ⟨L, hL⟩ : ∃ L, Hid (ks.length = L) := ⟨_, (rfl : _ = _)⟩
  have hk : Hid (Kds w0 ao L ks) := by show Kds _ _ _ _; rw [← hL.out]; exact hk0
  have hl : L ≤ 9223372036854775807 := by rw [← hL.out]; exact hl0
  have ih : Hid (∀ t ∈ ks, MC w0 t) := ih0
  have hbH : Hid (Below w0.heap.size w0 w) := hb
  have hBs : w0.heap.size ≤ w.heap.size := hb.size
  obtain ⟨P, hP⟩ : ∃ P, Hid (pt ⟨k, n, ks⟩ = P) := ⟨_, (rfl : _ = _)⟩
  obtain ⟨D, hD⟩ : ∃ D, Hid (dp ⟨k, n, ks⟩ = D) := ⟨_, (rfl : _ = _)⟩
  obtain ⟨R, hR⟩ : ∃ R, Hid (ln ⟨k, n, ks⟩ = R) := ⟨_, (rfl : _ = _)⟩
  have hP1 : Hid (1 ≤ P) := by show _ ≤ _; rw [← hP.out]; exact pt_pos _
  have hD1 : Hid (1 ≤ D) := by show _ ≤ _; rw [← hD.out]; exact dp_pos _
  rw [hL.out]
  rw [hP.out, hD.out, hR.out]
  clear hk0 hl0 ih0 ho hb
  obtain ⟨wa, ewa⟩ : ∃ wa, Hid (w.alloc (.cells #[.int .i64 k, .int .i64 n, .slice ao L cap] 24) = wa) := ⟨_, (rfl : _ = _)⟩
  have Ga : Hid (w.grownBy wa (some g)) := by show World.grownBy _ _ _; rw [← ewa.out]; exact gb_al _ _
  have Xa : Hid (Bx3 wa w.heap.size k n (.slice ao L cap)) := by show Bx3 _ _ _ _ _; rw [← ewa.out]; exact Bx3.new _ _ _ _ _
  have Ma : Hid (Mt wa g p) := by show Mt _ _ _; rw [← ewa.out]; exact hm.al _
  have hgw : g < w.heap.size := hm.lt
  have Ba : Hid (Below w0.heap.size w0 wa) := gb_bel hbH.out Ga.out hBs hg
  clear hm
  go_enter Tryd.func53, Tryd.ntmps53
  go_upto_region 1 with fail
  rw [ewa.out]
  obtain ⟨gx, hgx⟩ : ∃ gx, Hid (w.heap.size = gx) := ⟨_, (rfl : _ = _)⟩
  have hne : Hid (gx ≠ g) := by show _ ≠ _; rw [← hgx.out]; omega
  rw [hgx.out] at Xa ⊢
  clear hgw
  have m0 := Ma.out.c
  have m1 := Ma.out.fz
  obtain ⟨q, hq, hq1⟩ : ∃ q : Nat, Hid (q = p + 1) ∧ (p : Int) + 1 = (q : Int) := ⟨p + 1, (rfl : _ = _), by omega⟩
  have hqb : q ≤ 4097 := by rw [hq.out]; omega
  go_upto_region 2 with fail
  obtain ⟨wb, ewb⟩ : ∃ wb, Hid (wa.setCell ⟨g, 0, none⟩ (.int .i64 (q : Int)) = wb) := ⟨_, (rfl : _ = _)⟩
  have hGb : wa.grownBy wb (some g) := by rw [← ewb.out]; exact Lib.Hx.grownBy_set (Lib.Hx.grownBy_refl _ _) _ rfl _
  have Gb : Hid (w.grownBy wb (some g)) := gb_tr Ga.out hGb
  have Xb : Hid (Bx3 wb gx k n (.slice ao L cap)) := Xa.out.kept hGb hne.out
  have Mb : Hid (Mt wb g q) := by show Mt _ _ _; rw [← ewb.out]; exact Ma.out.set q
  have Bb : Hid (Below w0.heap.size w0 wb) := gb_bel Ba.out hGb Ba.out.size hg
  rw [ewb.out]
  clear hGb m0 m1 hq1 Xa Ma Ba Ga
  have m0 := Mb.out.c
  by_cases t1 : (q : Int) > 4096
  · have hfin : Hid (ME g P D R p lev w (.returned (.int .i64 0)) wb) := ⟨0, q, mr_zero (by omega) (by have h1 := hq.out; have h2 := hP1.out; omega), rfl, Mb.out, Gb.out⟩
    go_wp2_with fail
    go_ret
    exact hfin.out
  have t1' : decide ((q : Int) > 4096) = false := decide_eq_false t1
  by_cases t2 : (lev : Int) > 16
  · have hfin : Hid (ME g P D R p lev w (.returned (.int .i64 0)) wb) := ⟨0, q, mr_zero (by omega) (by have h2 := hD1.out; omega), rfl, Mb.out, Gb.out⟩
    go_wp2_with fail
    go_ret
    exact hfin.out
  have t2' : decide ((lev : Int) > 16) = false := decide_eq_false t2
  have c0 := Xb.out.c0
  have c1 := Xb.out.c1
  have c2 := Xb.out.c2
  go_upto_region 4 with fail
  have hzero : Hid (R = 0 → ME g P D R p lev w (.returned (.int .i64 0)) wb) := fun h => ⟨0, q, mr_zero (by omega) (by omega), rfl, Mb.out, Gb.out⟩
  have hwi : Hid (∀ (a b : Int) w, Calls Tryd.prog 82 #[.int .i64 n, .int .i64 a, .int .i64 b] w fun e w' => e = .returned (.int .i64 (ifw n a b)) ∧ w' = w) := fun a b w => ifw_c _ _ _ w
  by_cases k1 : k = 1
  · have q1 : (k == 1) = true := by rw [k1]; rfl
    have r2 : (k == 2) = false := beq_eq_false_iff_ne.2 (by omega)
    have r3 : (k == 3) = false := beq_eq_false_iff_ne.2 (by omega)
    have r4 : (k == 4) = false := beq_eq_false_iff_ne.2 (by omega)
    by_cases h3 : L = 0
    · have q3 : ((L : Int) == 0) = true := by rw [h3]; rfl
      have hfin : Hid (ME g P D R p lev w (.returned (.int .i64 (ifw n 1 64))) wb) := by
        have e := len0 (hL.out.trans h3)
        show ME _ _ _ _ _ _ _ _ _
        rw [← hP.out, ← hD.out, ← hR.out, e]
        have := me_leaf (k := k) (n := n) (p := p) (lev := lev) (q := q) (g := g) (w := w) (w' := wb) (Or.inl k1) hq.out (by omega) (by omega) Mb.out Gb.out
        rw [if_pos k1, if_pos k1] at this; exact this
      clear k1 h3
      go_wp2_with fail
      refine (hwi.out 1 64 _).mono ?_
      rintro e w3 ⟨rfl, rfl⟩
      generalize ifw n 1 64 = Z at *
      go_wp2_with fail
      go_ret
      exact hfin.out
    · have q3 : ((L : Int) == 0) = false := beq_eq_false_iff_ne.2 (by omega)
      have hfin : Hid (ME g P D R p lev w (.returned (.int .i64 0)) wb) := hzero.out (by rw [← hR.out]; exact ln_leaf (Or.inl k1) (by rw [hL.out]; exact h3))
      clear k1 h3
      go_wp2_with fail
      go_ret
      exact hfin.out
  have r1 : (k == 1) = false := beq_eq_false_iff_ne.2 k1
  by_cases k2 : k = 2
  · have q1 : (k == 2) = true := by rw [k2]; rfl
    have r3 : (k == 3) = false := beq_eq_false_iff_ne.2 (by omega)
    have r4 : (k == 4) = false := beq_eq_false_iff_ne.2 (by omega)
    by_cases h3 : L = 0
    · have q3 : ((L : Int) == 0) = true := by rw [h3]; rfl
      have hfin : Hid (ME g P D R p lev w (.returned (.int .i64 (ifw n 2 5))) wb) := by
        have e := len0 (hL.out.trans h3)
        show ME _ _ _ _ _ _ _ _ _
        rw [← hP.out, ← hD.out, ← hR.out, e]
        have := me_leaf (k := k) (n := n) (p := p) (lev := lev) (q := q) (g := g) (w := w) (w' := wb) (Or.inr k2) hq.out (by omega) (by omega) Mb.out Gb.out
        rw [if_neg k1, if_neg k1] at this; exact this
      clear k1 k2 h3
      go_wp2_with fail
      refine (hwi.out 2 5 _).mono ?_
      rintro e w3 ⟨rfl, rfl⟩
      generalize ifw n 2 5 = Z at *
      go_wp2_with fail
      go_ret
      exact hfin.out
    · have q3 : ((L : Int) == 0) = false := beq_eq_false_iff_ne.2 (by omega)
      have hfin : Hid (ME g P D R p lev w (.returned (.int .i64 0)) wb) := hzero.out (by rw [← hR.out]; exact ln_leaf (Or.inr k2) (by rw [hL.out]; exact h3))
      clear k1 k2 h3
      go_wp2_with fail
      go_ret
      exact hfin.out
  have r2 : (k == 2) = false := beq_eq_false_iff_ne.2 k2
  by_cases k3 : k = 3 ∧ L = 2 ∧ n = 0
  · obtain ⟨k3, h2, h0⟩ := k3
    have q1 : (k == 3) = true := by rw [k3]; rfl
    have q2 : ((L : Int) == 2) = true := by rw [h2]; rfl
    have q3 : (n == 0) = true := by rw [h0]; rfl
    obtain ⟨x, y, hxy⟩ := len2 (hL.out.trans h2)
    obtain ⟨b0, off0, s0, x', ex, K0⟩ := hk.out 0 (by omega)
    obtain ⟨b1, off1, s1, y', ey, K1⟩ := hk.out 1 (by omega)
    have e0 := K0.at0
    have e1 := K1.at0
    rw [hxy] at ex ey
    obtain rfl : x = x' := by simpa using ex
    obtain rfl : y = y' := by simpa using ey
    obtain rfl := e0
    obtain ⟨rfl, rfl⟩ : b0 = b1 ∧ off0 = off1 := by simpa using e1
    clear e1 ex ey
    have L0 := K0.below Bb.out
    have L1 := K1.below Bb.out
    obtain ⟨a0, l0, p0, rfl⟩ := L0.slc
    obtain ⟨a1, l1, p1, rfl⟩ := L1.slc
    have d0 := L0.c0
    have d1 := L0.c1
    have d2 := L0.c2
    rw [Nat.zero_mul, Nat.add_zero] at d0 d1 d2
    have f0 := L1.c0
    have f1 := L1.c1
    have f2 := L1.c2
    rw [Nat.one_mul] at f0 f1 f2
    obtain ⟨lev1, hlev, hlev1⟩ : ∃ j : Nat, Hid (j = lev + 1) ∧ (lev : Int) + 1 = (j : Int) := ⟨lev + 1, (rfl : _ = _), by omega⟩
    have hprH : Hid (Calls Tryd.prog 83 #[.pointer (some ⟨g, 0, none⟩), .agg #[.int .i64 x.k, .int .i64 x.n, .slice a0 l0 p0], .agg #[.int .i64 y.k, .int .i64 y.n, .slice a1 l1 p1], .int .i64 (lev1 : Int)] wb.drew (fun e w' => ME g P D R p lev w e w' ∧ ∃ z, e = .returned (.int .i64 z))) := by
      refine (mprod_c w0 x y (ih.out x (by rw [hxy]; simp)) (ih.out y (by rw [hxy]; simp)) _ _ wb.drew g q lev1 K0.od K1.od (below_drewN Bb.out 1) hg (Mb.out.dr 1) (by omega) (by have := hlev.out; omega) (by have := hlev.out; omega)).mono ?_
      rintro e w' ⟨r, q', hr, rfl, hM, hG⟩
      refine ⟨⟨r, q', ?_, rfl, hM, gb_tr (gb_dr Gb.out 1) hG⟩, _, rfl⟩
      have e1 : P = 1 + (pt x + pt y) := by rw [← hP.out, hxy, pt_two]
      have e2 : D = 1 + max (dp x) (dp y) := by rw [← hD.out, hxy, dp_two]
      have e3 : R = tms [ln x, ln y] := by rw [← hR.out, hxy, ln_eq]; unfold lnc; rw [if_neg k1, if_neg k2, if_pos k3, if_pos h0]; rfl
      have h5 := hlev.out
      have h6 := hq.out
      rw [e1, e2, e3]
      generalize tms [ln x, ln y] = T at *
      generalize max (dp x) (dp y) = M at *
      obtain ⟨j1, j2, j3, j4⟩ := hr
      exact ⟨j1, j2, fun h => by have := j3 h; omega, fun h hh => j4 h (by omega)⟩
    have hL2 : (1 : Int) < (L : Int) := by omega
    have hL3 : (0 : Int) < (L : Int) := by omega
    have hL4 : 1 < L := by omega
    generalize x.k = xk at *
    generalize x.n = xn at *
    generalize y.k = yk at *
    generalize y.n = yn at *
    clear K0 K1 L0 L1 hxy k1 k2 k3 h0 h2 hzero hwi
    go_upto_region 9 with fail
    go_region_with (go_at_call 83; refine hprH.out.mono ?_; rintro e w2 ⟨hfin, z, rfl⟩)
    all_goals (go_wp2_with fail)
    all_goals (go_ret; exact hfin)
  have k3' : Hid (¬ (k = 3 ∧ L = 2 ∧ n = 0)) := k3
  by_cases k4 : k = 4 ∧ L = 1
  · obtain ⟨k4, h2⟩ := k4
    have r3 : (k == 3) = false := beq_eq_false_iff_ne.2 (by omega)
    have q1 : (k == 4) = true := by rw [k4]; rfl
    have q2 : ((L : Int) == 1) = true := by rw [h2]; rfl
    obtain ⟨x, hx⟩ := len1 (hL.out.trans h2)
    obtain ⟨b0, off0, s0, x', ex, K0⟩ := hk.out 0 (by omega)
    have e0 := K0.at0
    rw [hx] at ex
    obtain rfl : x = x' := by simpa using ex
    obtain rfl := e0
    clear ex
    have L0 := K0.below Bb.out
    obtain ⟨a0, l0, p0, rfl⟩ := L0.slc
    have d0 := L0.c0
    have d1 := L0.c1
    have d2 := L0.c2
    rw [Nat.zero_mul, Nat.add_zero] at d0 d1 d2
    obtain ⟨lev1, hlev, hlev1⟩ : ∃ j : Nat, Hid (j = lev + 1) ∧ (lev : Int) + 1 = (j : Int) := ⟨lev + 1, (rfl : _ = _), by omega⟩
    have hprH : Hid (Calls Tryd.prog 53 #[.pointer (some ⟨g, 0, none⟩), .agg #[.int .i64 x.k, .int .i64 x.n, .slice a0 l0 p0], .int .i64 (lev1 : Int)] wb (ME g (pt x) (dp x) (ln x) q lev1 wb)) := (ih.out x (by rw [hx]; simp)) _ wb g q lev1 K0.od Bb.out hg Mb.out (by omega) (by have := hlev.out; omega) (by have := hlev.out; omega)
    have hL3 : (0 : Int) < (L : Int) := by omega
    have hL4 : 0 < L := by omega
    have e1 : Hid (P = 1 + pt x) := by show _ = _; rw [← hP.out, hx, pt_one]
    have e2 : Hid (D = 1 + dp x) := by show _ = _; rw [← hD.out, hx, dp_one]
    have e3 : Hid (R = if 2 ≤ n ∧ n ≤ 8192 then (if 2 * n - 1 ≤ (ln x : Int) then n.toNat else 0) else 0) := by show _ = _; rw [← hR.out, hx, ln_eq]; unfold lnc; rw [if_neg k1, if_neg k2, if_neg (by omega), if_pos k4]; rfl
    generalize x.k = xk at *
    generalize x.n = xn at *
    clear K0 L0 hx k1 k2 k4 h2 hzero k3
    go_wp2_with fail
    refine hprH.out.mono ?_
    rintro e w1 ⟨r, q', hr, rfl, hM, hG⟩
    have hrb := hr.2.1
    obtain ⟨r1', hr1, hr1'⟩ : ∃ j : Nat, Hid (j = r + 1) ∧ (r : Int) + 1 = (j : Int) := ⟨r + 1, (rfl : _ = _), by omega⟩
    obtain ⟨h', hh, hh'⟩ : ∃ j : Nat, Hid (j = r1' / 2) ∧ (r1' : Int).tdiv 2 = (j : Int) := ⟨r1' / 2, (rfl : _ = _), by rw [Int.tdiv_eq_ediv_of_nonneg (by omega)]; exact (Int.natCast_ediv r1' 2).symm⟩
    have hrb' : r1' ≤ 16385 := by rw [hr1.out]; omega
    have hhb : h' ≤ 8192 := by have := hh.out; omega
    have X1 := Xb.out.kept hG hne.out
    have f1 := X1.c1
    have hfin : Hid (ME g P D R p lev w (.returned (.int .i64 (ifw n 2 (h' : Int)))) w1) := by
      have j5 := hlev.out
      have j6 := hq.out
      have j7 := hr1.out
      have j8 := hh.out
      have j9 := e1.out
      have j10 := e2.out
      have j11 := e3.out
      obtain ⟨j1, j2, j3, j4⟩ := hr
      refine ⟨(ifw n 2 (h' : Int)).toNat, q', ?_, ?_, hM, gb_tr Gb.out hG⟩
      · unfold ifw
        by_cases hc : n < 2 ∨ (h' : Int) < n
        · rw [if_pos hc]
          refine mr_zero j1 (fun hh => ?_)
          obtain ⟨y1, y2, y3⟩ := hh
          rw [j11] at y3
          by_cases hn : 2 ≤ n ∧ n ≤ 8192
          · rw [if_pos hn] at y3
            by_cases hm : 2 * n - 1 ≤ (ln x : Int)
            · by_cases hr0 : r = 0
              · exact j4 hr0 ⟨by omega, by omega, by omega⟩
              · have := j3 (by omega); omega
            · rw [if_neg hm] at y3; omega
          · rw [if_neg hn] at y3; omega
        · rw [if_neg hc]
          have hr0 : 0 < r := by omega
          obtain ⟨z1, z2, z3, z4⟩ := j3 hr0
          refine mr_pos (by omega) (by omega) z2 (by omega) ?_ (by omega)
          rw [j11, if_pos (by omega), if_pos (by omega)]
      · unfold ifw
        by_cases hc : n < 2 ∨ (h' : Int) < n
        · rw [if_pos hc]; rfl
        · rw [if_neg hc, Int.toNat_of_nonneg (by omega)]
    clear hr hM X1 c0 c1 c2 d0 d1 d2 m0 hprH
    have hfx : fit k n := hfit
    go_wp2_with fail
    refine (hwi.out 2 _ _).mono ?_
    rintro e w3 ⟨rfl, rfl⟩
    generalize ifw n 2 (h' : Int) = Z at *
    go_wp2_with fail
    go_ret
    exact hfin.out
  · have hfin : Hid (ME g P D R p lev w (.returned (.int .i64 0)) wb) := hzero.out (by rw [← hR.out]; exact ln_not (fun h => k1 h.1) (fun h => k2 h.1) (by rw [hL.out]; exact k3) (by rw [hL.out]; exact k4))
    clear hzero hwi hP hD hR
    by_cases k3a : k = 3
    · have q1 : (k == 3) = true := by rw [k3a]; rfl
      have r4 : (k == 4) = false := beq_eq_false_iff_ne.2 (by omega)
      by_cases h2 : L = 2
      · have q2 : ((L : Int) == 2) = true := by rw [h2]; rfl
        have q3 : (n == 0) = false := beq_eq_false_iff_ne.2 (fun e => k3 ⟨k3a, h2, e⟩)
        clear k1 k2 k3 k4 k3a h2
        go_wp2_with fail
        go_ret
        exact hfin.out
      · have q2 : ((L : Int) == 2) = false := beq_eq_false_iff_ne.2 (by omega)
        clear k1 k2 k3 k4 k3a h2
        go_wp2_with fail
        go_ret
        exact hfin.out
    · have r3 : (k == 3) = false := beq_eq_false_iff_ne.2 k3a
      by_cases k4a : k = 4
      · have q1 : (k == 4) = true := by rw [k4a]; rfl
        have q2 : ((L : Int) == 1) = false := beq_eq_false_iff_ne.2 (fun e => k4 ⟨k4a, by omega⟩)
        clear k1 k2 k3 k4 k3a k4a
        go_wp2_with fail
        go_ret
        exact hfin.out
      · have q1 : (k == 4) = false := beq_eq_false_iff_ne.2 k4a
        clear k1 k2 k3 k4 k3a k4a
        go_wp2_with fail
        go_ret
        exact hfin.out
set_option maxRecDepth 100000 in
theorem length_c (t : Tr) (v : Value) (w : World) (ho : Od w t v) : Calls Tryd.prog 32 #[v] w fun e w' => e = .returned (.int .i64 (len t : Int)) ∧ Below w.heap.size w w' := by
  obtain ⟨k, n, ks⟩ := t
  obtain ⟨ao, cap, rfl, _, _⟩ := ho.kds
  obtain ⟨L, hL⟩ : ∃ L, Hid (ks.length = L) := ⟨_, (rfl : _ = _)⟩
  obtain ⟨t, ht⟩ : ∃ t, Hid (Tr.mk k n ks = t) := ⟨_, (rfl : _ = _)⟩
  rw [hL.out, ht.out] at ho
  rw [hL.out, ht.out]
  have hoH : Hid (Od w t (.agg #[.int .i64 k, .int .i64 n, .slice ao L cap])) := ho
  clear ho
  obtain ⟨wa, ewa⟩ : ∃ wa, Hid (w.alloc (.cells #[.int .i64 k, .int .i64 n, .slice ao L cap] 24) = wa) := ⟨_, (rfl : _ = _)⟩
  obtain ⟨wb, ewb⟩ : ∃ wb, Hid (wa.alloc (.cells #[.int .i64 0] 88) = wb) := ⟨_, (rfl : _ = _)⟩
  have Xa : Hid (Bx3 wb w.heap.size k n (.slice ao L cap)) := by show Bx3 _ _ _ _ _; rw [← ewb.out, ← ewa.out]; exact (Bx3.new w k n (.slice ao L cap) _).below ((Below.refl _ _).alloc (Nat.le_refl _) _)
  have Mb : Hid (Mt wb wa.heap.size 0) := by show Mt _ _ _; rw [← ewb.out]; exact ⟨heap_alloc_new _ _⟩
  have hsz : w.heap.size ≤ wa.heap.size := by rw [← ewa.out]; simp
  have Bb : Hid (Below w.heap.size w wb) := by show Below _ _ _; rw [← ewb.out, ← ewa.out]; exact ((Below.refl _ _).alloc (Nat.le_refl _) _).alloc (by simp) _
  go_enter Tryd.func32, Tryd.ntmps32
  go_upto_region 2 with fail
  rw [ewa.out, ewb.out]
  obtain ⟨gx, hgx⟩ : ∃ gx, Hid (w.heap.size = gx) := ⟨_, (rfl : _ = _)⟩
  have esz : wa.heap.size = w.heap.size + 1 := by rw [← ewa.out]; simp
  rw [esz] at Mb hsz
  clear esz
  rw [hgx.out] at Xa Mb hsz ⊢
  have c0 := Xa.out.c0
  have c1 := Xa.out.c1
  have c2 := Xa.out.c2
  go_wp2_with fail
  refine (mlen_c w t _ wb (gx + 1) 0 1 hoH.out Bb.out (by rw [hgx.out]; omega) Mb.out (by decide) (by decide) (by decide)).mono ?_
  rintro e w1 ⟨r, q', hr, rfl, hM, hG⟩
  have hfin : Hid ((r : Int) = (len t : Int) ∧ Below w.heap.size w w1) := by
    refine ⟨?_, gb_bel Bb.out hG Bb.out.size (by rw [hgx.out]; omega)⟩
    obtain ⟨j1, j2, j3, j4⟩ := hr
    unfold len
    by_cases h0 : r = 0
    · by_cases hc : pt t ≤ 4096 ∧ dp t ≤ 16
      · rw [if_pos hc, h0]
        have := j4 h0
        omega
      · rw [if_neg hc, h0]
    · obtain ⟨z1, z2, z3, z4⟩ := j3 (by omega)
      rw [if_pos ⟨by omega, by omega⟩, z4]
  clear hr hM hG c0 c1 c2
  go_wp2_with fail
  go_ret
  exact ⟨by rw [hfin.out.1]; rfl, hgx.out ▸ hfin.out.2⟩
end Go.Proofs.YtoaccmblaifnmaaDoor
