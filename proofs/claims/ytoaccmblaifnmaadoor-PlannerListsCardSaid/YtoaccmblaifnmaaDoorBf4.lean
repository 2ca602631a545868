/-
  The statement PlannerLists: the walk.
-/
import Derived.WalkKit
import Ieee.Arith
import Derived.WalkLawsBesides
import Derived.Laws.FloatArith
import Derived.Test.YtoaccmblaifnmaaDoorProg
import Derived.RegionTactic
import Derived.Outline
import Derived.Lib.Mul64
import Derived.Laws.Bits64b
import Derived.Deep.QuietTactic
import Derived.BigQuiet
import Derived.WalkSmall
import Derived.Deep.CutBlock
import Derived.Deep.DeepCutAuto
import Derived.Laws.Rows
import Derived.Lib.ItoaNum
import Derived.Laws.IdiomStrings
import Derived.Deep.RegionHeld3
import Derived.Lib.SmallJoins
import Derived.Lib.HexFns
import Derived.Test.YtoaccmblaifnmaaDoorRows
import Derived.LaidEql
import Derived.LaidLaws
import Derived.LaidHandle
import Derived.Stop.Joined
import Derived.Deep.RegionWith
import Derived.Recover
import Derived.RegionDies
import Derived.Laws.CopyOwn
import Derived.Lib.AppendIntMem
import Derived.Deep.RegionHeldLaw
import Derived.Maps.AppendAt
import Derived.Laws.OwnMore
import Derived.RangeFuncNested
import Derived.RangeFuncBound
import Derived.RangeFuncCalls
import Derived.RangeFuncLeaves
import Derived.RangeFuncBox
import Derived.Shelf.Abstract
import Derived.Shelf.RegionOpen
import Derived.OwnWalkIn
import Derived.TacticsInMore
import Derived.LoopNIn
import Derived.LoopIn
import Derived.Laws.AppendOwn
import Derived.OwnWalk
import Derived.BigCall
import Derived.Laws.ComplexArith
import Derived.Laws.MakeOwn
import Derived.MapKept
import Derived.Carry
import Derived.ChangeAlike
import Derived.Deep.RegionLaw
import Derived.Defers
import Derived.Deep.AppendSrc
import Derived.Lib.LaidTab
import Derived.LaidSub
import Derived.LaidMore
import Derived.ProofKit
import Derived.Laws.AppendOwnNone
import Derived.Test.YtoaccmblaifnmaaDoorBf3
import Derived.Test.YtoaccmblaifnmaaDoorBb4
import Derived.Test.YtoaccmblaifnmaaDoorBe4
namespace Go.Proofs.YtoaccmblaifnmaaDoor
open Flo Go.RowKit Tr
/-- one of a list, wherever the world has grown to -/
theorem Lrw.rd {g : Nat} {U : Nat → Prop} {w : World} {kv : Value} {ks : List Tr} {ss : List Value} (h : Lrw g U w kv ks ss) {j : Nat} {t : Tr} (hj : ks[j]? = some t) :
    ∃ r cap a c, kv = .slice (some ⟨r, 0, none⟩) ks.length cap ∧ ∀ W, Below w.heap.size w W → W.cell? ⟨r, j * 3, none⟩ = some (.int .i64 t.k) ∧ W.cell? ⟨r, j * 3 + 1, none⟩ = some (.int .i64 t.n) ∧ W.cell? ⟨r, j * 3 + 2, none⟩ = some (.slice a t.ks.length c) ∧ Od W t (.agg #[.int .i64 t.k, .int .i64 t.n, .slice a t.ks.length c]) := by
  obtain ⟨r, cap, a, c, e, h0, h1, h2, ho⟩ := h.at hj
  refine ⟨r, cap, a, c, e, fun W hb => ⟨(hb.cell (p := ⟨r, j * 3, none⟩) (cell_lt h0)).trans h0, (hb.cell (p := ⟨r, j * 3 + 1, none⟩) (cell_lt h1)).trans h1, (hb.cell (p := ⟨r, j * 3 + 2, none⟩) (cell_lt h2)).trans h2, Od.below hb _ _ ho.od⟩⟩
theorem tops_neg (l : List Tr) : tops (-1) l = l := by unfold tops; rw [if_neg (by decide)]
/-- how many are told -/
def stn (stop : Int) (L : Nat) : Nat := if stop < 1 ∨ (L : Int) < stop then L else stop.toNat
theorem tops_stn (stop : Int) (l : List Tr) : tops stop l = l.take (stn stop l.length) ∧ (tops stop l).length = stn stop l.length ∧ stn stop l.length ≤ l.length := by
  unfold tops stn
  by_cases h1 : stop < 1
  · rw [if_neg (by omega), if_pos (.inl h1), List.take_of_length_le (Nat.le_refl _)]
    exact ⟨rfl, rfl, Nat.le_refl _⟩
  · rw [if_pos (by omega)]
    by_cases h2 : (l.length : Int) < stop
    · rw [if_pos (.inr h2), List.take_of_length_le (by omega), List.take_of_length_le (Nat.le_refl _)]
      exact ⟨rfl, rfl, Nat.le_refl _⟩
    · rw [if_neg (by omega)]
      exact ⟨rfl, by rw [List.length_take]; omega, by omega⟩
set_option maxHeartbeats 16000000 in
set_option maxRecDepth 100000 in
theorem plannerLists.walk (n stop : Int) (D p : Int) (F : List Int) (fv : Value) (V : Nat → Prop) (aR aN aL aO : Addr) (w : World) (hEr : E14 w aR aN aL aO) (hF : FlR V w fv F) (hb : F.length * 8 ≤ 140737488355328) :
    Calls Tryd.prog 5 #[.int .i64 n, .agg #[.int .i64 D, fv, .int .i64 p], .int .i64 stop] w fun e w' => e = .returned (.bool true) ∧ Below w.heap.size w w' := by
  obtain ⟨wa, ewa⟩ : ∃ wa, Hid (w.alloc (.cells #[.int .i64 D, fv, .int .i64 p] 45) = wa) := ⟨_, (rfl : _ = _)⟩
  have Ba : Hid (Below w.heap.size w wa) := by show Below _ _ _; rw [← ewa.out]; exact (Below.refl _ _).alloc (Nat.le_refl _) _
  obtain ⟨g, hg⟩ : ∃ g, Hid (w.heap.size = g) := ⟨_, (rfl : _ = _)⟩
  have Xa : Hid (Bp wa g D fv p) := by show Bp _ _ _ _ _; rw [← ewa.out, ← hg.out]; exact Bp.new _ _ _ _
  have hEa : Hid (E14 wa aR aN aL aO) := hEr.below Ba.out
  have hFa : Hid (FlR V wa fv F) := hF.kt (T := fun _ => False) (KT.of_below Ba.out) (fun _ (h : False) => h.elim)
  obtain ⟨fa, fc, efv⟩ : ∃ a c, fv = .slice a F.length c := by obtain ⟨a, c, e, _⟩ := hF; exact ⟨a, c, e⟩
  obtain ⟨L, hL⟩ : ∃ L, Hid (F.length = L) := ⟨_, (rfl : _ = _)⟩
  have hbH : Hid (F.length * 8 ≤ 140737488355328) := hb
  have hlnH : Hid (F.length ≤ 9223372036854775807) := by show _ ≤ _; omega
  rw [hL.out] at efv
  subst efv
  have hfx := fixed14_c wa _ _ _ _ hEa.out
  clear hEr hF hb
  have x0 := Xa.out.c0
  have x1 := Xa.out.c1
  have x2 := Xa.out.c2
  go_enter Tryd.func5, Tryd.ntmps5
  go_upto_region 1 with fail
  rw [ewa.out, hg.out]
  go_wp2_with fail
  refine hfx.mono ?_
  rintro e w1 ⟨rfl, B1⟩
  have hB1 : Hid (Below w.heap.size w w1) := btr Ba.out B1
  have X1 : Hid (Bp w1 g D (.slice fa L fc) p) := Xa.out.bel B1
  have hE1 : Hid (E14 w1 aR aN aL aO) := hEa.out.below B1
  have hF1 : Hid (FlR V w1 (.slice fa L fc) F) := hFa.out.kt (T := fun _ => False) (KT.of_below B1) (fun _ (h : False) => h.elim)
  clear B1 hfx x0 x1 x2 Xa hEa hFa Ba
  have hXX : Hid (∀ W, Below w1.heap.size w1 W → Bp W g D (.slice fa L fc) p ∧ E14 W aR aN aL aO ∧ FlR V W (.slice fa L fc) F) := fun W hW => ⟨X1.out.bel hW, hE1.out.below hW, hF1.out.kt (T := fun _ => False) (KT.of_below hW) (fun _ (h : False) => h.elim)⟩
  obtain ⟨X, hX⟩ : ∃ z, Hid (alP D p F n = z) := ⟨_, (rfl : _ = _)⟩
  have hXl : Hid (X.length ≤ 4096) := by show _ ≤ _; rw [← hX.out]; exact alP_len _ _ _ _
  have hc1 := dAll_c (D := D) (p := p) (F := F) n (.slice fa L fc) w1 hF1.out hlnH.out
  rw [hX.out] at hc1
  have hgn : Hid (∀ (top : Int) W, Below w1.heap.size w1 W → Calls Tryd.prog 30 #[.int .i64 n, .agg #[.int .i64 D, .slice fa L fc, .int .i64 p], .int .i64 top] W fun e w' => ∃ lv ss UU, e = .returned (.tuple #[lv, .bool true]) ∧ Lrw W.heap.size UU w' lv (tops top X) ss ∧ Below W.heap.size W w') := fun top W hW => by
    obtain ⟨_, h2, h3⟩ := hXX.out W hW
    refine (gone_c (D := D) (p := p) (F := F) n top (.slice fa L fc) W aN aR h3 h2.cN h2.cR hbH.out).mono ?_
    rintro e w' ⟨lv, ss, UU, rfl, q1, _, q3⟩
    rw [hX.out] at q1
    exact ⟨lv, ss, UU, rfl, q1, q3⟩
  have x0 := X1.out.c0
  have x1 := X1.out.c1
  have x2 := X1.out.c2
  clear X1 hE1 hF1
  go_wp2_with fail
  refine hc1.mono ?_
  rintro e w2 ⟨kv1, ss1, U1, rfl, L1', -, B2⟩
  have hB2 : Hid (Below w1.heap.size w1 w2) := B2
  have L1 : Hid (Lrw w1.heap.size U1 w2 kv1 X ss1) := L1'
  clear x0 x1 x2 hc1 L1' B2
  have x0 := (hXX.out w2 hB2.out).1.c0
  have x1 := (hXX.out w2 hB2.out).1.c1
  have x2 := (hXX.out w2 hB2.out).1.c2
  have hg1 := hgn.out (-1) w2 hB2.out
  rw [tops_neg] at hg1
  go_wp2_with fail
  refine hg1.mono ?_
  rintro e w3 ⟨kv2, ss2, U2, rfl, L2', B3⟩
  have hB3 : Hid (Below w1.heap.size w1 w3) := btr hB2.out B3
  have L1b : Hid (Lrw w1.heap.size U1 w3 kv1 X ss1) := L1.out.bel B3
  have L2 : Hid (Lrw w2.heap.size U2 w3 kv2 X ss2) := L2'
  clear x0 x1 x2 hg1 L2' B3 L1
  have x0 := (hXX.out w3 hB3.out).1.c0
  have x1 := (hXX.out w3 hB3.out).1.c1
  have x2 := (hXX.out w3 hB3.out).1.c2
  have hg2 := hgn.out stop w3 hB3.out
  obtain ⟨ht1, ht2, ht3⟩ := tops_stn stop X
  rw [ht1] at hg2 ht2
  go_wp2_with fail
  refine hg2.mono ?_
  rintro e w4 ⟨kv3, ss3, U3, rfl, L3', B4⟩
  have hB4 : Hid (Below w.heap.size w w4) := btr hB1.out (btr hB3.out B4)
  have L1c : Hid (Lrw w1.heap.size U1 w4 kv1 X ss1) := L1b.out.bel B4
  have L2b : Hid (Lrw w2.heap.size U2 w4 kv2 X ss2) := L2.out.bel B4
  have L3 : Hid (Lrw w3.heap.size U3 w4 kv3 (X.take (stn stop X.length)) ss3) := L3'
  clear x0 x1 x2 hg2 L3' B4 L1b L2 hgn hXX
  obtain ⟨a1, c1, rfl⟩ := L1c.out.shape
  obtain ⟨a2, c2, rfl⟩ := L2b.out.shape
  obtain ⟨a3, c3, rfl⟩ := L3.out.shape
  rw [ht2] at L3 ⊢
  obtain ⟨N, hN⟩ : ∃ z, Hid (X.length = z) := ⟨_, (rfl : _ = _)⟩
  rw [hN.out] at hXl L1c L2b L3 ht3 ⊢
  obtain ⟨S, hS⟩ : ∃ z, Hid (stn stop N = z) := ⟨_, (rfl : _ = _)⟩
  rw [hS.out] at L3 ht3 ⊢
  have hsd : (stop < 1 ∨ (N : Int) < stop) ∧ S = N ∨ (¬ stop < 1 ∧ ¬ (N : Int) < stop) ∧ stop = (S : Int) := by
    have h := hS.out
    unfold stn at h
    by_cases hc : stop < 1 ∨ (N : Int) < stop
    · rw [if_pos hc] at h; exact .inl ⟨hc, h.symm⟩
    · rw [if_neg hc] at h; exact .inr ⟨⟨fun q => hc (.inl q), fun q => hc (.inr q)⟩, by omega⟩
  have hNl := hXl.out
  clear ht1 ht2
  by_cases h1 : stop < 1
  · have eS : N = S := by omega
    subst eS
    clear hsd
    go_wp2_with fail
    go_loopw [60] (fun i wr => ∃ (k : Nat), i = .int .i64 k ∧ k ≤ N ∧ Hid (Below w4.heap.size w4 wr)) (fun i _ => N - (intOf i).toNat)
    case atStart => exact ⟨0, rfl, Nat.zero_le _, Below.refl _ _⟩
    case round =>
      obtain ⟨k, rfl, hk, hBk⟩ := hrel
      rename World => wr
      by_cases hlt : k < N
      · have hlt' : (k : Int) < (N : Int) := by omega
        obtain ⟨t, ht⟩ : ∃ t, X[k]? = some t := ⟨_, List.getElem?_eq_getElem (by rw [hN.out]; exact hlt)⟩
        obtain ⟨r1, cp1, b1, d1, e1, f1⟩ := L1c.out.rd ht
        obtain ⟨r2, cp2, b2, d2, e2, f2⟩ := L2b.out.rd ht
        simp only [Value.slice.injEq] at e1 e2
        obtain ⟨rfl, -, rfl⟩ := e1
        obtain ⟨rfl, -, rfl⟩ := e2
        obtain ⟨tl, htl⟩ : ∃ z, Hid (t.ks.length = z) := ⟨_, (rfl : _ = _)⟩
        obtain ⟨tk, htk⟩ : ∃ z, Hid (t.k = z) := ⟨_, (rfl : _ = _)⟩
        obtain ⟨tn, htn⟩ : ∃ z, Hid (t.n = z) := ⟨_, (rfl : _ = _)⟩
        rw [htl.out, htk.out, htn.out] at f1 f2
        have hf12 : Hid (∀ W, Below wr.heap.size wr W → (W.cell? ⟨r1, k * 3, none⟩ = some (.int .i64 tk) ∧ W.cell? ⟨r1, k * 3 + 1, none⟩ = some (.int .i64 tn) ∧ W.cell? ⟨r1, k * 3 + 2, none⟩ = some (.slice b1 tl d1)) ∧ (W.cell? ⟨r2, k * 3, none⟩ = some (.int .i64 tk) ∧ W.cell? ⟨r2, k * 3 + 1, none⟩ = some (.int .i64 tn) ∧ W.cell? ⟨r2, k * 3 + 2, none⟩ = some (.slice b2 tl d2)) ∧ Calls Tryd.prog 16 #[.agg #[.int .i64 tk, .int .i64 tn, .slice b2 tl d2], .agg #[.int .i64 tk, .int .i64 tn, .slice b1 tl d1]] W fun e w' => e = .returned (.bool true) ∧ Below wr.heap.size wr w') := fun W hW => by
          have hb := btr hBk.out hW
          obtain ⟨q0, q1, q2, qo⟩ := f1 W hb
          obtain ⟨p0, p1, p2, po⟩ := f2 W hb
          refine ⟨⟨q0, q1, q2⟩, ⟨p0, p1, p2⟩, (rSame_c t t _ _ W po qo).mono ?_⟩
          rintro e w' ⟨bb, rfl, hbb, B⟩
          exact ⟨by rw [hbb.2 rfl], btr hW B⟩
        by_cases hkS : (k : Int) < (N : Int)
        · have hkS' : (k : Int) < (N : Int) := by omega
          obtain ⟨r3, cp3, b3, d3, e3, f3⟩ := L3.out.rd (j := k) (t := t) (by rw [List.getElem?_take, if_pos (by omega)]; exact ht)
          simp only [Value.slice.injEq] at e3
          obtain ⟨rfl, -, rfl⟩ := e3
          rw [htl.out, htk.out, htn.out] at f3
          have hf3 : Hid (∀ W, Below wr.heap.size wr W → (W.cell? ⟨r3, k * 3, none⟩ = some (.int .i64 tk) ∧ W.cell? ⟨r3, k * 3 + 1, none⟩ = some (.int .i64 tn) ∧ W.cell? ⟨r3, k * 3 + 2, none⟩ = some (.slice b3 tl d3)) ∧ Calls Tryd.prog 16 #[.agg #[.int .i64 tk, .int .i64 tn, .slice b3 tl d3], .agg #[.int .i64 tk, .int .i64 tn, .slice b1 tl d1]] W fun e w' => e = .returned (.bool true) ∧ Below wr.heap.size wr w') := fun W hW => by
            have hb := btr hBk.out hW
            obtain ⟨q0, q1, q2, qo⟩ := f1 W hb
            obtain ⟨p0, p1, p2, po⟩ := f3 W hb
            refine ⟨⟨p0, p1, p2⟩, (rSame_c t t _ _ W po qo).mono ?_⟩
            rintro e w' ⟨bb, rfl, hbb, B⟩
            exact ⟨by rw [hbb.2 rfl], btr hW B⟩
          clear f1 f2 f3
          go_upto_region 15 with fail
          refine pl15a_reg (tl := tl) (tk := tk) (tn := tn) (b1 := b1) (b2 := b2) (b3 := b3) (d1 := d1) (d2 := d2) (d3 := d3) (r3 := r3) (Z1 := fun W1 => Below wr.heap.size wr W1) (V1 := fun W2 => Below wr.heap.size wr W2) hlt' (show (k : Int) < (N : Int) by omega) ?hS ?hc1 ?hc2 ?hq
          case hS =>
            obtain ⟨⟨v0, v1, v2⟩, ⟨u0, u1, u2⟩, -⟩ := hf12.out wr.drew (Below.refl _ _).drew
            obtain ⟨⟨y0, y1, y2⟩, -⟩ := hf3.out wr.drew (Below.refl _ _).drew
            exact ⟨v0, v1, v2, u0, u1, u2, y0, y1, y2⟩
          case hc1 =>
            refine (hf12.out wr.drew (Below.refl _ _).drew).2.2.mono ?_
            rintro e W1 ⟨rfl, B5⟩
            obtain ⟨⟨v0, v1, v2⟩, ⟨u0, u1, u2⟩, -⟩ := hf12.out W1 B5
            obtain ⟨⟨y0, y1, y2⟩, -⟩ := hf3.out W1 B5
            exact ⟨rfl, ⟨v0, v1, v2, u0, u1, u2, y0, y1, y2⟩, B5⟩
          case hc2 =>
            intro W1 B5
            refine (hf3.out W1 B5).2.mono ?_
            rintro e W2 ⟨rfl, B6⟩
            obtain ⟨⟨v0, v1, v2⟩, ⟨u0, u1, u2⟩, -⟩ := hf12.out W2 B6
            obtain ⟨⟨y0, y1, y2⟩, -⟩ := hf3.out W2 B6
            exact ⟨rfl, ⟨v0, v1, v2, u0, u1, u2, y0, y1, y2⟩, B6⟩
          case hq =>
            intro w6 B6
            have hBn : Hid (Below w4.heap.size w4 w6) := btr hBk.out B6
            clear B6 hf12 hf3
            go_wp2
            go_roundw
            case rel => exact ⟨k + 1, by go_num, by omega, hBn⟩
            case measure => simp [intOf]; omega
        · have hkS' : ¬ (k : Int) < (N : Int) := by omega
          clear f1 f2
          go_upto_region 15 with fail
          refine pl15b_reg (tl := tl) (tk := tk) (tn := tn) (b1 := b1) (b2 := b2) (d1 := d1) (d2 := d2) (Z1 := fun W1 => Below wr.heap.size wr W1) hlt' (show ¬ (k : Int) < (N : Int) by omega) ?hS ?hc1 ?hq
          case hS =>
            obtain ⟨⟨v0, v1, v2⟩, ⟨u0, u1, u2⟩, -⟩ := hf12.out wr.drew (Below.refl _ _).drew
            exact ⟨v0, v1, v2, u0, u1, u2⟩
          case hc1 =>
            refine (hf12.out wr.drew (Below.refl _ _).drew).2.2.mono ?_
            rintro e W1 ⟨rfl, B5⟩
            obtain ⟨⟨v0, v1, v2⟩, ⟨u0, u1, u2⟩, -⟩ := hf12.out W1 B5
            exact ⟨rfl, ⟨v0, v1, v2, u0, u1, u2⟩, B5⟩
          case hq =>
            intro w6 B6
            have hBn : Hid (Below w4.heap.size w4 w6) := btr hBk.out B6
            clear B6 hf12
            go_wp2
            go_roundw
            case rel => exact ⟨k + 1, by go_num, by omega, hBn⟩
            case measure => simp [intOf]; omega
      · have hlt' : decide ((k : Int) < (N : Int)) = false := decide_eq_false (by omega)
        have hE : Hid (Below w.heap.size w wr) := btr hB4.out hBk.out
        go_wp2_with fail
        go_ret
        exact ⟨rfl, hE.out⟩
  · have h1' : decide (stop < 1) = false := decide_eq_false h1
    by_cases h2 : (N : Int) < stop
    · have eS : N = S := by omega
      subst eS
      clear hsd
      go_wp2_with fail
      go_loopw [60] (fun i wr => ∃ (k : Nat), i = .int .i64 k ∧ k ≤ N ∧ Hid (Below w4.heap.size w4 wr)) (fun i _ => N - (intOf i).toNat)
      case atStart => exact ⟨0, rfl, Nat.zero_le _, Below.refl _ _⟩
      case round =>
        obtain ⟨k, rfl, hk, hBk⟩ := hrel
        rename World => wr
        by_cases hlt : k < N
        · have hlt' : (k : Int) < (N : Int) := by omega
          obtain ⟨t, ht⟩ : ∃ t, X[k]? = some t := ⟨_, List.getElem?_eq_getElem (by rw [hN.out]; exact hlt)⟩
          obtain ⟨r1, cp1, b1, d1, e1, f1⟩ := L1c.out.rd ht
          obtain ⟨r2, cp2, b2, d2, e2, f2⟩ := L2b.out.rd ht
          simp only [Value.slice.injEq] at e1 e2
          obtain ⟨rfl, -, rfl⟩ := e1
          obtain ⟨rfl, -, rfl⟩ := e2
          obtain ⟨tl, htl⟩ : ∃ z, Hid (t.ks.length = z) := ⟨_, (rfl : _ = _)⟩
          obtain ⟨tk, htk⟩ : ∃ z, Hid (t.k = z) := ⟨_, (rfl : _ = _)⟩
          obtain ⟨tn, htn⟩ : ∃ z, Hid (t.n = z) := ⟨_, (rfl : _ = _)⟩
          rw [htl.out, htk.out, htn.out] at f1 f2
          have hf12 : Hid (∀ W, Below wr.heap.size wr W → (W.cell? ⟨r1, k * 3, none⟩ = some (.int .i64 tk) ∧ W.cell? ⟨r1, k * 3 + 1, none⟩ = some (.int .i64 tn) ∧ W.cell? ⟨r1, k * 3 + 2, none⟩ = some (.slice b1 tl d1)) ∧ (W.cell? ⟨r2, k * 3, none⟩ = some (.int .i64 tk) ∧ W.cell? ⟨r2, k * 3 + 1, none⟩ = some (.int .i64 tn) ∧ W.cell? ⟨r2, k * 3 + 2, none⟩ = some (.slice b2 tl d2)) ∧ Calls Tryd.prog 16 #[.agg #[.int .i64 tk, .int .i64 tn, .slice b2 tl d2], .agg #[.int .i64 tk, .int .i64 tn, .slice b1 tl d1]] W fun e w' => e = .returned (.bool true) ∧ Below wr.heap.size wr w') := fun W hW => by
            have hb := btr hBk.out hW
            obtain ⟨q0, q1, q2, qo⟩ := f1 W hb
            obtain ⟨p0, p1, p2, po⟩ := f2 W hb
            refine ⟨⟨q0, q1, q2⟩, ⟨p0, p1, p2⟩, (rSame_c t t _ _ W po qo).mono ?_⟩
            rintro e w' ⟨bb, rfl, hbb, B⟩
            exact ⟨by rw [hbb.2 rfl], btr hW B⟩
          by_cases hkS : (k : Int) < (N : Int)
          · have hkS' : (k : Int) < (N : Int) := by omega
            obtain ⟨r3, cp3, b3, d3, e3, f3⟩ := L3.out.rd (j := k) (t := t) (by rw [List.getElem?_take, if_pos (by omega)]; exact ht)
            simp only [Value.slice.injEq] at e3
            obtain ⟨rfl, -, rfl⟩ := e3
            rw [htl.out, htk.out, htn.out] at f3
            have hf3 : Hid (∀ W, Below wr.heap.size wr W → (W.cell? ⟨r3, k * 3, none⟩ = some (.int .i64 tk) ∧ W.cell? ⟨r3, k * 3 + 1, none⟩ = some (.int .i64 tn) ∧ W.cell? ⟨r3, k * 3 + 2, none⟩ = some (.slice b3 tl d3)) ∧ Calls Tryd.prog 16 #[.agg #[.int .i64 tk, .int .i64 tn, .slice b3 tl d3], .agg #[.int .i64 tk, .int .i64 tn, .slice b1 tl d1]] W fun e w' => e = .returned (.bool true) ∧ Below wr.heap.size wr w') := fun W hW => by
              have hb := btr hBk.out hW
              obtain ⟨q0, q1, q2, qo⟩ := f1 W hb
              obtain ⟨p0, p1, p2, po⟩ := f3 W hb
              refine ⟨⟨p0, p1, p2⟩, (rSame_c t t _ _ W po qo).mono ?_⟩
              rintro e w' ⟨bb, rfl, hbb, B⟩
              exact ⟨by rw [hbb.2 rfl], btr hW B⟩
            clear f1 f2 f3
            go_upto_region 15 with fail
            refine pl15a_reg (tl := tl) (tk := tk) (tn := tn) (b1 := b1) (b2 := b2) (b3 := b3) (d1 := d1) (d2 := d2) (d3 := d3) (r3 := r3) (Z1 := fun W1 => Below wr.heap.size wr W1) (V1 := fun W2 => Below wr.heap.size wr W2) hlt' (show (k : Int) < (N : Int) by omega) ?hS ?hc1 ?hc2 ?hq
            case hS =>
              obtain ⟨⟨v0, v1, v2⟩, ⟨u0, u1, u2⟩, -⟩ := hf12.out wr.drew (Below.refl _ _).drew
              obtain ⟨⟨y0, y1, y2⟩, -⟩ := hf3.out wr.drew (Below.refl _ _).drew
              exact ⟨v0, v1, v2, u0, u1, u2, y0, y1, y2⟩
            case hc1 =>
              refine (hf12.out wr.drew (Below.refl _ _).drew).2.2.mono ?_
              rintro e W1 ⟨rfl, B5⟩
              obtain ⟨⟨v0, v1, v2⟩, ⟨u0, u1, u2⟩, -⟩ := hf12.out W1 B5
              obtain ⟨⟨y0, y1, y2⟩, -⟩ := hf3.out W1 B5
              exact ⟨rfl, ⟨v0, v1, v2, u0, u1, u2, y0, y1, y2⟩, B5⟩
            case hc2 =>
              intro W1 B5
              refine (hf3.out W1 B5).2.mono ?_
              rintro e W2 ⟨rfl, B6⟩
              obtain ⟨⟨v0, v1, v2⟩, ⟨u0, u1, u2⟩, -⟩ := hf12.out W2 B6
              obtain ⟨⟨y0, y1, y2⟩, -⟩ := hf3.out W2 B6
              exact ⟨rfl, ⟨v0, v1, v2, u0, u1, u2, y0, y1, y2⟩, B6⟩
            case hq =>
              intro w6 B6
              have hBn : Hid (Below w4.heap.size w4 w6) := btr hBk.out B6
              clear B6 hf12 hf3
              go_wp2
              go_roundw
              case rel => exact ⟨k + 1, by go_num, by omega, hBn⟩
              case measure => simp [intOf]; omega
          · have hkS' : ¬ (k : Int) < (N : Int) := by omega
            clear f1 f2
            go_upto_region 15 with fail
            refine pl15b_reg (tl := tl) (tk := tk) (tn := tn) (b1 := b1) (b2 := b2) (d1 := d1) (d2 := d2) (Z1 := fun W1 => Below wr.heap.size wr W1) hlt' (show ¬ (k : Int) < (N : Int) by omega) ?hS ?hc1 ?hq
            case hS =>
              obtain ⟨⟨v0, v1, v2⟩, ⟨u0, u1, u2⟩, -⟩ := hf12.out wr.drew (Below.refl _ _).drew
              exact ⟨v0, v1, v2, u0, u1, u2⟩
            case hc1 =>
              refine (hf12.out wr.drew (Below.refl _ _).drew).2.2.mono ?_
              rintro e W1 ⟨rfl, B5⟩
              obtain ⟨⟨v0, v1, v2⟩, ⟨u0, u1, u2⟩, -⟩ := hf12.out W1 B5
              exact ⟨rfl, ⟨v0, v1, v2, u0, u1, u2⟩, B5⟩
            case hq =>
              intro w6 B6
              have hBn : Hid (Below w4.heap.size w4 w6) := btr hBk.out B6
              clear B6 hf12
              go_wp2
              go_roundw
              case rel => exact ⟨k + 1, by go_num, by omega, hBn⟩
              case measure => simp [intOf]; omega
        · have hlt' : decide ((k : Int) < (N : Int)) = false := decide_eq_false (by omega)
          have hE : Hid (Below w.heap.size w wr) := btr hB4.out hBk.out
          go_wp2_with fail
          go_ret
          exact ⟨rfl, hE.out⟩
    · have h2' : decide ((N : Int) < stop) = false := decide_eq_false h2
      have eS : stop = (S : Int) := by omega
      subst eS
      clear hsd
      go_wp2_with fail
      go_loopw [60] (fun i wr => ∃ (k : Nat), i = .int .i64 k ∧ k ≤ N ∧ Hid (Below w4.heap.size w4 wr)) (fun i _ => N - (intOf i).toNat)
      case atStart => exact ⟨0, rfl, Nat.zero_le _, Below.refl _ _⟩
      case round =>
        obtain ⟨k, rfl, hk, hBk⟩ := hrel
        rename World => wr
        by_cases hlt : k < N
        · have hlt' : (k : Int) < (N : Int) := by omega
          obtain ⟨t, ht⟩ : ∃ t, X[k]? = some t := ⟨_, List.getElem?_eq_getElem (by rw [hN.out]; exact hlt)⟩
          obtain ⟨r1, cp1, b1, d1, e1, f1⟩ := L1c.out.rd ht
          obtain ⟨r2, cp2, b2, d2, e2, f2⟩ := L2b.out.rd ht
          simp only [Value.slice.injEq] at e1 e2
          obtain ⟨rfl, -, rfl⟩ := e1
          obtain ⟨rfl, -, rfl⟩ := e2
          obtain ⟨tl, htl⟩ : ∃ z, Hid (t.ks.length = z) := ⟨_, (rfl : _ = _)⟩
          obtain ⟨tk, htk⟩ : ∃ z, Hid (t.k = z) := ⟨_, (rfl : _ = _)⟩
          obtain ⟨tn, htn⟩ : ∃ z, Hid (t.n = z) := ⟨_, (rfl : _ = _)⟩
          rw [htl.out, htk.out, htn.out] at f1 f2
          have hf12 : Hid (∀ W, Below wr.heap.size wr W → (W.cell? ⟨r1, k * 3, none⟩ = some (.int .i64 tk) ∧ W.cell? ⟨r1, k * 3 + 1, none⟩ = some (.int .i64 tn) ∧ W.cell? ⟨r1, k * 3 + 2, none⟩ = some (.slice b1 tl d1)) ∧ (W.cell? ⟨r2, k * 3, none⟩ = some (.int .i64 tk) ∧ W.cell? ⟨r2, k * 3 + 1, none⟩ = some (.int .i64 tn) ∧ W.cell? ⟨r2, k * 3 + 2, none⟩ = some (.slice b2 tl d2)) ∧ Calls Tryd.prog 16 #[.agg #[.int .i64 tk, .int .i64 tn, .slice b2 tl d2], .agg #[.int .i64 tk, .int .i64 tn, .slice b1 tl d1]] W fun e w' => e = .returned (.bool true) ∧ Below wr.heap.size wr w') := fun W hW => by
            have hb := btr hBk.out hW
            obtain ⟨q0, q1, q2, qo⟩ := f1 W hb
            obtain ⟨p0, p1, p2, po⟩ := f2 W hb
            refine ⟨⟨q0, q1, q2⟩, ⟨p0, p1, p2⟩, (rSame_c t t _ _ W po qo).mono ?_⟩
            rintro e w' ⟨bb, rfl, hbb, B⟩
            exact ⟨by rw [hbb.2 rfl], btr hW B⟩
          by_cases hkS : (k : Int) < (S : Int)
          · have hkS' : (k : Int) < (S : Int) := by omega
            obtain ⟨r3, cp3, b3, d3, e3, f3⟩ := L3.out.rd (j := k) (t := t) (by rw [List.getElem?_take, if_pos (by omega)]; exact ht)
            simp only [Value.slice.injEq] at e3
            obtain ⟨rfl, -, rfl⟩ := e3
            rw [htl.out, htk.out, htn.out] at f3
            have hf3 : Hid (∀ W, Below wr.heap.size wr W → (W.cell? ⟨r3, k * 3, none⟩ = some (.int .i64 tk) ∧ W.cell? ⟨r3, k * 3 + 1, none⟩ = some (.int .i64 tn) ∧ W.cell? ⟨r3, k * 3 + 2, none⟩ = some (.slice b3 tl d3)) ∧ Calls Tryd.prog 16 #[.agg #[.int .i64 tk, .int .i64 tn, .slice b3 tl d3], .agg #[.int .i64 tk, .int .i64 tn, .slice b1 tl d1]] W fun e w' => e = .returned (.bool true) ∧ Below wr.heap.size wr w') := fun W hW => by
              have hb := btr hBk.out hW
              obtain ⟨q0, q1, q2, qo⟩ := f1 W hb
              obtain ⟨p0, p1, p2, po⟩ := f3 W hb
              refine ⟨⟨p0, p1, p2⟩, (rSame_c t t _ _ W po qo).mono ?_⟩
              rintro e w' ⟨bb, rfl, hbb, B⟩
              exact ⟨by rw [hbb.2 rfl], btr hW B⟩
            clear f1 f2 f3
            go_upto_region 15 with fail
            refine pl15a_reg (tl := tl) (tk := tk) (tn := tn) (b1 := b1) (b2 := b2) (b3 := b3) (d1 := d1) (d2 := d2) (d3 := d3) (r3 := r3) (Z1 := fun W1 => Below wr.heap.size wr W1) (V1 := fun W2 => Below wr.heap.size wr W2) hlt' (show (k : Int) < (S : Int) by omega) ?hS ?hc1 ?hc2 ?hq
            case hS =>
              obtain ⟨⟨v0, v1, v2⟩, ⟨u0, u1, u2⟩, -⟩ := hf12.out wr.drew (Below.refl _ _).drew
              obtain ⟨⟨y0, y1, y2⟩, -⟩ := hf3.out wr.drew (Below.refl _ _).drew
              exact ⟨v0, v1, v2, u0, u1, u2, y0, y1, y2⟩
            case hc1 =>
              refine (hf12.out wr.drew (Below.refl _ _).drew).2.2.mono ?_
              rintro e W1 ⟨rfl, B5⟩
              obtain ⟨⟨v0, v1, v2⟩, ⟨u0, u1, u2⟩, -⟩ := hf12.out W1 B5
              obtain ⟨⟨y0, y1, y2⟩, -⟩ := hf3.out W1 B5
              exact ⟨rfl, ⟨v0, v1, v2, u0, u1, u2, y0, y1, y2⟩, B5⟩
            case hc2 =>
              intro W1 B5
              refine (hf3.out W1 B5).2.mono ?_
              rintro e W2 ⟨rfl, B6⟩
              obtain ⟨⟨v0, v1, v2⟩, ⟨u0, u1, u2⟩, -⟩ := hf12.out W2 B6
              obtain ⟨⟨y0, y1, y2⟩, -⟩ := hf3.out W2 B6
              exact ⟨rfl, ⟨v0, v1, v2, u0, u1, u2, y0, y1, y2⟩, B6⟩
            case hq =>
              intro w6 B6
              have hBn : Hid (Below w4.heap.size w4 w6) := btr hBk.out B6
              clear B6 hf12 hf3
              go_wp2
              go_roundw
              case rel => exact ⟨k + 1, by go_num, by omega, hBn⟩
              case measure => simp [intOf]; omega
          · have hkS' : ¬ (k : Int) < (S : Int) := by omega
            clear f1 f2
            go_upto_region 15 with fail
            refine pl15b_reg (tl := tl) (tk := tk) (tn := tn) (b1 := b1) (b2 := b2) (d1 := d1) (d2 := d2) (Z1 := fun W1 => Below wr.heap.size wr W1) hlt' (show ¬ (k : Int) < (S : Int) by omega) ?hS ?hc1 ?hq
            case hS =>
              obtain ⟨⟨v0, v1, v2⟩, ⟨u0, u1, u2⟩, -⟩ := hf12.out wr.drew (Below.refl _ _).drew
              exact ⟨v0, v1, v2, u0, u1, u2⟩
            case hc1 =>
              refine (hf12.out wr.drew (Below.refl _ _).drew).2.2.mono ?_
              rintro e W1 ⟨rfl, B5⟩
              obtain ⟨⟨v0, v1, v2⟩, ⟨u0, u1, u2⟩, -⟩ := hf12.out W1 B5
              exact ⟨rfl, ⟨v0, v1, v2, u0, u1, u2⟩, B5⟩
            case hq =>
              intro w6 B6
              have hBn : Hid (Below w4.heap.size w4 w6) := btr hBk.out B6
              clear B6 hf12
              go_wp2
              go_roundw
              case rel => exact ⟨k + 1, by go_num, by omega, hBn⟩
              case measure => simp [intOf]; omega
        · have hlt' : decide ((k : Int) < (N : Int)) = false := decide_eq_false (by omega)
          have hE : Hid (Below w.heap.size w wr) := btr hB4.out hBk.out
          go_wp2_with fail
          go_ret
          exact ⟨rfl, hE.out⟩
end Go.Proofs.YtoaccmblaifnmaaDoor
