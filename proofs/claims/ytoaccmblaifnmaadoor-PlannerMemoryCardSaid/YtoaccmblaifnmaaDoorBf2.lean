/-
  The document's planner: All.
-/
import Derived.WalkKit
import Ieee.Arith
import Derived.WalkLawsBesides
import Derived.Laws.FloatArith
import Derived.Test.YtoaccmblaifnmaaDoorProg
import Derived.RegionTactic
import Derived.Outline
import Derived.Lib.Mul64
import Derived.Laws.Bits64b
import Derived.Deep.QuietTactic
import Derived.BigQuiet
import Derived.WalkSmall
import Derived.Deep.CutBlock
import Derived.Deep.DeepCutAuto
import Derived.Laws.Rows
import Derived.Lib.ItoaNum
import Derived.Laws.IdiomStrings
import Derived.Deep.RegionHeld3
import Derived.Lib.SmallJoins
import Derived.Lib.HexFns
import Derived.Test.YtoaccmblaifnmaaDoorRows
import Derived.LaidEql
import Derived.LaidLaws
import Derived.LaidHandle
import Derived.Stop.Joined
import Derived.Deep.RegionWith
import Derived.Recover
import Derived.RegionDies
import Derived.Laws.CopyOwn
import Derived.Lib.AppendIntMem
import Derived.Deep.RegionHeldLaw
import Derived.Maps.AppendAt
import Derived.Laws.OwnMore
import Derived.RangeFuncNested
import Derived.RangeFuncBound
import Derived.RangeFuncCalls
import Derived.RangeFuncLeaves
import Derived.RangeFuncBox
import Derived.Shelf.Abstract
import Derived.Shelf.RegionOpen
import Derived.OwnWalkIn
import Derived.TacticsInMore
import Derived.LoopNIn
import Derived.LoopIn
import Derived.Laws.AppendOwn
import Derived.OwnWalk
import Derived.BigCall
import Derived.Laws.ComplexArith
import Derived.Laws.MakeOwn
import Derived.MapKept
import Derived.Carry
import Derived.ChangeAlike
import Derived.Deep.RegionLaw
import Derived.Defers
import Derived.Deep.AppendSrc
import Derived.Lib.LaidTab
import Derived.LaidSub
import Derived.LaidMore
import Derived.ProofKit
import Derived.Laws.AppendOwnNone
import Derived.Test.YtoaccmblaifnmaaDoorBe5
import Derived.Test.YtoaccmblaifnmaaDoorBf1
namespace Go.Proofs.YtoaccmblaifnmaaDoor
open Flo Go.RowKit Tr
theorem dal {D p : Int} {F : List Int} {fv : Value} {B kb : Nat} {V : Nat → Prop} (gpo : Pl.GP D F p) (hF : F.length ≤ 1000) (hV : ∀ b, V b → b < B) : ∀ (k n : Nat), Pl.Dm p n → Pl.mu p n ≤ k → DAL D p F fv B kb V n := by
  intro k
  induction k with
  | zero => intro n hd hk; have := Pl.mu_pos hd; omega
  | succ k ih => exact fun n hd hk => dal_step gpo hF hV n hd fun m hm hlt => ih m hm (by omega)
set_option maxRecDepth 100000 in
set_option maxHeartbeats 4000000 in
theorem dAll_c {D p : Int} {F : List Int} {V : Nat → Prop} (n : Int) (fv : Value) (w : World) (hF : FlR V w fv F) (hln : F.length ≤ 9223372036854775807) : Calls Tryd.prog 29 #[.int .i64 n, .agg #[.int .i64 D, fv, .int .i64 p]] w fun e w' => ∃ kv ss UU, e = .returned kv ∧ Lrw w.heap.size UU w' kv (alP D p F n) ss ∧ (∀ b, UU b → w.heap.size ≤ b) ∧ Below w.heap.size w w' := by
  obtain ⟨wa, ewa⟩ : ∃ wa, Hid (w.alloc (.cells #[.int .i64 D, fv, .int .i64 p] 45) = wa) := ⟨_, (rfl : _ = _)⟩
  obtain ⟨g, hg⟩ : ∃ g, Hid (w.heap.size = g) := ⟨_, (rfl : _ = _)⟩
  have Ba : Hid (Below w.heap.size w wa) := by show Below _ _ _; rw [← ewa.out]; exact (Below.refl _ _).alloc (Nat.le_refl _) _
  have Xa : Hid (Bp wa g D fv p) := by
    have h := Bp.new w D p fv
    rw [ewa.out, hg.out] at h; exact h
  have hFb : Hid (FlR (fun b => b < g) wa fv F) := by
    have h := hF.kt (T := fun _ => False) (KT.of_below Ba.out) (fun _ (h : False) => h.elim)
    obtain ⟨ao, cap, e, hc⟩ := hF
    obtain ⟨ao2, cap2, e2, hc2⟩ := h
    refine ⟨ao2, cap2, e2, fun i hi => ?_⟩
    obtain ⟨b, off, q1, q2, q3, q4⟩ := hc2 i hi
    obtain ⟨b', off', r1, r2, r3, r4⟩ := hc i hi
    rw [e] at e2
    simp only [Value.slice.injEq] at e2
    rw [r1, q1] at e2
    simp only [Option.some.injEq, Addr.mk.injEq] at e2
    exact ⟨b, off, q1, by rw [← e2.1.1, ← hg.out]; exact r3, q3, q4⟩
  have hlnH : Hid (F.length ≤ 9223372036854775807) := hln
  have x0 := Xa.out.c0
  have x1 := Xa.out.c1
  have x2 := Xa.out.c2
  obtain ⟨RV, hRV⟩ : ∃ z, Hid (alP D p F n = z) := ⟨_, (rfl : _ = _)⟩
  rw [hRV.out]
  have hnil : Hid (∀ w', Below w.heap.size w w' → rfb D p F n = true → ∃ kv ss UU, Ending.returned (.slice none 0 0) = .returned kv ∧ Lrw w.heap.size UU w' kv RV ss ∧ (∀ b, UU b → w.heap.size ≤ b) ∧ Below w.heap.size w w') := fun w' hb hr => by
    have : RV = [] := by rw [← hRV.out]; unfold alP; rw [if_pos hr]
    rw [this]
    exact ⟨_, _, fun _ => False, rfl, Lrw.nil _ _ _, fun b h => h.elim, hb⟩
  obtain ⟨fa, fc, hfv, _⟩ := id hF
  obtain ⟨FL, hFLn⟩ : ∃ z, Hid (F.length = z) := ⟨_, (rfl : _ = _)⟩
  rw [hFLn.out] at hfv
  subst hfv
  clear hF hln
  go_enter Tryd.func29, Tryd.ntmps29
  go_upto_region 1 with fail
  rw [ewa.out, hg.out]
  by_cases h1 : n < 1
  · have hr : Hid (rfb D p F n = true) := by show _ = _; unfold rfb; rw [decide_eq_false (show ¬ 1 ≤ n by omega)]; rfl
    go_wp2_with fail
    go_ret
    obtain ⟨kv, ss, UU, e1, e2⟩ := hnil.out _ Ba.out hr.out
    first
      | exact ⟨kv, ss, UU, e1, e2⟩
      | exact ⟨kv, e1, ss, UU, e2⟩
  · have h1' : decide (n < 1) = false := decide_eq_false h1
    by_cases h2 : 4096 < n
    · have hr : Hid (rfb D p F n = true) := by show _ = _; unfold rfb; rw [decide_eq_false (show ¬ n ≤ 4096 by omega)]; simp
      go_wp2_with fail
      go_ret
      obtain ⟨kv, ss, UU, e1, e2⟩ := hnil.out _ Ba.out hr.out
      first
        | exact ⟨kv, ss, UU, e1, e2⟩
        | exact ⟨kv, e1, ss, UU, e2⟩
    · have h2' : decide (4096 < n) = false := decide_eq_false h2
      go_wp2_with fail
      refine (dcheckP_c _ wa hFb.out hlnH.out).mono ?_
      rintro e w1 ⟨rfl, B1⟩
      have hB1 : Hid (Below w.heap.size w w1) := btr Ba.out B1
      have X1 : Hid (Bp w1 g D (.slice fa FL fc) p) := Xa.out.bel B1
      have hF1 : Hid (FlR (fun b => b < g) w1 (.slice fa FL fc) F) := hFb.out.kt (T := fun _ => False) (KT.of_below B1) (fun _ (h : False) => h.elim)
      clear B1 x0 x1 x2 Xa hFb
      cases hgd : gdP D p F with
      | false =>
        have hr : Hid (rfb D p F n = true) := by show _ = _; unfold rfb; rw [hgd]; simp
        clear hgd
        go_wp2_with fail
        go_ret
        obtain ⟨kv, ss, UU, e1, e2⟩ := hnil.out _ hB1.out hr.out
        first
          | exact ⟨kv, ss, UU, e1, e2⟩
          | exact ⟨kv, e1, ss, UU, e2⟩
      | true =>
        have gpo := gdP_gp hgd
        have hFl := gdP_len hgd
        have hr : Hid (rfb D p F n = false) := by show _ = _; unfold rfb; rw [hgd, decide_eq_true (show 1 ≤ n by omega), decide_eq_true (show n ≤ 4096 by omega)]; rfl
        obtain ⟨N, rfl⟩ : ∃ N : Nat, n = (N : Int) := ⟨n.toNat, by omega⟩
        have hdm : Pl.Dm p N := ⟨by omega, by omega, fun _ => by omega⟩
        obtain ⟨kb, hkb⟩ : ∃ z, Hid (w1.heap.size = z) := ⟨_, (rfl : _ = _)⟩
        have hgk : Hid (g + 1 ≤ kb) := by show _ ≤ _; have := X1.out.lt; have := hkb.out; omega
        obtain ⟨wk, ewk⟩ : ∃ z, Hid (w1.alloc (.cells #[.slice none 0 0, .slice none 0 0, .slice none 0 0] 79) = z) := ⟨_, (rfl : _ = _)⟩
        have Bk : Below w1.heap.size w1 wk := by rw [← ewk.out]; exact (Below.refl _ _).alloc (Nat.le_refl _) _
        have hKS := ks_nil (D := D) (p := p) (F := F) w1
        rw [ewk.out, hkb.out] at hKS
        have hcall := dal (D := D) (p := p) (F := F) (fv := .slice fa FL fc) (B := kb) (kb := kb) (V := fun b => b < g) gpo hFl (fun b hb => by have := hgk.out; omega) (Pl.mu p N) N hdm (Nat.le_refl _) 4096 [] _ _ wk (by decide) (Nat.le_refl _) hKS (hF1.out.kt (T := fun _ => False) (KT.of_below Bk) (fun _ (h : False) => h.elim))
        have hcH : Hid (Calls Tryd.prog 51 #[.pointer (some ⟨kb, 0, none⟩), .int .i64 (N : Int), .agg #[.int .i64 D, .slice fa FL fc, .int .i64 p], .int .i64 4096] wk fun e w2 => ∃ kv ss UU, e = .returned kv ∧ Lrw w.heap.size UU w2 kv RV ss ∧ (∀ b, UU b → w.heap.size ≤ b) ∧ Below w.heap.size w w2) := by
          refine hcall.mono ?_
          rintro e w2 ⟨kv, ss, H', T', U', rfl, k2, m2, l2, n2⟩
          have hgw : w.heap.size = g := hg.out
          have hbk : ∀ b, b < w1.heap.size → w2.heap[b]? = w1.heap[b]? := fun b hb => (m2.kt.block b (Nat.lt_of_lt_of_le hb Bk.size) (fun t => by
            have hb2 : b = kb := by
              rcases t with t | t | t | t
              · exact t
              · cases t
              · cases t
              · cases t
            have := hkb.out
            omega)).trans (Bk.block b hb)
          have B12 : Below w1.heap.size w1 w2 := ⟨m2.kt.os.trans Bk.os, m2.kt.tape.trans Bk.tape, m2.kt.output.trans Bk.output, Nat.le_trans Bk.size m2.kt.size, hbk⟩
          have eR : (Pl.als D F p N).take 4096 = RV := by
            rw [← hRV.out]
            unfold alP
            rw [if_neg (by rw [hr.out]; decide), Int.toNat_natCast]
          rw [eR] at l2
          refine ⟨kv, ss, U', rfl, l2.low (by have := Bk.size; have := hkb.out; have := hgk.out; omega), fun b hb => ?_, btr hB1.out B12⟩
          have := (k2.ult hb).1
          have := hgk.out
          omega
        have x0 := (X1.out.bel Bk).c0
        have x1 := (X1.out.bel Bk).c1
        have x2 := (X1.out.bel Bk).c2
        clear hcall hKS Bk gpo hFl hdm hgd hnil
        rw [← ewk.out] at x0 x1 x2
        go_wp2_with fail
        rw [ewk.out, hkb.out]
        refine hcH.out.mono ?_
        rintro e w2 ⟨kv, ss, UU, rfl, q1, q2, q3⟩
        have hE : Hid (Lrw w.heap.size UU w2 kv RV ss ∧ (∀ b, UU b → w.heap.size ≤ b) ∧ Below w.heap.size w w2) := ⟨q1, q2, q3⟩
        clear q1 q2 q3 hcH x0 x1 x2
        go_wp2_with fail
        go_ret
        exact ⟨_, _, _, rfl, hE.out⟩
end Go.Proofs.YtoaccmblaifnmaaDoor
