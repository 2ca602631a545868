/-
  Package planner: newSearch, refusal, Choose, Usual.
-/
import Derived.Test.YtoaccmblaifnmaaDoorProg
import Derived.WalkKit
import Ieee.Arith
import Derived.WalkLawsBesides
import Derived.Outline
import Derived.Deep.QuietTactic
import Derived.BigQuiet
import Derived.WalkSmall
import Derived.RegionTactic
import Derived.Lib.Mul64
import Derived.Laws.Bits64b
import Derived.Deep.CutBlock
import Derived.Deep.DeepCutAuto
import Derived.Maps.AppendAt
import Derived.Deep.RegionHeld3
import Derived.Deep.RegionWith
import Derived.Laws.OwnMore
import Derived.RangeFuncNested
import Derived.RangeFuncBound
import Derived.RangeFuncCalls
import Derived.RangeFuncLeaves
import Derived.RangeFuncBox
import Derived.Shelf.Abstract
import Derived.Shelf.RegionOpen
import Derived.OwnWalkIn
import Derived.TacticsInMore
import Derived.LoopNIn
import Derived.LoopIn
import Derived.Laws.Rows
import Derived.Lib.ItoaNum
import Derived.Laws.IdiomStrings
import Derived.Lib.SmallJoins
import Derived.Lib.HexFns
import Derived.Test.YtoaccmblaifnmaaDoorRows
import Derived.LaidEql
import Derived.LaidLaws
import Derived.LaidHandle
import Derived.Stop.Joined
import Derived.Recover
import Derived.RegionDies
import Derived.Laws.CopyOwn
import Derived.Lib.AppendIntMem
import Derived.Laws.AppendOwn
import Derived.OwnWalk
import Derived.BigCall
import Derived.Deep.RegionHeldLaw
import Derived.Laws.FloatArith
import Derived.Laws.ComplexArith
import Derived.Laws.MakeOwn
import Derived.MapKept
import Derived.Carry
import Derived.Test.YtoaccmblaifnmaaDoorBd3
namespace Go.Proofs.YtoaccmblaifnmaaDoor
open Flo Go.RowKit Go.Shelf Tr
/-- an order's blocks alone -/
def orow (w : World) (b : Nat) : Prop := ∃ cs fr, w.heap[b]? = some (.cells cs 24 fr)
/-- the search's blocks: its own two, and the policy's -/
def Vs (U : Nat → Prop) (g z : Nat) (b : Nat) : Prop := b = g ∨ b = g + 1 ∨ (U b ∧ b < z)
set_option maxRecDepth 100000 in
set_option maxHeartbeats 2000000 in
theorem newSearch_c {D p : Int} {F : List Int} {V : Nat → Prop} (fv : Value) (w : World) (hF : FlR V w fv F) : Calls Tryd.prog 46 #[.agg #[.int .i64 D, fv, .int .i64 p]] w fun e w' => ∃ g, e = .returned (.pointer (some ⟨g + 1, 0, none⟩)) ∧ w.heap.size ≤ g ∧ Srh D p F (g + 1) g fv (fun _ => True) (Vs V g w.heap.size) w' ∧ Bd (Vs V g w.heap.size) w' ∧ Below w.heap.size w w' := by
  obtain ⟨ao, cap, rfl, hc0⟩ := hF
  obtain ⟨L, hL⟩ : ∃ L, Hid (F.length = L) := ⟨_, (rfl : _ = _)⟩
  rw [hL.out]
  have hmm := @run_makeMap Tryd.prog
  have hb1 : Below w.heap.size w (w.alloc (.cells #[.int .i64 D, .slice ao L cap, .int .i64 p] 45)) := (Below.refl _ w).alloc (Nat.le_refl _) _
  have hb : Hid (Below w.heap.size w (((w.alloc (.cells #[.int .i64 D, .slice ao L cap, .int .i64 p] 45)).alloc (.map #[] 0)).alloc (.cells #[.int .i64 D, .slice ao L cap, .int .i64 p, .map (some (w.heap.size + 1))] 101))) :=
    (hb1.alloc (by simp) _).alloc (by simp; omega) _
  have hm1 : Hid ((((w.alloc (.cells #[.int .i64 D, .slice ao L cap, .int .i64 p] 45)).alloc (.map #[] 0)).alloc (.cells #[.int .i64 D, .slice ao L cap, .int .i64 p, .map (some (w.heap.size + 1))] 101)).heap[w.heap.size + 1]? = some (.map #[] 0)) := by
    show _ = _
    have h1 := heap_alloc_new (w.alloc (.cells #[.int .i64 D, .slice ao L cap, .int .i64 p] 45)) (.map #[] 0)
    rw [World.size_alloc] at h1
    exact (heap_alloc_old _ _ (by simp)).trans h1
  have hm2 : Hid ((((w.alloc (.cells #[.int .i64 D, .slice ao L cap, .int .i64 p] 45)).alloc (.map #[] 0)).alloc (.cells #[.int .i64 D, .slice ao L cap, .int .i64 p, .map (some (w.heap.size + 1))] 101)).heap[w.heap.size + 1 + 1]? = some (.cells #[.int .i64 D, .slice ao L cap, .int .i64 p, .map (some (w.heap.size + 1))] 101 (0, 0))) := by
    show _ = _
    have h1 := heap_alloc_new ((w.alloc (.cells #[.int .i64 D, .slice ao L cap, .int .i64 p] 45)).alloc (.map #[] 0)) (.cells #[.int .i64 D, .slice ao L cap, .int .i64 p, .map (some (w.heap.size + 1))] 101)
    rw [World.size_alloc, World.size_alloc] at h1
    exact h1
  go_enter Tryd.func46, Tryd.ntmps46
  go_wp2
  go_ret
  refine ⟨w.heap.size + 1, rfl, by omega, ⟨hm2.out, .inr (.inl rfl), .inl rfl, ⟨#[], 0, hm1.out, fun e he => by cases he⟩, ⟨ao, cap, by rw [hL.out], fun i hi => ?_⟩⟩, ?_, hb.out⟩
  · obtain ⟨b, off, h1, h2, h3, h4⟩ := hc0 i hi
    exact ⟨b, off, h1, .inr (.inr ⟨h2, h3⟩), Nat.lt_of_lt_of_le h3 hb.out.size, (hb.out.cell (p := ⟨b, off + i, none⟩) h3).trans h4⟩
  · rintro b (rfl | rfl | ⟨_, h⟩)
    · exact blk_lt hm1.out
    · exact blk_lt hm2.out
    · exact Nat.lt_of_lt_of_le h hb.out.size
theorem kt_ge {M : Nat} {w w' : World} (h : KT (fun b => b = M) w w') {n : Nat} (hn : n ≤ w.heap.size) (hM : n ≤ M) : Below n w w' :=
  ⟨h.os, h.tape, h.output, h.size, fun k hk => h.block k (by omega) (by omega)⟩
theorem Os.rows {S S' : Nat → Prop} {w : World} (hs : ∀ b, S b → orow w b → S' b) {t : Tr} : ∀ {v : Value}, Os S w t v → Os S' w t v := by
  refine Tr.ind (P := fun t => ∀ {v : Value}, Os S w t v → Os S' w t v) (fun k n ks ih v h => ?_) t
  rw [os_eq] at h ⊢
  obtain ⟨ao, cap, rfl, hl, hc⟩ := h
  refine ⟨ao, cap, rfl, hl, fun i hi => ?_⟩
  obtain ⟨b, c, s, K, ho⟩ := hc i hi
  exact ⟨b, c, s, ⟨K.at0, hs b K.set ⟨_, _, K.blk⟩, K.blk, K.d0, K.d1, K.d2⟩, ih _ (List.getElem_mem hi) ho⟩
/-- what is refused -/
def rfV (D p : Int) (F : List Int) (aN aR : Addr) (n : Int) : Value := if n < 1 ∨ 4096 < n then ev aN else if gdP D p F = true then .nilIface else ev aR
set_option maxRecDepth 100000 in
set_option maxHeartbeats 2000000 in
theorem refusal_c {D p : Int} {F : List Int} {V : Nat → Prop} (n : Int) (fv : Value) (w : World) (aN aR : Addr) (hF : FlR V w fv F) (hN : w.cell? ⟨4, 0, none⟩ = some (ev aN)) (hR : w.cell? ⟨2, 0, none⟩ = some (ev aR)) (hn : F.length ≤ 9223372036854775807) : Calls Tryd.prog 45 #[.int .i64 n, .agg #[.int .i64 D, fv, .int .i64 p]] w fun e w' => e = .returned (rfV D p F aN aR n) ∧ Below w.heap.size w w' := by
  obtain ⟨wa, ewa⟩ : ∃ wa, Hid (w.alloc (.cells #[.int .i64 D, fv, .int .i64 p] 45) = wa) := ⟨_, (rfl : _ = _)⟩
  have Ba : Below w.heap.size w wa := by rw [← ewa.out]; exact (Below.refl _ _).alloc (Nat.le_refl _) _
  obtain ⟨g, hg⟩ : ∃ g, Hid (w.heap.size = g) := ⟨_, (rfl : _ = _)⟩
  have Xa : Hid (Bp wa g D fv p) := by show Bp _ _ _ _ _; rw [← ewa.out, ← hg.out]; exact Bp.new _ _ _ _
  have hR1 := (Ba.cell (p := ⟨2, 0, none⟩) (cell_lt hR)).trans hR
  have hN1 := (Ba.cell (p := ⟨4, 0, none⟩) (cell_lt hN)).trans hN
  have hFa : FlR V wa fv F := hF.kt (T := fun _ => False) (KT.of_below Ba) (fun _ h => h.elim)
  have BaH : Hid (Below w.heap.size w wa) := Ba
  have hck := pcheck_c (D := D) (p := p) fv wa aR hFa hR1 hn
  obtain ⟨ao, cap, rfl, _⟩ := hF
  rename_i hold
  clear hold hFa hR1 hR Ba hN
  obtain ⟨L, hL⟩ : ∃ L, Hid (F.length = L) := ⟨_, (rfl : _ = _)⟩
  rw [hL.out] at ewa Xa hck ⊢
  unfold ev at hN1
  obtain ⟨R, eR⟩ : ∃ R, Hid (rfV D p F aN aR n = R) := ⟨_, (rfl : _ = _)⟩
  rw [eR.out]
  have x0 := Xa.out.c0
  have x1 := Xa.out.c1
  have x2 := Xa.out.c2
  by_cases h1 : n < 1
  · have e1 : Hid (.iface 160 (.pointer (some aN)) = R) := by show _ = _; rw [← eR.out]; unfold rfV; rw [if_pos (.inl h1)]; rfl
    clear eR
    go_enter Tryd.func45, Tryd.ntmps45
    go_upto_region 1 with fail
    rw [ewa.out, hg.out]
    go_wp2_with fail
    go_ret
    exact ⟨by rw [← e1.out]; rfl, BaH.out⟩
  · by_cases h2 : 4096 < n
    · have e1 : Hid (.iface 160 (.pointer (some aN)) = R) := by show _ = _; rw [← eR.out]; unfold rfV; rw [if_pos (.inr h2)]; rfl
      clear eR
      go_enter Tryd.func45, Tryd.ntmps45
      go_upto_region 1 with fail
      rw [ewa.out, hg.out]
      go_wp2_with fail
      go_ret
      exact ⟨by rw [← e1.out]; rfl, BaH.out⟩
    · have e1 : Hid ((if gdP D p F = true then Value.nilIface else ev aR) = R) := by show _ = _; rw [← eR.out]; unfold rfV; rw [if_neg (show ¬ (n < 1 ∨ 4096 < n) by omega)]
      clear eR
      rw [e1.out] at hck
      go_enter Tryd.func45, Tryd.ntmps45
      go_upto_region 1 with fail
      rw [ewa.out, hg.out]
      go_wp2_with fail
      refine hck.mono ?_
      rintro e w1 ⟨rfl, B1⟩
      have hB : Hid (Below w.heap.size w w1) := btr BaH.out B1
      clear B1 x0 x1 x2
      go_wp2_with fail
      go_ret
      exact ⟨rfl, hB.out⟩
set_option maxRecDepth 100000 in
set_option maxHeartbeats 4000000 in
theorem choose_c {D p : Int} {F : List Int} {V : Nat → Prop} (n : Nat) (fv : Value) (w : World) (aN aR : Addr) (hgd : gdP D p F = true) (hn1 : 1 ≤ n) (hn2 : n ≤ 4096) (hF : FlR V w fv F) (hN : w.cell? ⟨4, 0, none⟩ = some (ev aN)) (hR : w.cell? ⟨2, 0, none⟩ = some (ev aR)) (hV : ∀ b, V b → b < w.heap.size → ¬ orow w b) : Calls Tryd.prog 21 #[.int .i64 (n : Int), .agg #[.int .i64 D, fv, .int .i64 p]] w fun e w' => ∃ v, e = .returned (.tuple #[v, .nilIface]) ∧ Os (fun b => w.heap.size ≤ b) w' (Pl.ch D F p n) v ∧ Below w.heap.size w w' := by
  have gp := gdP_gp hgd
  have hlen : F.length ≤ 5 := by
    have h := hgd
    simp only [gdP, Bool.and_eq_true] at h
    have := rsF_len 0 F h.2 (by omega)
    rw [if_pos (by decide)] at this; omega
  have hdm : Pl.Dm p n := ⟨hn1, by omega, fun _ => by omega⟩
  have hch := chc (h := w.heap.size) (M := w.heap.size) (fv := fv) gp (by omega) n hdm
  obtain ⟨wa, ewa⟩ : ∃ wa, Hid (w.alloc (.cells #[.int .i64 D, fv, .int .i64 p] 45) = wa) := ⟨_, (rfl : _ = _)⟩
  obtain ⟨wb, ewb⟩ : ∃ wb, Hid (wa.alloc (.cells #[.int .i64 0, .int .i64 0, .slice none 0 0] 24) = wb) := ⟨_, (rfl : _ = _)⟩
  obtain ⟨g, hg⟩ : ∃ g, Hid (w.heap.size = g) := ⟨_, (rfl : _ = _)⟩
  have Ba : Below w.heap.size w wa := by rw [← ewa.out]; exact (Below.refl _ _).alloc (Nat.le_refl _) _
  have Bab : Below wa.heap.size wa wb := by rw [← ewb.out]; exact (Below.refl _ _).alloc (Nat.le_refl _) _
  have Bb : Below w.heap.size w wb := btr Ba Bab
  have sa : wa.heap.size = g + 1 := by rw [← ewa.out, ← hg.out]; simp
  have sb : wb.heap.size = g + 2 := by rw [← ewb.out]; simp [sa]
  have Xb : Hid (Bp wb g D fv p) := by
    have h : Bp wa g D fv p := by rw [← ewa.out, ← hg.out]; exact Bp.new _ _ _ _
    exact h.bel Bab
  have Yb : Hid (Bo wb (g + 1) 0 0 (.slice none 0 0)) := by
    have h := Bo.new wa 0 0 (.slice none 0 0)
    rw [ewb.out, sa] at h; exact h
  have hF1 : FlR (fun b => V b ∧ b < w.heap.size) w fv F := by
    obtain ⟨a1, c1, e1, h1⟩ := hF
    exact ⟨a1, c1, e1, fun i hi => by obtain ⟨b, off, k1, k2, k3, k4⟩ := h1 i hi; exact ⟨b, off, k1, ⟨k2, k3⟩, k3, k4⟩⟩
  have hFb : FlR (fun b => V b ∧ b < w.heap.size) wb fv F := hF1.kt (T := fun _ => False) (KT.of_below Bb) (fun _ h => h.elim)
  have hNb := (Bb.cell (p := ⟨4, 0, none⟩) (cell_lt hN)).trans hN
  have hRb := (Bb.cell (p := ⟨2, 0, none⟩) (cell_lt hR)).trans hR
  have hrf := refusal_c (D := D) (p := p) (n : Int) fv wb aN aR hFb hNb hRb (by omega)
  have erf : rfV D p F aN aR n = .nilIface := by unfold rfV; rw [if_neg (by omega), if_pos hgd]
  rw [erf] at hrf
  have BbH : Hid (Below w.heap.size w wb) := Bb
  have hFH : Hid (FlR (fun b => V b ∧ b < w.heap.size) w fv F) := hF1
  have hVH : Hid (∀ b, V b → b < w.heap.size → ¬ orow w b) := hV
  have gpH : Hid (Pl.GP D F p) := gp
  have hdmH : Hid (Pl.Dm p n) := hdm
  have hlenH : Hid (F.length ≤ 5) := hlen
  obtain ⟨ao, cap, rfl, _⟩ := hF
  rename_i hold
  clear hold hF1 hFb hNb hRb hN hR Ba Bab Bb sa erf hgd hch gp hdm hV hn2
  obtain ⟨L, hL⟩ : ∃ L, Hid (F.length = L) := ⟨_, (rfl : _ = _)⟩
  rw [hL.out] at ewa Xb hrf hFH ⊢
  have x0 := Xb.out.c0
  have x1 := Xb.out.c1
  have x2 := Xb.out.c2
  go_enter Tryd.func21, Tryd.ntmps21
  go_upto_region 1 with fail
  rw [ewa.out, ewb.out, hg.out]
  go_wp2_with fail
  refine hrf.mono ?_
  rintro e w1 ⟨rfl, B1⟩
  have hB1 : Hid (Below w.heap.size w w1) := btr BbH.out B1
  have X1 : Hid (Bp w1 g D (.slice ao L cap) p) := Xb.out.bel B1
  have Y1 : Hid (Bo w1 (g + 1) 0 0 (.slice none 0 0)) := Yb.out.bel B1
  have hs1 : Hid (g + 2 ≤ w1.heap.size) := by have := B1.size; rw [sb] at this; exact this
  clear B1 x0 x1 x2 hrf Xb Yb BbH sb
  have x0 := X1.out.c0
  have x1 := X1.out.c1
  have x2 := X1.out.c2
  go_upto_region 4 with fail
  go_wp2_with fail
  refine (newSearch_c (D := D) (p := p) (.slice ao L cap) w1 (hFH.out.kt (T := fun _ => False) (KT.of_below hB1.out) (fun _ h => h.elim))).mono ?_
  rintro e w2 ⟨m, rfl, hm, hS2, hd2, B2⟩
  have hS2H : Hid (Srh D p F (m + 1) m (.slice ao L cap) (fun _ => True) (Vs (fun b => V b ∧ b < w.heap.size) m w1.heap.size) w2) := hS2
  have hd2H : Hid (Bd (Vs (fun b => V b ∧ b < w.heap.size) m w1.heap.size) w2) := hd2
  have hmH : Hid (w1.heap.size ≤ m) := hm
  have hB2 : Hid (Below w.heap.size w w2) := btr hB1.out B2
  have Y2 : Hid (Bo w2 (g + 1) 0 0 (.slice none 0 0)) := Y1.out.bel B2
  have hs2 : Hid (w1.heap.size ≤ w2.heap.size) := B2.size
  clear hS2 hd2 hm B2 x0 x1 x2 X1 Y1
  have hc := chc (D := D) (p := p) (F := F) (h := m + 1) (M := m) (fv := .slice ao L cap) gpH.out (by have := hlenH.out; omega) n hdmH.out _ w2 hS2H.out hd2H.out
  go_wp2_with fail
  refine hc.mono ?_
  rintro e w3 ⟨v, V', rfl, _, _, hnew, hbd, hos, kt⟩
  obtain ⟨av, cv, rfl⟩ := Os.shape hos
  have Y3 : Hid (Bo w3 (g + 1) 0 0 (.slice none 0 0)) := ⟨(kt.block (g + 1) (blk_lt Y2.out.b) (fun e => by have := hmH.out; have := hs1.out; omega)).trans Y2.out.b⟩
  have hB3 : Hid (Below w.heap.size w w3) := hB2.out.trans (kt_ge kt hB2.out.size (by have := hB1.out.size; have := hmH.out; omega))
  have hos2 : Hid (Os (fun b => w.heap.size ≤ b ∧ b ≠ g + 1) w3 (Pl.ch D F p n) (.agg #[.int .i64 (Pl.ch D F p n).k, .int .i64 (Pl.ch D F p n).n, .slice av (Pl.ch D F p n).ks.length cv])) := by
    refine Os.rows (fun b hb hr => ?_) hos
    have hw1 := hB1.out.size
    have hm1 := hmH.out
    have hg1 := hg.out
    have hz := hs1.out
    have hz2 := hs2.out
    rcases hnew b hb with (rfl | rfl | ⟨⟨h1, h2⟩, h3⟩) | h
    · exact ⟨by omega, by omega⟩
    · exact ⟨by omega, by omega⟩
    · obtain ⟨cs, fr, hq⟩ := hr
      exact absurd ⟨cs, fr, by rw [← hB3.out.block b h2]; exact hq⟩ (hVH.out b h1 h2)
    · exact ⟨by omega, by omega⟩
  clear hc hnew hbd hos kt Y2 hS2H hd2H
  obtain ⟨t, et⟩ : ∃ t, Hid (Pl.ch D F p n = t) := ⟨_, (rfl : _ = _)⟩
  rw [et.out] at hos2 ⊢
  obtain ⟨tk, htk⟩ : ∃ z, Hid (t.k = z) := ⟨_, (rfl : _ = _)⟩
  obtain ⟨tn, htn⟩ : ∃ z, Hid (t.n = z) := ⟨_, (rfl : _ = _)⟩
  obtain ⟨tl, htl⟩ : ∃ z, Hid (t.ks.length = z) := ⟨_, (rfl : _ = _)⟩
  rw [htk.out, htn.out, htl.out] at hos2
  rw [htk.out, htn.out, htl.out]
  have y0 := Y3.out.c0
  have y1 := Y3.out.c1
  have y2 := Y3.out.c2
  have yf0 := Y3.out.fz 0
  have yf1 := Y3.out.fz 1
  have yf2 := Y3.out.fz 2
  go_wp2_with fail
  obtain ⟨w4, ew4⟩ : ∃ w4, Hid (((w3.setCell ⟨g + 1, 0, none⟩ (.int .i64 tk)).setCell ⟨g + 1, 1, none⟩ (.int .i64 tn)).setCell ⟨g + 1, 2, none⟩ (.slice av tl cv) = w4) := ⟨_, (rfl : _ = _)⟩
  rw [ew4.out]
  have q0 : w4.cell? ⟨g + 1, 0, none⟩ = some (.int .i64 tk) := by
    rw [← ew4.out, World.cell?_setCell_other _ _ _ _ (by simp), World.cell?_setCell_other _ _ _ _ (by simp)]
    exact World.cell?_setCell_same' _ _ _ (by rw [y0]; rfl)
  have q1 : w4.cell? ⟨g + 1, 1, none⟩ = some (.int .i64 tn) := by
    rw [← ew4.out, World.cell?_setCell_other _ _ _ _ (by simp)]
    exact World.cell?_setCell_same' _ _ _ (by rw [World.cell?_setCell_other _ _ _ _ (by simp), y1]; rfl)
  have q2 : w4.cell? ⟨g + 1, 2, none⟩ = some (.slice av tl cv) := by
    rw [← ew4.out]
    exact World.cell?_setCell_same' _ _ _ (by rw [World.cell?_setCell_other _ _ _ _ (by simp), World.cell?_setCell_other _ _ _ _ (by simp), y2]; rfl)
  refine bodyPost_ret (v := .tuple #[.agg #[.int .i64 tk, .int .i64 tn, .slice av tl cv], .nilIface]) (by simp [results, Tryd.results21, go_sem, q0, q1, q2]) rfl ?_
  have hg1 : w.heap.size = g := hg.out
  have hB4 : Below w.heap.size w w4 := by
    rw [← ew4.out]
    exact ((hB3.out.setCell (p := ⟨g + 1, 0, none⟩) (by show _ ≤ g + 1; omega) _).setCell (p := ⟨g + 1, 1, none⟩) (by show _ ≤ g + 1; omega) _).setCell (p := ⟨g + 1, 2, none⟩) (by show _ ≤ g + 1; omega) _
  refine ⟨_, rfl, ?_, hB4⟩
  rw [et.out]
  exact Os.keep (fun b hb => hb.1) (fun b hb hl => by rw [← ew4.out]; exact st3_blk w3 (g + 1) tk tn _ hb.2) _ _ hos2.out
set_option maxRecDepth 100000 in
set_option maxHeartbeats 4000000 in
theorem usual_c (w : World) : Calls Tryd.prog 27 #[] w fun e w' => ∃ b, e = .returned (.agg #[.int .i64 16, .slice (some ⟨b, 0, none⟩) 4 4, .int .i64 13]) ∧ w.heap.size ≤ b ∧ w'.heap[b]? = some (.cells #[.int .i64 2, .int .i64 3, .int .i64 4, .int .i64 5] 3 (0, 0)) ∧ Below w.heap.size w w' := by
  obtain ⟨wa, ewa⟩ : ∃ wa, Hid (w.alloc (.cells #[.int .i64 0, .slice none 0 0, .int .i64 0] 45) = wa) := ⟨_, (rfl : _ = _)⟩
  obtain ⟨g, hg⟩ : ∃ g, Hid (w.heap.size = g) := ⟨_, (rfl : _ = _)⟩
  have Ba : Hid (Below w.heap.size w wa) := by show Below _ _ _; rw [← ewa.out]; exact (Below.refl _ _).alloc (Nat.le_refl _) _
  have Xa : Hid (Bp wa g 0 (.slice none 0 0) 0) := by show Bp _ _ _ _ _; rw [← ewa.out, ← hg.out]; exact Bp.new _ _ _ _
  go_enter Tryd.func27, Tryd.ntmps27
  go_upto_region 1 with fail
  rw [ewa.out, hg.out]
  have B2 : Hid (Below wa.heap.size wa (wa.alloc (.cells #[.int .i64 2, .int .i64 3, .int .i64 4, .int .i64 5] 3))) := (Below.refl _ _).alloc (Nat.le_refl _) _
  have X2 : Hid (Bp (wa.alloc (.cells #[.int .i64 2, .int .i64 3, .int .i64 4, .int .i64 5] 3)) g 0 (.slice none 0 0) 0) := Xa.out.bel B2.out
  have y0 := X2.out.c0
  have y1 := X2.out.c1
  have y2 := X2.out.c2
  have yf0 := X2.out.fz 0
  have yf1 := X2.out.fz 1
  have yf2 := X2.out.fz 2
  go_wp2_with fail
  obtain ⟨b, hb⟩ : ∃ b, Hid (wa.heap.size = b) := ⟨_, (rfl : _ = _)⟩
  obtain ⟨wc, ewc⟩ : ∃ wc, Hid (wa.alloc (.cells #[.int .i64 2, .int .i64 3, .int .i64 4, .int .i64 5] 3) = wc) := ⟨_, (rfl : _ = _)⟩
  have hbn : Hid (wc.heap[b]? = some (.cells #[.int .i64 2, .int .i64 3, .int .i64 4, .int .i64 5] 3 (0, 0))) := by show _ = _; rw [← ewc.out, ← hb.out]; exact heap_alloc_new _ _
  have hbw : Hid (Below w.heap.size w wc) := by show Below _ _ _; rw [← ewc.out]; exact btr Ba.out B2.out
  have hbg : Hid (g + 1 = b) := by show _ = _; rw [← hb.out, ← ewa.out, ← hg.out]; simp
  rw [hb.out, ewc.out]
  rw [ewc.out] at y0 y1 y2
  obtain ⟨w4, ew4⟩ : ∃ w4, Hid (((wc.setCell ⟨g, 0, none⟩ (.int .i64 16)).setCell ⟨g, 1, none⟩ (.slice (some ⟨b, 0, none⟩) 4 4)).setCell ⟨g, 2, none⟩ (.int .i64 13) = w4) := ⟨_, (rfl : _ = _)⟩
  rw [ew4.out]
  have q0 : w4.cell? ⟨g, 0, none⟩ = some (.int .i64 16) := by
    rw [← ew4.out, World.cell?_setCell_other _ _ _ _ (by simp), World.cell?_setCell_other _ _ _ _ (by simp)]
    exact World.cell?_setCell_same' _ _ _ (by rw [y0]; rfl)
  have q1 : w4.cell? ⟨g, 1, none⟩ = some (.slice (some ⟨b, 0, none⟩) 4 4) := by
    rw [← ew4.out, World.cell?_setCell_other _ _ _ _ (by simp)]
    exact World.cell?_setCell_same' _ _ _ (by rw [World.cell?_setCell_other _ _ _ _ (by simp), y1]; rfl)
  have q2 : w4.cell? ⟨g, 2, none⟩ = some (.int .i64 13) := by
    rw [← ew4.out]
    exact World.cell?_setCell_same' _ _ _ (by rw [World.cell?_setCell_other _ _ _ _ (by simp), World.cell?_setCell_other _ _ _ _ (by simp), y2]; rfl)
  refine bodyPost_ret (v := .agg #[.int .i64 16, .slice (some ⟨b, 0, none⟩) 4 4, .int .i64 13]) (by simp [results, Tryd.results27, go_sem, q0, q1, q2]) rfl ?_
  have hg1 : w.heap.size = g := hg.out
  have hbg1 := hbg.out
  refine ⟨b, rfl, by omega, ?_, ?_⟩
  · rw [← ew4.out, sc_blk _ _ _ (by show b ≠ g; omega), sc_blk _ _ _ (by show b ≠ g; omega), sc_blk _ _ _ (by show b ≠ g; omega)]
    exact hbn.out
  · rw [← ew4.out]
    exact ((hbw.out.setCell (p := ⟨g, 0, none⟩) (by show _ ≤ g; omega) _).setCell (p := ⟨g, 1, none⟩) (by show _ ≤ g; omega) _).setCell (p := ⟨g, 2, none⟩) (by show _ ≤ g; omega) _
/-- the usual policy's butterflies -/
theorem usual_fl {w : World} {b : Nat} (h : w.heap[b]? = some (.cells #[.int .i64 2, .int .i64 3, .int .i64 4, .int .i64 5] 3 (0, 0))) : FlR (fun x => x = b) w (.slice (some ⟨b, 0, none⟩) 4 4) [2, 3, 4, 5] := by
  refine ⟨_, _, rfl, fun i hi => ⟨b, 0, rfl, rfl, blk_lt h, ?_⟩⟩
  rw [Joins.cell_of_block h]
  match i, hi with
  | 0, _ => rfl
  | 1, _ => rfl
  | 2, _ => rfl
  | 3, _ => rfl
theorem int_norow {w : World} {b : Nat} {cs : Array Value} {fr : Nat × Nat} (h : w.heap[b]? = some (.cells cs 3 fr)) : ¬ orow w b := fun ⟨c2, f2, e⟩ => by
  rw [h] at e
  injection e with e
  injection e with _ e _
  exact absurd e (by decide)
end Go.Proofs.YtoaccmblaifnmaaDoor
