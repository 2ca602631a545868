/-
  What PlannerLists and its fellows rest on, joined: Pnj Pnk.
-/
import Derived.Test.YtoaccmblaifnmaaDoorProg
import Derived.WalkKit
import Ieee.Arith
import Derived.WalkLawsBesides
import Derived.Outline
import Derived.Deep.QuietTactic
import Derived.BigQuiet
import Derived.WalkSmall
import Derived.RegionTactic
import Derived.Lib.Mul64
import Derived.Laws.Bits64b
import Derived.Deep.CutBlock
import Derived.Deep.DeepCutAuto
import Derived.Maps.AppendAt
import Derived.Deep.RegionHeld3
import Derived.Deep.RegionWith
import Derived.Laws.OwnMore
import Derived.RangeFuncNested
import Derived.RangeFuncBound
import Derived.RangeFuncCalls
import Derived.RangeFuncLeaves
import Derived.RangeFuncBox
import Derived.Shelf.Abstract
import Derived.Shelf.RegionOpen
import Derived.OwnWalkIn
import Derived.TacticsInMore
import Derived.LoopNIn
import Derived.LoopIn
import Derived.Laws.Rows
import Derived.Lib.ItoaNum
import Derived.Laws.IdiomStrings
import Derived.Lib.SmallJoins
import Derived.Lib.HexFns
import Derived.Test.YtoaccmblaifnmaaDoorRows
import Derived.LaidEql
import Derived.LaidLaws
import Derived.LaidHandle
import Derived.Stop.Joined
import Derived.Recover
import Derived.RegionDies
import Derived.Laws.CopyOwn
import Derived.Lib.AppendIntMem
import Derived.Laws.AppendOwn
import Derived.OwnWalk
import Derived.BigCall
import Derived.Deep.RegionHeldLaw
import Derived.Laws.FloatArith
import Derived.Laws.ComplexArith
import Derived.Laws.MakeOwn
import Derived.MapKept
import Derived.Carry
import Derived.Test.YtoaccmblaifnmaaDoorBd2
namespace Go.Proofs.YtoaccmblaifnmaaDoor
open Flo Go.RowKit Go.Shelf Tr
theorem chc_all {D p : Int} {F : List Int} {h M : Nat} {fv : Value} (gp : Pl.GP D F p) (hF : F.length ≤ 1000) : ∀ (k n : Nat) (Kn : Nat → Prop), Pl.Dm p n → Pl.mu p n ≤ k → (∀ m, Pl.Dm p m → Pl.mu p m ≤ Pl.mu p n → Kn m) → CHC D p F h M fv Kn n := by
  intro k
  induction k with
  | zero =>
    intro n Kn hd hk
    have := hd.1
    unfold Pl.mu at hk
    split at hk <;> omega
  | succ k ih =>
    intro n Kn hd hk hKn
    exact cheapest_step gp hF hd (hKn n hd (Nat.le_refl _)) fun q d1 d2 => ih q _ d1 (by omega) fun m d3 d4 => ⟨hKn m d3 (by omega), fun e => by subst e; omega⟩
theorem chc {D p : Int} {F : List Int} {h M : Nat} {fv : Value} (gp : Pl.GP D F p) (hF : F.length ≤ 1000) (n : Nat) (hd : Pl.Dm p n) : CHC D p F h M fv (fun _ => True) n := chc_all gp hF _ n _ hd (Nat.le_refl _) fun _ _ _ => trivial
end Go.Proofs.YtoaccmblaifnmaaDoor
namespace Go.Proofs.YtoaccmblaifnmaaDoor
open Flo Go.RowKit Go.Shelf Tr
theorem cke_pos {aO : Addr} {t : Tr} (h : len t = 0) : cke aO t = ev aO := by unfold cke; rw [if_pos h]
theorem cke_neg {aO : Addr} {t : Tr} (h : len t ≠ 0) : cke aO t = .nilIface := by unfold cke; rw [if_neg h]
/-- Cost's answer -/
def coV (t : Tr) : Nat := if len t = 0 then 0 else if 4611686018427387904 < Pl.tcs t then 0 else Pl.tcs t
def coE (aL aO : Addr) (t : Tr) : Value := if len t = 0 then ev aO else if 4611686018427387904 < Pl.tcs t then ev aL else .nilIface
set_option maxRecDepth 100000 in
set_option maxHeartbeats 4000000 in
theorem pcost_c (t : Tr) (v : Value) (w : World) (aL aO : Addr) (ho : Od w t v) (hL : w.cell? ⟨1, 0, none⟩ = some (ev aL)) (hO : w.cell? ⟨0, 0, none⟩ = some (ev aO)) : Calls Tryd.prog 31 #[v] w fun e w' => e = .returned (.tuple #[.int .i64 (coV t : Int), coE aL aO t]) ∧ Below w.heap.size w w' := by
  obtain ⟨k, n, ks⟩ := t
  obtain ⟨ao, cap, rfl, _, _⟩ := ho.kds
  obtain ⟨L, hL0⟩ : ∃ L, Hid (ks.length = L) := ⟨_, (rfl : _ = _)⟩
  obtain ⟨t, ht⟩ : ∃ t, Hid (Tr.mk k n ks = t) := ⟨_, (rfl : _ = _)⟩
  rw [hL0.out, ht.out] at ho
  rw [hL0.out, ht.out]
  obtain ⟨wa, ewa⟩ : ∃ wa, Hid (w.alloc (.cells #[.int .i64 k, .int .i64 n, .slice ao L cap] 24) = wa) := ⟨_, (rfl : _ = _)⟩
  have Ba : Below w.heap.size w wa := by rw [← ewa.out]; exact (Below.refl _ _).alloc (Nat.le_refl _) _
  obtain ⟨g, hg⟩ : ∃ g, Hid (w.heap.size = g) := ⟨_, (rfl : _ = _)⟩
  have Xa : Hid (Bo wa g k n (.slice ao L cap)) := by show Bo _ _ _ _ _; rw [← ewa.out, ← hg.out]; exact Bo.new _ _ _ _
  have hoa : Hid (Od wa t (.agg #[.int .i64 k, .int .i64 n, .slice ao L cap])) := Od.below Ba _ _ ho
  have hOa : wa.cell? ⟨0, 0, none⟩ = some (ev aO) := (Ba.cell (p := ⟨0, 0, none⟩) (cell_lt hO)).trans hO
  have hLa : Hid (wa.cell? ⟨1, 0, none⟩ = some (ev aL)) := (Ba.cell (p := ⟨1, 0, none⟩) (cell_lt hL)).trans hL
  have BaH : Hid (Below w.heap.size w wa) := Ba
  have ck := check_c t _ wa aO hoa.out hOa
  clear ho hO hL Ba hOa
  have x0 := Xa.out.c0
  have x1 := Xa.out.c1
  have x2 := Xa.out.c2
  by_cases h0 : len t = 0
  · rw [cke_pos h0] at ck
    have eV : Hid ((.tuple #[.int .i64 0, ev aO] : Value) = .tuple #[.int .i64 (coV t : Int), coE aL aO t]) := by
      show _ = _
      unfold coV coE
      rw [if_pos h0, if_pos h0]; rfl
    clear h0
    go_enter Tryd.func31, Tryd.ntmps31
    go_upto_region 1 with fail
    rw [ewa.out, hg.out]
    go_wp2_with fail
    refine ck.mono ?_
    rintro e w1 ⟨rfl, B1⟩
    have hB : Hid (Below w.heap.size w w1) := btr BaH.out B1
    unfold ev at eV ⊢
    clear B1
    go_wp2_with fail
    go_ret2
    exact ⟨by rw [← eV.out]; rfl, hB.out⟩
  · rw [cke_neg h0] at ck
    have hln : 0 < ln t := by
      unfold len at h0
      split at h0
      · omega
      · exact absurd rfl h0
    obtain ⟨C, hC⟩ : ∃ C, Hid (Pl.tcs t = C) := ⟨_, (rfl : _ = _)⟩
    have hms : Hid (∀ W, Below wa.heap.size wa W → Calls Tryd.prog 52 #[.agg #[.int .i64 k, .int .i64 n, .slice ao L cap]] W fun e w' => e = .returned (.agg #[.int .i64 (ln t : Int), .int .i64 (C : Int)]) ∧ Below W.heap.size W w') := fun W hb => by
      have := measure_c t _ W (Od.below hb _ _ hoa.out) hln
      rw [hC.out] at this
      exact this
    have hCm : C ≤ 4611686018427387905 := by rw [← hC.out]; unfold Pl.tcs Pl.tm; omega
    have eV : Hid ((if 4611686018427387904 < C then (.tuple #[.int .i64 0, ev aL] : Value) else .tuple #[.int .i64 (C : Int), .nilIface]) = .tuple #[.int .i64 (coV t : Int), coE aL aO t]) := by
      show _ = _
      unfold coV coE
      rw [if_neg h0, if_neg h0, hC.out]
      split <;> rfl
    clear h0 hln
    generalize ln t = N at *
    go_enter Tryd.func31, Tryd.ntmps31
    go_upto_region 1 with fail
    rw [ewa.out, hg.out]
    go_wp2_with fail
    refine ck.mono ?_
    rintro e w1 ⟨rfl, B1⟩
    have hB : Hid (Below w.heap.size w w1) := btr BaH.out B1
    have hX1 : Hid (Bo w1 g k n (.slice ao L cap)) := Xa.out.bel B1
    have hm := hms.out w1 B1
    have hL1 : Hid (w1.cell? ⟨1, 0, none⟩ = some (ev aL)) := (B1.cell (p := ⟨1, 0, none⟩) (cell_lt hLa.out)).trans hLa.out
    clear B1 x0 x1 x2 ck hms hLa
    have x0 := hX1.out.c0
    have x1 := hX1.out.c1
    have x2 := hX1.out.c2
    go_wp2_with fail
    refine hm.mono ?_
    rintro e w2 ⟨rfl, B2⟩
    have ef : (Instr.field 85 (.agg #[.int .i64 (N : Int), .int .i64 (C : Int)]) 1).run Tryd.prog w2 = .ok (.int .i64 (C : Int)) w2 := by kernel_rfl
    have hB2 : Hid (Below w.heap.size w w2) := btr hB.out B2
    have hL2 : w2.cell? ⟨1, 0, none⟩ = some (ev aL) := (B2.cell (p := ⟨1, 0, none⟩) (cell_lt hL1.out)).trans hL1.out
    have hsz : Hid (1 < w2.heap.size) := cell_lt hL2
    clear B2 x0 x1 x2 hm hL1 hX1 Xa hoa
    by_cases hc : 4611686018427387904 < C
    · have eV2 : Hid ((.tuple #[.int .i64 0, ev aL] : Value) = .tuple #[.int .i64 (coV t : Int), coE aL aO t]) := by
        have := eV.out
        rw [if_pos hc] at this
        exact this
      have hc1 : (C : Int) > 4611686018427387904 := by omega
      clear eV hC
      unfold ev at hL2
      have hB3 : Hid (Below w.heap.size w w2.drew) := hB2.out.drew
      go_wp2_with fail
      go_quiet (fail)
      go_wp2_with fail
      go_ret2
      exact ⟨by rw [← eV2.out]; rfl, below_drewN hB2.out _⟩
    · have eV2 : Hid ((.tuple #[.int .i64 (C : Int), .nilIface] : Value) = .tuple #[.int .i64 (coV t : Int), coE aL aO t]) := by
        have := eV.out
        rw [if_neg hc] at this
        exact this
      have hc1 : ¬ 4611686018427387904 < (C : Int) := by omega
      clear eV hC
      go_wp2_with fail
      go_ret2
      exact ⟨by rw [← eV2.out]; rfl, hB2.out⟩
set_option maxHeartbeats 400000 in
theorem has_c (n : Int) (w : World) : Calls Tryd.prog 50 #[.int .i64 n] w fun e w' => e = .returned (.bool (decide (2 ≤ n) && decide (n ≤ 5))) ∧ w = w' := by
  go_enter Tryd.func50, Tryd.ntmps50
  by_cases h : 2 ≤ n
  · have e : Hid ((decide (2 ≤ n) && decide (n ≤ 5)) = decide (n ≤ 5)) := by show _ = _; simp [h]
    rw [e.out]
    clear e
    go_wp2
    go_ret
    exact ⟨rfl, rfl⟩
  · have e : Hid ((decide (2 ≤ n) && decide (n ≤ 5)) = false) := by show _ = _; simp [h]
    rw [e.out]
    clear e
    go_wp2
    go_ret
    exact ⟨rfl, rfl⟩


/-- do the sizes of butterflies rise from a number on, all from 2 to 5? -/
def rsF : Int → List Int → Bool
  | _, [] => true
  | l, f :: fs => decide (2 ≤ f) && decide (f ≤ 5) && decide (l < f) && rsF f fs
def gdP (D p : Int) (F : List Int) : Bool := decide (2 ≤ D) && decide (D ≤ 64) && decide (2 ≤ p) && decide (p ≤ D) && rsF 0 F
theorem rsF_mem : ∀ (l : Int) (F : List Int), rsF l F = true → ∀ f ∈ F, 2 ≤ f ∧ f ≤ 5
  | _, [], _, f, hf => by cases hf
  | l, x :: F, h, f, hf => by
    simp only [rsF, Bool.and_eq_true, decide_eq_true_eq] at h
    rcases List.mem_cons.1 hf with rfl | hf
    · exact ⟨h.1.1.1, h.1.1.2⟩
    · exact rsF_mem x F h.2 f hf
theorem gdP_gp {D p : Int} {F : List Int} (h : gdP D p F = true) : Pl.GP D F p := by
  simp only [gdP, Bool.and_eq_true, decide_eq_true_eq] at h
  exact ⟨h.1.1.2, h.1.2, h.1.1.1.2, rsF_mem _ _ h.2⟩
theorem rsF_len : ∀ (l : Int) (F : List Int), rsF l F = true → 0 ≤ l → (F.length : Int) ≤ if l < 5 then 5 - l else 0
  | l, [], _, _ => by simp; split <;> omega
  | l, x :: F, h, h0 => by
    simp only [rsF, Bool.and_eq_true, decide_eq_true_eq] at h
    have := rsF_len x F h.2 (by omega)
    simp only [List.length_cons]
    split at this <;> split <;> omega
/-- a policy's variable -/
structure Bp (w : World) (b : Nat) (D : Int) (f : Value) (p : Int) : Prop where
  b : w.heap[b]? = some (.cells #[.int .i64 D, f, .int .i64 p] 45 (0, 0))
namespace Bp
variable {w w' : World} {b : Nat} {D p : Int} {f : Value}
theorem c0 (h : Bp w b D f p) : w.cell? ⟨b, 0, none⟩ = some (.int .i64 D) := by rw [Joins.cell_of_block h.b]; rfl
theorem c1 (h : Bp w b D f p) : w.cell? ⟨b, 1, none⟩ = some f := by rw [Joins.cell_of_block h.b]; rfl
theorem c2 (h : Bp w b D f p) : w.cell? ⟨b, 2, none⟩ = some (.int .i64 p) := by rw [Joins.cell_of_block h.b]; rfl
theorem fz (h : Bp w b D f p) (i : Nat) : w.frozen? ⟨b, i, none⟩ = false := Joins.unfrozen_of_block h.b i
theorem lt (h : Bp w b D f p) : b < w.heap.size := blk_lt h.b
theorem new (w : World) (D p : Int) (f : Value) : Bp (w.alloc (.cells #[.int .i64 D, f, .int .i64 p] 45)) w.heap.size D f p := ⟨heap_alloc_new _ _⟩
theorem bel (h : Bp w b D f p) (hb : Below w.heap.size w w') : Bp w' b D f p := ⟨(hb.block b h.lt).trans h.b⟩
end Bp
set_option maxRecDepth 100000 in
set_option maxHeartbeats 4000000 in
theorem pcheck_c {D p : Int} {F : List Int} {V : Nat → Prop} (fv : Value) (w : World) (aR : Addr) (hF : FlR V w fv F) (hR : w.cell? ⟨2, 0, none⟩ = some (ev aR)) (hn : F.length ≤ 9223372036854775807) : Calls Tryd.prog 25 #[.agg #[.int .i64 D, fv, .int .i64 p]] w fun e w' => e = .returned (if gdP D p F then .nilIface else ev aR) ∧ Below w.heap.size w w' := by
  obtain ⟨ao, cap, rfl, _⟩ := hF
  obtain ⟨wa, ewa⟩ : ∃ wa, Hid (w.alloc (.cells #[.int .i64 D, .slice ao F.length cap, .int .i64 p] 45) = wa) := ⟨_, (rfl : _ = _)⟩
  have Ba : Below w.heap.size w wa := by rw [← ewa.out]; exact (Below.refl _ _).alloc (Nat.le_refl _) _
  obtain ⟨g, hg⟩ : ∃ g, Hid (w.heap.size = g) := ⟨_, (rfl : _ = _)⟩
  have Xa : Hid (Bp wa g D (.slice ao F.length cap) p) := by show Bp _ _ _ _ _; rw [← ewa.out, ← hg.out]; exact Bp.new _ _ _ _
  have hR1 : wa.cell? ⟨2, 0, none⟩ = some (ev aR) := (Ba.cell (p := ⟨2, 0, none⟩) (cell_lt hR)).trans hR
  have BaH : Hid (Below w.heap.size w wa) := Ba
  have hFa : Hid (FlR V wa (.slice ao F.length cap) F) := by
    obtain hF : FlR V w (.slice ao F.length cap) F := ⟨ao, cap, rfl, by assumption⟩
    exact hF.kt (T := fun _ => False) (KT.of_below Ba) (fun _ h => h.elim)
  obtain ⟨L, hL⟩ : ∃ L, Hid (F.length = L) := ⟨_, (rfl : _ = _)⟩
  clear hR Ba
  rename_i hold
  clear hold
  have x0 := Xa.out.c0
  have x1 := Xa.out.c1
  have x2 := Xa.out.c2
  rw [hL.out] at x1 hn ewa hFa ⊢
  unfold ev at hR1
  obtain ⟨R, eR⟩ : ∃ R, Hid ((if gdP D p F = true then Value.nilIface else ev aR) = R) := ⟨_, (rfl : _ = _)⟩
  rw [eR.out]
  by_cases hh : 2 ≤ D ∧ D ≤ 64 ∧ 2 ≤ p ∧ p ≤ D
  · have c1 : ¬ D < 2 := by omega
    have c2 : ¬ 64 < D := by omega
    have c3 : ¬ p < 2 := by omega
    have c4 : ¬ D < p := by omega
    have eG : Hid (gdP D p F = rsF 0 F) := by
      show _ = _
      unfold gdP
      simp [hh.1, hh.2.1, hh.2.2.1, hh.2.2.2]
    clear hh
    go_enter Tryd.func25, Tryd.ntmps25
    go_upto_region 1 with fail
    rw [ewa.out, hg.out]
    go_wp2_with fail
    go_loopw [3, 30] (fun sl si wx => ∃ (i : Nat) (l : Int), i ≤ L ∧ sl = .int .i64 l ∧ si = .int .i64 (i : Int) ∧ Hid (rsF 0 F = rsF l (F.drop i)) ∧ wx = wa) (fun _ si _ => L - (intOf si).toNat)
    case atStart => exact ⟨0, 0, Nat.zero_le _, rfl, rfl, rfl, rfl⟩
    case round =>
      obtain ⟨i, l, hi, rfl, rfl, hq, rfl⟩ := hrel
      by_cases hlt : i < L
      · have hlt' : (i : Int) < (L : Int) := by omega
        have hlt2 : i < F.length := by rw [hL.out]; exact hlt
        obtain ⟨ao', cap', e0, hc0⟩ := hFa.out
        obtain ⟨b, off, rfl, _, _, k0⟩ := hc0 i hlt2
        simp only [Value.slice.injEq] at e0
        obtain ⟨rfl, -, rfl⟩ := e0
        have ed : Hid (F.drop i = F.getD i 0 :: F.drop (i + 1)) := by
          show _ = _
          rw [List.drop_eq_getElem_cons hlt2, List.getD_eq_getElem?_getD, List.getElem?_eq_getElem hlt2]; rfl
        clear hc0 hlt2
        generalize F.getD i 0 = fi at *
        have hq2 : Hid (rsF 0 F = (decide (2 ≤ fi) && decide (fi ≤ 5) && decide (l < fi) && rsF fi (F.drop (i + 1)))) := by
          show _ = _
          rw [hq.out, ed.out]; rfl
        have hh := fun W => has_c fi W
        by_cases hf : (2 ≤ fi ∧ fi ≤ 5)
        · have e1 : (decide (2 ≤ fi) && decide (fi ≤ 5)) = true := by simp [hf.1, hf.2]
          rw [e1] at hh
          by_cases hl : l < fi
          · have hl2 : ¬ fi ≤ l := by omega
            have hq3 : Hid (rsF 0 F = rsF fi (F.drop (i + 1))) := by
              show _ = _
              rw [hq2.out, e1]; simp [hl]
            clear e1 hf hq hq2 ed
            go_wp2_with (go_at_call 50; refine (hh _).mono ?_; rintro e w' ⟨rfl, rfl⟩)
            go_roundw
            case rel => exact ⟨i + 1, fi, by omega, rfl, by go_num, hq3, by trivial⟩
            case measure => simp [intOf]; omega
          · have hl2 : fi ≤ l := by omega
            have hq3 : Hid (rsF 0 F = false) := by
              show _ = _
              rw [hq2.out]; simp [hl]
            clear e1 hf hq hq2 ed
            go_wp2_with (go_at_call 50; refine (hh _).mono ?_; rintro e w' ⟨rfl, rfl⟩)
            go_ret
            exact ⟨by rw [← eR.out, eG.out, hq3.out]; rfl, BaH.out⟩
        · have e1 : (decide (2 ≤ fi) && decide (fi ≤ 5)) = false := by
            by_cases h2 : 2 ≤ fi
            · have : ¬ fi ≤ 5 := fun h => hf ⟨h2, h⟩
              simp [this]
            · simp [h2]
          rw [e1] at hh
          have hq3 : Hid (rsF 0 F = false) := by
            show _ = _
            rw [hq2.out, e1]; rfl
          clear e1 hf hq hq2 ed
          go_wp2_with (go_at_call 50; refine (hh _).mono ?_; rintro e w' ⟨rfl, rfl⟩)
          go_ret
          exact ⟨by rw [← eR.out, eG.out, hq3.out]; rfl, BaH.out⟩
      · have hlt' : decide ((i : Int) < (L : Int)) = false := decide_eq_false (by omega)
        have hq3 : Hid (rsF 0 F = true) := by
          show _ = _
          rw [hq.out, List.drop_eq_nil_of_le (by rw [hL.out]; omega)]; rfl
        go_wp2_with fail
        go_ret
        exact ⟨by rw [← eR.out, eG.out, hq3.out]; rfl, BaH.out⟩
  · have eG : Hid (gdP D p F = false) := by
      show _ = _
      unfold gdP
      rcases Classical.not_and_iff_not_or_not.1 hh with h | h
      · simp [h]
      · rcases Classical.not_and_iff_not_or_not.1 h with h | h
        · simp [h]
        · rcases Classical.not_and_iff_not_or_not.1 h with h | h
          · simp [h]
          · simp [h]
    have hfin : Hid (.iface 160 (.pointer (some aR)) = R) := by show _ = _; rw [← eR.out, eG.out]; rfl
    clear eG
    go_enter Tryd.func25, Tryd.ntmps25
    go_upto_region 1 with fail
    rw [ewa.out, hg.out]
    by_cases c1 : D < 2
    · go_wp2_with fail
      go_ret
      exact ⟨by rw [← hfin.out]; rfl, BaH.out⟩
    · by_cases c2 : 64 < D
      · go_wp2_with fail
        go_ret
        exact ⟨by rw [← hfin.out]; rfl, BaH.out⟩
      · by_cases c3 : p < 2
        · go_wp2_with fail
          go_ret
          exact ⟨by rw [← hfin.out]; rfl, BaH.out⟩
        · have c4 : D < p := by omega
          go_wp2_with fail
          go_ret
          exact ⟨by rw [← hfin.out]; rfl, BaH.out⟩
end Go.Proofs.YtoaccmblaifnmaaDoor
