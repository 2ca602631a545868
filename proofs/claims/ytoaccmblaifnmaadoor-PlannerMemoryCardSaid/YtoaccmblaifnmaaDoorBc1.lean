/-
  What PlannerLists and its fellows rest on, joined: Pn4 Pn5 Pn6 Pn7.
-/
import Derived.Test.YtoaccmblaifnmaaDoorProg
import Derived.WalkKit
import Ieee.Arith
import Derived.WalkLawsBesides
import Derived.Outline
import Derived.Deep.QuietTactic
import Derived.BigQuiet
import Derived.WalkSmall
import Derived.RegionTactic
import Derived.Lib.Mul64
import Derived.Laws.Bits64b
import Derived.Deep.CutBlock
import Derived.Deep.DeepCutAuto
import Derived.Maps.AppendAt
import Derived.Deep.RegionHeld3
import Derived.Deep.RegionWith
import Derived.Laws.OwnMore
import Derived.RangeFuncNested
import Derived.RangeFuncBound
import Derived.RangeFuncCalls
import Derived.RangeFuncLeaves
import Derived.RangeFuncBox
import Derived.Shelf.Abstract
import Derived.Shelf.RegionOpen
import Derived.OwnWalkIn
import Derived.TacticsInMore
import Derived.LoopNIn
import Derived.LoopIn
import Derived.Laws.Rows
import Derived.Lib.ItoaNum
import Derived.Laws.IdiomStrings
import Derived.Lib.SmallJoins
import Derived.Lib.HexFns
import Derived.Test.YtoaccmblaifnmaaDoorRows
import Derived.LaidEql
import Derived.LaidLaws
import Derived.LaidHandle
import Derived.Stop.Joined
import Derived.Recover
import Derived.RegionDies
import Derived.Laws.CopyOwn
import Derived.Lib.AppendIntMem
import Derived.Laws.AppendOwn
import Derived.OwnWalk
import Derived.BigCall
import Derived.Deep.RegionHeldLaw
import Derived.Laws.FloatArith
import Derived.Laws.ComplexArith
import Derived.Laws.MakeOwn
import Derived.MapKept
import Derived.Carry
import Derived.Test.YtoaccmblaifnmaaDoorBb8
import Derived.Test.YtoaccmblaifnmaaDoorBb1
import Derived.Test.YtoaccmblaifnmaaDoorBb9
namespace Go.Proofs.YtoaccmblaifnmaaDoor
open Flo Go.RowKit Tr
/-- a list of ints in blocks of V -/
def FlR (V : Nat → Prop) (W : World) (fv : Value) (F : List Int) : Prop := ∃ ao cap, fv = .slice ao F.length cap ∧ ∀ i, i < F.length → ∃ b off, ao = some ⟨b, off, none⟩ ∧ V b ∧ b < W.heap.size ∧ W.cell? ⟨b, off + i, none⟩ = some (.int .i64 (F.getD i 0))
/-- a search at block h, its map at M, of the policy D, F, p; V: its blocks; Kn: which lengths may be found -/
structure Srh (D p : Int) (F : List Int) (h M : Nat) (fv : Value) (Kn : Nat → Prop) (V : Nat → Prop) (W : World) : Prop where
  blk : W.heap[h]? = some (.cells #[.int .i64 D, fv, .int .i64 p, .map (some M)] 101 (0, 0))
  vh : V h
  vM : V M
  mp : ∃ es clock, W.heap[M]? = some (.map es clock) ∧ ∀ e ∈ es.toList, ∃ k : Nat, e.key = .int .i64 (k : Int) ∧ Kn k ∧ Pl.Dm p k ∧ Os V W (Pl.ch D F p k) e.val
  fl : FlR V W fv F
section
variable {D p : Int} {F : List Int} {h M : Nat} {fv : Value} {Kn : Nat → Prop} {V : Nat → Prop} {W W' : World}
theorem FlR.kt {T : Nat → Prop} (a : FlR V W fv F) (k : KT T W W') (hT : Ap T V) : FlR V W' fv F := by
  obtain ⟨ao, cap, e, hc⟩ := a
  refine ⟨ao, cap, e, fun i hi => ?_⟩
  obtain ⟨b, off, h1, h2, h3, h4⟩ := hc i hi
  exact ⟨b, off, h1, h2, Nat.lt_of_lt_of_le h3 k.size, (k.cell (p := ⟨b, off + i, none⟩) h3 (fun t => hT b t h2)).trans h4⟩
theorem Srh.kt {T : Nat → Prop} (a : Srh D p F h M fv Kn V W) (k : KT T W W') (hT : Ap T V) : Srh D p F h M fv Kn V W' := by
  refine ⟨(k.block h (blk_lt a.blk) fun t => hT h t a.vh).trans a.blk, a.vh, a.vM, ?_, a.fl.kt k hT⟩
  obtain ⟨es, clock, h1, h2⟩ := a.mp
  refine ⟨es, clock, (k.block M (blk_lt h1) fun t => hT M t a.vM).trans h1, fun e he => ?_⟩
  obtain ⟨q, q1, q2, q3, q4⟩ := h2 e he
  exact ⟨q, q1, q2, q3, Os.keep (fun _ hb => hb) (fun b hb hl => k.block b hl fun t => hT b t hb) _ _ q4⟩
theorem Srh.below (a : Srh D p F h M fv Kn V W) (k : Below W.heap.size W W') : Srh D p F h M fv Kn V W' := a.kt (T := fun _ => False) (KT.of_below k) (fun _ h => h.elim)
theorem Srh.c0 (a : Srh D p F h M fv Kn V W) : W.cell? ⟨h, 0, none⟩ = some (.int .i64 D) := by rw [Joins.cell_of_block a.blk]; rfl
theorem Srh.c1 (a : Srh D p F h M fv Kn V W) : W.cell? ⟨h, 1, none⟩ = some fv := by rw [Joins.cell_of_block a.blk]; rfl
theorem Srh.c2 (a : Srh D p F h M fv Kn V W) : W.cell? ⟨h, 2, none⟩ = some (.int .i64 p) := by rw [Joins.cell_of_block a.blk]; rfl
theorem Srh.c3 (a : Srh D p F h M fv Kn V W) : W.cell? ⟨h, 3, none⟩ = some (.map (some M)) := by rw [Joins.cell_of_block a.blk]; rfl
end
theorem fnow (n : Int) : ∀ (es : List MapEntry) (i : Nat), (∀ e ∈ es, ∃ m : Int, e.key = .int .i64 m) → ∃ r, Instr.findNow (.int .i64) (.int .i64 n) es i = some r ∧ ((r = none ∧ ∀ e ∈ es, e.key ≠ .int .i64 n) ∨ ∃ j e, r = some (j, e.val) ∧ e ∈ es ∧ e.key = .int .i64 n)
  | [], i, _ => ⟨none, rfl, .inl ⟨rfl, fun e he => by cases he⟩⟩
  | e :: es, i, h => by
    obtain ⟨m, hm⟩ := h e (by simp)
    by_cases hc : n = m
    · subst hc
      refine ⟨some (i, e.val), by unfold Instr.findNow; rw [hm]; simp [Instr.sameNow], .inr ⟨i, e, rfl, by simp, hm⟩⟩
    · obtain ⟨r, h1, h2⟩ := fnow n es (i + 1) fun e he => h e (by simp [he])
      refine ⟨r, ?_, ?_⟩
      · unfold Instr.findNow
        rw [hm]
        have hq : (n == m) = false := beq_eq_false_iff_ne.2 hc
        simp only [Instr.sameNow, if_true, hq]
        exact h1
      · rcases h2 with ⟨h3, h4⟩ | ⟨j, e', h3, h4, h5⟩
        · refine .inl ⟨h3, fun e' he => ?_⟩
          rcases List.mem_cons.1 he with rfl | he
          · rw [hm]; intro hh; exact hc (by injection hh with _ h6; exact h6.symm)
          · exact h4 e' he
        · exact .inr ⟨j, e', h3, by simp [h4], h5⟩
/-- the map put by another -/
def pmo (w : World) (m : Nat) (o : Obj) : World := { w with heap := w.heap.setIfInBounds m o }
theorem pmo_kt (w : World) (m : Nat) (o : Obj) {T : Nat → Prop} (h : T m) : KT T w (pmo w m o) := by
  refine ⟨rfl, rfl, rfl, by unfold pmo; simp, fun k hk hn => ?_⟩
  have : k ≠ m := fun e => hn (e ▸ h)
  unfold pmo; simp [this.symm]
theorem pmo_at (w : World) (m : Nat) (o : Obj) (h : m < w.heap.size) : (pmo w m o).heap[m]? = some o := by
  unfold pmo; simp [h]
set_option maxRecDepth 100000 in
/-- a length looked up: its cheapest order, or nothing; then it may be written -/
theorem slook {D p : Int} {F : List Int} {h M : Nat} {fv : Value} {Kn : Nat → Prop} {V : Nat → Prop} {W : World} (a : Srh D p F h M fv Kn V W) (n : Nat) :
    (∃ v, (∀ W1 : World, W1.heap = W.heap → (Instr.lookup 99 (.map (some M)) (.int .i64 (n : Int)) true).run Tryd.prog W1 = .ok (.tuple #[v, .bool true]) W1) ∧ Os V W (Pl.ch D F p n) v) ∨
    ((∀ W1 : World, W1.heap = W.heap → (Instr.lookup 99 (.map (some M)) (.int .i64 (n : Int)) true).run Tryd.prog W1 = .ok (.tuple #[.agg #[.int .i64 0, .int .i64 0, .slice none 0 0], .bool false]) W1) ∧ Srh D p F h M fv (fun k => Kn k ∧ k ≠ n) V W) := by
  obtain ⟨es, clock, h1, h2⟩ := a.mp
  have hkeys : ∀ e ∈ es.toList, ∃ m : Int, e.key = .int .i64 m := fun e he => by obtain ⟨k, hk, _⟩ := h2 e he; exact ⟨_, hk⟩
  obtain ⟨r, hr, hc⟩ := fnow (n : Int) es.toList 0 hkeys
  have hz : ∀ W : World, (zeroValue 24).run Tryd.prog W = .ok (.agg #[.int .i64 0, .int .i64 0, .slice none 0 0]) W := Tryd.zeroValue24
  have hck : ∀ (em : Bool) (W : World), (Instr.checkKey em 10000 3 (.int .i64 (n : Int))).run Tryd.prog W = .ok () W := fun em W => by
    unfold Instr.checkKey
    simp [run_underlying Tryd.underlying3]
  have hfk : ∀ W : World, (Instr.findKey 3 (.int .i64 (n : Int)) es.toList).run Tryd.prog W = .ok r W := fun W => by
    unfold Instr.findKey
    simp [run_underlying Tryd.underlying3, hr]
  rcases hc with ⟨rfl, hno⟩ | ⟨j, e, rfl, he, hek⟩
  · right
    refine ⟨fun W1 hW => ?_, ⟨a.blk, a.vh, a.vM, ⟨es, clock, h1, fun e he => ?_⟩, a.fl⟩⟩
    · have hm : W1.heap[M]? = some (.map es clock) := by rw [hW]; exact h1
      simp [Instr.lookup, run_underlying Tryd.underlying99, MapKept.run_getObj_map hm, hck, hfk, hz]
    · obtain ⟨k, k1, k2, k3, k4⟩ := h2 e he
      exact ⟨k, k1, ⟨k2, fun e1 => hno e he (by rw [k1, e1])⟩, k3, k4⟩
  · left
    refine ⟨e.val, fun W1 hW => ?_, ?_⟩
    · have hm : W1.heap[M]? = some (.map es clock) := by rw [hW]; exact h1
      simp [Instr.lookup, run_underlying Tryd.underlying99, MapKept.run_getObj_map hm, hck, hfk]
    · obtain ⟨k, k1, k2, k3, k4⟩ := h2 e he
      have : k = n := by rw [hek] at k1; injection k1 with _ h6; omega
      rw [← this]; exact k4
end Go.Proofs.YtoaccmblaifnmaaDoor
namespace Go.Proofs.YtoaccmblaifnmaaDoor
open Flo Go.RowKit Tr
set_option maxHeartbeats 1000000 in
theorem idxI_c (F : List Int) (ao : Option Addr) (cap : Nat) (n : Int) (w : World) (V : Nat → Prop) (hF : F.length ≤ 1000) (hf : FlR V w (.slice ao F.length cap) F) : Calls Tryd.prog 114 #[.slice ao F.length cap, .int .i64 n] w fun e w' => ∃ r : Int, e = .returned (.int .i64 r) ∧ (0 ≤ r ↔ n ∈ F) ∧ w' = w := by
  obtain ⟨ao', cap', e, hc0⟩ := hf
  simp only [Value.slice.injEq, true_and] at e
  obtain ⟨rfl, rfl⟩ := e
  obtain ⟨L, hL⟩ : ∃ L, Hid (F.length = L) := ⟨_, (rfl : _ = _)⟩
  have hc : Hid (∀ i, i < L → ∃ b off, ao = some ⟨b, off, none⟩ ∧ V b ∧ b < w.heap.size ∧ w.cell? ⟨b, off + i, none⟩ = some (.int .i64 (F.getD i 0))) := by rw [← hL.out]; exact hc0
  have hL2 : L ≤ 1000 := by rw [← hL.out]; exact hF
  rw [hL.out]
  clear hc0 hF
  go_enter Tryd.func114, Tryd.ntmps114
  go_wp2_with fail
  go_loopw [8] (fun si wx => ∃ i : Nat, i ≤ L ∧ si = .int .i64 (i : Int) ∧ Hid (∀ j, j < i → F.getD j 0 ≠ n) ∧ wx = w) (fun si _ => L - (intOf si).toNat)
  case atStart => exact ⟨0, Nat.zero_le _, rfl, (fun j hj => by omega), rfl⟩
  case round =>
    obtain ⟨i, hi, rfl, hno, rfl⟩ := hrel
    by_cases hlt : i < L
    · have hlt' : (i : Int) < (L : Int) := by omega
      obtain ⟨b, off, rfl, _, _, c0⟩ := hc.out i hlt
      have hlt2 : Hid (i < F.length) := by rw [hL.out]; exact hlt
      by_cases he : n = F.getD i 0
      · have he' : (n == F.getD i 0) = true := by rw [beq_iff_eq]; exact he
        have hm : Hid (n ∈ F) := by
          show _ ∈ _
          rw [he, List.getD_eq_getElem?_getD, List.getElem?_eq_getElem hlt2.out]
          exact List.getElem_mem _
        clear he
        generalize F.getD i 0 = fi at *
        go_wp2_with fail
        go_ret
        exact ⟨_, rfl, ⟨fun _ => hm.out, fun _ => by omega⟩, rfl⟩
      · have he' : (n == F.getD i 0) = false := beq_eq_false_iff_ne.2 he
        have hno2 : Hid (∀ j, j < i + 1 → F.getD j 0 ≠ n) := fun j hj => by
          by_cases hji : j = i
          · subst hji; exact fun h => he h.symm
          · exact hno.out j (by omega)
        clear he
        generalize F.getD i 0 = fi at c0 he'
        go_wp2_with fail
        go_roundw
        case rel => exact ⟨i + 1, by omega, by go_num, hno2, by trivial⟩
        case measure => simp [intOf]; omega
    · have hlt' : decide ((i : Int) < (L : Int)) = false := decide_eq_false (by omega)
      have hn : Hid (n ∉ F) := fun hm => by
        obtain ⟨j, hj, e⟩ := List.getElem_of_mem hm
        refine hno.out j (by have := hL.out; omega) ?_
        rw [List.getD_eq_getElem?_getD, List.getElem?_eq_getElem hj]
        exact e
      go_wp2_with fail
      go_ret
      exact ⟨_, rfl, ⟨fun h => by omega, fun h => absurd h hn.out⟩, rfl⟩
theorem cntI_c (F : List Int) (ao : Option Addr) (cap : Nat) (n : Int) (w : World) (V : Nat → Prop) (hF : F.length ≤ 1000) (hf : FlR V w (.slice ao F.length cap) F) : Calls Tryd.prog 109 #[.slice ao F.length cap, .int .i64 n] w fun e w' => e = .returned (.bool (F.contains n)) ∧ w' = w := by
  have hi := idxI_c F ao cap n w V hF hf
  obtain ⟨L, hL⟩ : ∃ L, Hid (F.length = L) := ⟨_, (rfl : _ = _)⟩
  rw [hL.out] at hi ⊢
  clear hF hf
  go_enter Tryd.func109, Tryd.ntmps109
  go_wp2_with fail
  refine hi.mono ?_
  rintro e w' ⟨r, rfl, hr, rfl⟩
  clear hi
  by_cases h0 : 0 ≤ r
  · have h1 : Hid (n ∈ F) := hr.1 h0
    have h2 : decide (r ≥ 0) = true := decide_eq_true h0
    clear hr
    go_wp2_with fail
    go_ret
    exact ⟨by rw [List.contains_iff_mem.2 h1.out]; rfl, rfl⟩
  · have h1 : Hid (n ∉ F) := fun h => h0 (hr.2 h)
    have h2 : decide (r ≥ 0) = false := decide_eq_false h0
    clear hr
    go_wp2_with fail
    go_ret
    have h3 : F.contains n = false := by
      cases hc : F.contains n with
      | false => rfl
      | true => exact absurd (List.contains_iff_mem.1 hc) h1.out
    exact ⟨by rw [h3]; rfl, rfl⟩
end Go.Proofs.YtoaccmblaifnmaaDoor
namespace Go.Proofs.YtoaccmblaifnmaaDoor
open Flo Go.RowKit Tr
/-- one leaf more -/
theorem Gr.leaf {B : Nat} {w w1 w' : World} {kv kv' : Value} {ks : List Tr} {ss : List Value} {k n : Int} (h : Gr B w kv ks ss) (hB : B ≤ w.heap.size) (b12 : Below w.heap.size w w1) (hf : fit k n) {o : Obj}
    (q1 : w'.ownsRow B 24 3 kv' (ks.length + 1) (cso ks ss ++ [.int .i64 k, .int .i64 n, .slice none 0 0])) (q2 : (w1.alloc o).grownBy w' kv.ownBlock) (q3 : ∀ b, kv'.ownBlock = some b → kv.ownBlock = some b ∨ (w1.alloc o).heap.size ≤ b) : Gr B w' kv' (ks ++ [⟨k, n, []⟩]) (ss ++ [.slice none 0 0]) :=
  Gr.snoc (t := ⟨k, n, []⟩) h hB b12 (Os.leaf hf) rfl ((Below.refl _ _).alloc (Nat.le_refl _) _) q1 q2 q3
/-- a new list of orders is answered -/
def LvE (W : World) (ks : List Tr) (e : Ending) (W' : World) : Prop := ∃ kv ss, e = .returned kv ∧ Gr W.heap.size W' kv ks ss ∧ Below W.heap.size W W'
set_option maxHeartbeats 2000000 in
set_option maxRecDepth 100000 in
theorem leaves_c {D p : Int} {F : List Int} {h M : Nat} {fv : Value} {Kn V : Nat → Prop} {W : World} (a : Srh D p F h M fv Kn V W) (hF : F.length ≤ 1000) (n : Nat) (hn : n ≤ 16384) :
    Calls Tryd.prog 93 #[.pointer (some ⟨h, 0, none⟩), .int .i64 (n : Int)] W (LvE W (Pl.lvs D F n)) := by
  obtain ⟨i0, hi0, hz0, hz1, hz2⟩ := info_o
  have aH : Hid (Srh D p F h M fv Kn V W) := a
  obtain ⟨ao, cap, rfl, _⟩ := a.fl
  have c0 := a.c0
  have f1 : fit 1 (n : Int) := ⟨by decide, by omega⟩
  have f2 : fit 2 (n : Int) := ⟨by decide, by omega⟩
  have f1H : Hid (fit 1 (n : Int)) := f1
  have f2H : Hid (fit 2 (n : Int)) := f2
  have hc : Hid (∀ W', Below W.heap.size W W' → Calls Tryd.prog 109 #[.slice ao F.length cap, .int .i64 (n : Int)] W' fun e w' => e = .returned (.bool (F.contains (n : Int))) ∧ w' = W') := fun W' hb => cntI_c F ao cap n W' V hF (aH.out.below hb).fl
  have hc1 : Hid (∀ W', Below W.heap.size W W' → W'.cell? ⟨h, 1, none⟩ = some (.slice ao F.length cap)) := fun W' hb => (aH.out.below hb).c1
  obtain ⟨L, hL⟩ : ∃ L, Hid (F.length = L) := ⟨_, (rfl : _ = _)⟩
  rw [hL.out] at hc hc1
  obtain ⟨cf, hcf⟩ : ∃ cf, Hid (F.contains (n : Int) = cf) := ⟨_, (rfl : _ = _)⟩
  obtain ⟨KS, hKS⟩ : ∃ KS, Hid (KS = Pl.lvs D F n) := ⟨_, (rfl : _ = _)⟩
  have hlv : Hid (KS = (if (n : Int) ≤ D then [⟨1, n, []⟩] else []) ++ (if cf then [⟨2, n, []⟩] else [])) := by
    show _ = _
    rw [hKS.out, ← hcf.out]; rfl
  rw [← hKS.out]
  rw [hcf.out] at hc
  clear a f1 f2 hF hL hcf hKS
  by_cases hd : (n : Int) ≤ D
  · have eL : Hid (KS = [Tr.mk 1 n []] ++ (if cf then [⟨2, n, []⟩] else [])) := by
      show _ = _
      rw [hlv.out, if_pos hd]
    clear hlv
    go_enter Tryd.func93, Tryd.ntmps93
    go_wp2_with fail
    refine (direct_c n W).mono ?_
    rintro e w1 ⟨rfl, b1⟩
    have b1H : Hid (Below W.heap.size W w1) := b1
    clear b1 c0
    have hnilH : Hid (w1.ownsRow W.heap.size 24 3 (.slice none 0 0) 0 []) := World.ownsRow_nil _ _ _ _
    go_wp2_with (at_builtin; refine wpList_append_fr _ rfl _ _ 22 rfl W.heap.size 24 i0 _ 3 40 Tryd.underlying22 hi0 hz0 hz1 hz2 rfl (by decide) _ _ _ rfl (hnilH.out.alloc _) ⟨w1.heap.size, 0, none⟩ 1 1 [.int .i64 1, .int .i64 (n : Int), .slice none 0 0] rfl rfl (by intro j u' hj; match j, hj with | 0, hj => simp at hj; subst hj; simp [Addr.add] | 1, hj => simp at hj; subst hj; simp [Addr.add] | 2, hj => simp at hj; subst hj; simp [Addr.add] | j + 3, hj => simp at hj) (by intro u' hu'; simp at hu'; rcases hu' with h | h | h <;> subst h <;> rfl) (by unfold maxLen; omega) (by omega) (by have := b1H.out.size; simp; omega) ?_)
    intro v' w4 q1 q2 q3
    have G4 : Hid (Gr W.heap.size w4 v' ([] ++ [Tr.mk 1 n []]) ([] ++ [.slice none 0 0])) := Gr.leaf (Gr.nil W.heap.size W) (Nat.le_refl _) b1H.out f1H.out q1 q2 (fun b hb => by have := q3 b hb; simpa using this)
    have B4 : Hid (Below W.heap.size W w4) := (b1H.out.alloc b1H.out.size _).grown q2 (by have := b1H.out.size; simp; omega) (fun k' hk' => by simp [Value.ownBlock] at hk')
    clear q1 q2 q3 b1H hnilH
    have c1 := hc1.out w4 B4.out
    go_wp2_with fail
    refine (hc.out w4 B4.out).mono ?_
    rintro e w5 ⟨rfl, rfl⟩
    clear c1
    cases cf
    · go_wp2_with fail
      go_ret
      rw [eL.out]
      exact ⟨_, _, rfl, G4.out, B4.out⟩
    · go_wp2_with fail
      refine (fly_c n w5).mono ?_
      rintro e w6 ⟨rfl, b6⟩
      have b6H : Hid (Below w5.heap.size w5 w6) := b6
      have hownH : Hid (w6.ownsRow W.heap.size 24 3 v' 1 [.int .i64 1, .int .i64 (n : Int), .slice none 0 0]) := (G4.out.bel b6).own
      have hs5 : Hid (W.heap.size ≤ w5.heap.size) := B4.out.size
      clear b6
      go_wp2_with (at_builtin; refine wpList_append_fr _ rfl _ _ 22 rfl W.heap.size 24 i0 _ 3 40 Tryd.underlying22 hi0 hz0 hz1 hz2 rfl (by decide) _ _ _ rfl (hownH.out.alloc _) ⟨w6.heap.size, 0, none⟩ 1 1 [.int .i64 2, .int .i64 (n : Int), .slice none 0 0] rfl rfl (by intro j u' hj; match j, hj with | 0, hj => simp at hj; subst hj; simp [Addr.add] | 1, hj => simp at hj; subst hj; simp [Addr.add] | 2, hj => simp at hj; subst hj; simp [Addr.add] | j + 3, hj => simp at hj) (by intro u' hu'; simp at hu'; rcases hu' with h | h | h <;> subst h <;> rfl) (by unfold maxLen; simp) (by simp) (by have := b6H.out.size; have := hs5.out; simp; omega) ?_)
      intro v7 w7 q1 q2 q3
      have G7 : Hid (Gr W.heap.size w7 v7 ([] ++ [Tr.mk 1 n []] ++ [Tr.mk 2 n []]) ([] ++ [.slice none 0 0] ++ [.slice none 0 0])) := Gr.leaf G4.out hs5.out b6H.out f2H.out q1 q2 (fun b hb => by have := q3 b hb; simpa using this)
      have B7 : Hid (Below W.heap.size W w7) := ((btr B4.out b6H.out).alloc (by have := (btr B4.out b6H.out).size; exact this) _).grown q2 (by have := (btr B4.out b6H.out).size; simp; omega) (fun k' hk' => (hownH.out.lt k' hk').1)
      clear q1 q2 q3
      go_wp2_with fail
      go_ret
      rw [eL.out]
      exact ⟨_, _, rfl, G7.out, B7.out⟩
  · have hd' : decide ((n : Int) ≤ D) = false := decide_eq_false hd
    have eL : Hid (KS = (if cf then [⟨2, n, []⟩] else [])) := by
      show _ = _
      rw [hlv.out, if_neg hd]; rfl
    clear hlv hd
    have c1 := hc1.out W (Below.refl _ _)
    go_enter Tryd.func93, Tryd.ntmps93
    go_wp2_with fail
    refine (hc.out W (Below.refl _ _)).mono ?_
    rintro e w5 ⟨rfl, rfl⟩
    clear c1 c0
    cases cf
    · go_wp2_with fail
      go_ret
      rw [eL.out]
      exact ⟨_, [], rfl, Gr.nil _ _, Below.refl _ _⟩
    · go_wp2_with fail
      refine (fly_c n w5).mono ?_
      rintro e w6 ⟨rfl, b6⟩
      have b6H : Hid (Below w5.heap.size w5 w6) := b6
      have hownH : Hid (w6.ownsRow w5.heap.size 24 3 (.slice none 0 0) 0 []) := World.ownsRow_nil _ _ _ _
      clear b6
      go_wp2_with (at_builtin; refine wpList_append_fr _ rfl _ _ 22 rfl w5.heap.size 24 i0 _ 3 40 Tryd.underlying22 hi0 hz0 hz1 hz2 rfl (by decide) _ _ _ rfl (hownH.out.alloc _) ⟨w6.heap.size, 0, none⟩ 1 1 [.int .i64 2, .int .i64 (n : Int), .slice none 0 0] rfl rfl (by intro j u' hj; match j, hj with | 0, hj => simp at hj; subst hj; simp [Addr.add] | 1, hj => simp at hj; subst hj; simp [Addr.add] | 2, hj => simp at hj; subst hj; simp [Addr.add] | j + 3, hj => simp at hj) (by intro u' hu'; simp at hu'; rcases hu' with h | h | h <;> subst h <;> rfl) (by unfold maxLen; omega) (by omega) (by have := b6H.out.size; simp; omega) ?_)
      intro v7 w7 q1 q2 q3
      have G7 : Hid (Gr w5.heap.size w7 v7 ([] ++ [Tr.mk 2 n []]) ([] ++ [.slice none 0 0])) := Gr.leaf (Gr.nil w5.heap.size w5) (Nat.le_refl _) b6H.out f2H.out q1 q2 (fun b hb => by have := q3 b hb; simpa using this)
      have B7 : Hid (Below w5.heap.size w5 w7) := (b6H.out.alloc b6H.out.size _).grown q2 (by have := b6H.out.size; simp; omega) (fun k' hk' => by simp [Value.ownBlock] at hk')
      clear q1 q2 q3
      go_wp2_with fail
      go_ret
      rw [eL.out]
      exact ⟨_, _, rfl, G7.out, B7.out⟩
/-- the greatest prime factor comes last -/
theorem fac_last {n : Nat} {zs : List Nat} (hn : 2 ≤ n) (h : Nt.Fac n zs) (p : Int) : ∃ h : zs.length - 1 < zs.length, (p < (zs[zs.length - 1] : Int) ↔ Pl.big p n = true) := by
  obtain ⟨h1, h2, h3⟩ := h
  have hne : zs ≠ [] := fun e => by rw [e] at h1; simp [Nt.prod] at h1; omega
  have hl : zs.length - 1 < zs.length := by have := List.length_pos_iff.2 hne; omega
  refine ⟨hl, ?_⟩
  rw [Pl.big_iff (by omega)]
  constructor
  · intro hp
    exact ⟨_, h2 _ (List.getElem_mem hl), by rw [← h1]; exact Nt.dvd_prod_of_mem (List.getElem_mem hl), hp⟩
  · rintro ⟨q, q1, q2, q3⟩
    rw [← h1] at q2
    obtain ⟨x, hx, hd⟩ := q1.dvd_prod zs q2
    have hxq : q = x := by
      rcases (h2 x hx).2 q hd with e | e
      · have := q1.1; omega
      · exact e
    obtain ⟨i, hi, e⟩ := List.getElem_of_mem hx
    have hle : zs[i] ≤ zs[zs.length - 1] := by
      by_cases hil : i = zs.length - 1
      · subst hil; exact Nat.le_refl _
      · exact List.pairwise_iff_getElem.1 h3 i (zs.length - 1) hi hl (by omega)
    omega
theorem szf_sz (K : Nat) (h : K ≤ 16384) : Sz K (Pl.szf K) := by
  obtain ⟨t, _, e⟩ := Pl.szf_pow K
  obtain ⟨h1, h2⟩ := Pl.szf_le K h
  refine ⟨t, e, h1, ?_⟩
  rcases h2 with h2 | h2
  · left
    rw [e] at h2
    cases t with
    | zero => rfl
    | succ t => have := Nat.two_pow_pos t; rw [Nat.pow_succ] at h2; omega
  · exact .inr h2
end Go.Proofs.YtoaccmblaifnmaaDoor
namespace Go.Proofs.YtoaccmblaifnmaaDoor
open Flo Go.RowKit Tr
set_option maxHeartbeats 2000000 in
set_option maxRecDepth 100000 in
theorem inner_c {D p : Int} {F : List Int} {h M : Nat} {fv : Value} {Kn V : Nat → Prop} {W : World} (a : Srh D p F h M fv Kn V W) (n : Nat) (hn : Pl.Dm p n) :
    Calls Tryd.prog 96 #[.pointer (some ⟨h, 0, none⟩), .int .i64 (n : Int)] W fun e W' => e = .returned (.int .i64 (Pl.inn p n : Int)) ∧ Below W.heap.size W W' := by
  obtain ⟨I, hI⟩ : ∃ I, Hid (Pl.inn p n = I) := ⟨_, (rfl : _ = _)⟩
  rw [hI.out]
  have hc2 : Hid (∀ W', Below W.heap.size W W' → W'.cell? ⟨h, 2, none⟩ = some (.int .i64 p)) := fun W' hb => (a.below hb).c2
  by_cases h2 : 2 ≤ n
  · have hf := pFactors_n n W h2 (by have := hn.2.1; omega)
    have hnH : Hid (Pl.Dm p n) := hn
    have h16 : n ≤ 16384 := hn.2.1
    clear a hn
    go_enter Tryd.func96, Tryd.ntmps96
    go_wp2_with fail
    refine hf.mono ?_
    rintro e w1 ⟨v, zs, rfl, hfa, hown, b1⟩
    clear hf
    obtain ⟨hl, hbig⟩ := fac_last h2 hfa p
    have hlen : Hid (zs.length ≤ 32) := hfa.len (by omega)
    have hpos : 0 < zs.length := by omega
    obtain ⟨g, cap, rfl, hcell⟩ : ∃ g cap, v = .slice (some ⟨g, 0, none⟩) zs.length cap ∧ w1.cell? ⟨g, zs.length - 1, none⟩ = some (.int .i64 (zs[zs.length - 1] : Int)) := by
      obtain ⟨g, cap, rfl⟩ := Joins.ownsRow_form hown (by omega)
      refine ⟨g, cap, rfl, ?_⟩
      have hc := hown.cells (g := g) rfl (zs.length - 1) (.int .i64 (zs[zs.length - 1] : Int)) (by simp [il, hl])
      have e0 : (⟨g, 0, none⟩ : Addr).add (zs.length - 1) = ⟨g, zs.length - 1, none⟩ := by
        by_cases h0 : zs.length - 1 = 0
        · rw [h0]; simp [Addr.add]
        · simp [Addr.add, h0]
      rw [e0] at hc
      exact hc
    obtain ⟨q, hq0⟩ : ∃ q, zs[zs.length - 1] = q := ⟨_, rfl⟩
    have hq : Hid (zs[zs.length - 1] = q) := hq0
    clear hq0
    rw [hq.out] at hcell hbig
    have hq2 : Hid (q ≤ n) := by
      show _ ≤ _
      rw [← hq.out]
      exact Nat.le_of_dvd (by omega) (by have := hfa.1; rw [← this]; exact Nt.dvd_prod_of_mem (List.getElem_mem hl))
    obtain ⟨L, hL⟩ : ∃ L, Hid (zs.length = L) := ⟨_, (rfl : _ = _)⟩
    rw [hL.out] at hcell hlen hpos ⊢
    obtain ⟨l1, hl1, hl1'⟩ : ∃ l1 : Nat, Hid (l1 = L - 1) ∧ (L : Int) - 1 = (l1 : Int) := ⟨L - 1, (rfl : _ = _), by omega⟩
    rw [← hl1.out] at hcell
    have hlt : (l1 : Int) < (L : Int) := by omega
    have hlt2 : l1 < L := by omega
    have hL0 : ((L : Int) == 0) = false := beq_eq_false_iff_ne.2 (by omega)
    have hL32 : L ≤ 32 := hlen.out
    have hqn : q ≤ 16384 := by have := hq2.out; omega
    have c2 := hc2.out w1 b1
    have b1H : Hid (Below W.heap.size W w1) := b1
    clear hown b1 hfa hl hq hL hq2 hlen
    by_cases hbg : p < (q : Int)
    · have hb : Hid (Pl.big p n = true) := hbig.1 hbg
      have hq1 : decide ((q : Int) ≤ p) = false := decide_eq_false (by omega)
      have hn8 : n ≤ 8192 := hnH.out.2.2 hb.out
      have hsz := sizeOk_c n
      have hIe : Hid (I = Pl.szf (2 * n - 1)) := by
        show _ = _
        rw [← hI.out]
        unfold Pl.inn
        rw [if_pos ⟨hb.out, hn8⟩]
      clear hbig
      go_upto_region 2 with fail
      go_region
      all_goals go_wp2_with fail
      all_goals
        refine (hsz _ (by omega) hn8).mono ?_
        rintro e w2 ⟨s, rfl, hs, _, rfl⟩
        have he : Hid (s = I) := by show _ = _; rw [hIe.out]; exact hs.uniq (szf_sz _ (by omega))
        clear hs
        go_wp2_with fail
        go_ret
        exact ⟨by rw [← he.out]; rfl, b1H.out.drew⟩
    · have hb : Hid (Pl.big p n = false) := by
        show _ = _
        cases hbb : Pl.big p n with
        | false => rfl
        | true => exact absurd (hbig.2 hbb) hbg
      have hq1 : (q : Int) ≤ p := by omega
      have hIe : I = 0 := by
        rw [← hI.out]
        unfold Pl.inn
        rw [if_neg (by rw [hb.out]; simp)]
      subst hIe
      clear hbig
      go_upto_region 2 with fail
      go_region
      all_goals go_wp2_with fail
      all_goals
        go_ret
        exact ⟨rfl, b1H.out.drew⟩
  · have h1 : n = 1 := by have := hn.1; omega
    subst h1
    have hf := pFactors_no 1 W (by omega)
    have hIe : I = 0 := by
      rw [← hI.out]
      unfold Pl.inn
      rw [if_neg]
      rintro ⟨hb, _⟩
      obtain ⟨q, q1, q2, _⟩ := (Pl.big_iff (by decide)).1 hb
      have := Nat.le_of_dvd (by decide) q2
      have := q1.1
      omega
    subst hIe
    clear a hn h2
    rw [show ((1 : Nat) : Int) = 1 from rfl]
    go_enter Tryd.func96, Tryd.ntmps96
    go_wp2_with fail
    refine hf.mono ?_
    rintro e w1 ⟨rfl, rfl⟩
    clear hf
    have c2 := hc2.out w1 (Below.refl _ _)
    go_upto_region 2 with fail
    go_region
    all_goals go_wp2_with fail
    all_goals
      go_ret
      exact ⟨rfl, (Below.refl _ _).drew⟩
end Go.Proofs.YtoaccmblaifnmaaDoor
