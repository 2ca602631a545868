/-
  The statements' gone: the orders that All goes over.
-/
import Derived.WalkKit
import Ieee.Arith
import Derived.WalkLawsBesides
import Derived.Test.YtoaccmblaifnmaaDoorProg
import Derived.Outline
import Derived.Deep.QuietTactic
import Derived.BigQuiet
import Derived.WalkSmall
import Derived.RegionTactic
import Derived.Lib.Mul64
import Derived.Laws.Bits64b
import Derived.Deep.CutBlock
import Derived.Deep.DeepCutAuto
import Derived.Maps.AppendAt
import Derived.Deep.RegionHeld3
import Derived.Deep.RegionWith
import Derived.Laws.OwnMore
import Derived.RangeFuncNested
import Derived.RangeFuncBound
import Derived.RangeFuncCalls
import Derived.RangeFuncLeaves
import Derived.RangeFuncBox
import Derived.Shelf.Abstract
import Derived.Shelf.RegionOpen
import Derived.OwnWalkIn
import Derived.TacticsInMore
import Derived.LoopNIn
import Derived.LoopIn
import Derived.Laws.Rows
import Derived.Lib.ItoaNum
import Derived.Laws.IdiomStrings
import Derived.Lib.SmallJoins
import Derived.Lib.HexFns
import Derived.Test.YtoaccmblaifnmaaDoorRows
import Derived.LaidEql
import Derived.LaidLaws
import Derived.LaidHandle
import Derived.Stop.Joined
import Derived.Recover
import Derived.RegionDies
import Derived.Laws.CopyOwn
import Derived.Lib.AppendIntMem
import Derived.Laws.AppendOwn
import Derived.OwnWalk
import Derived.BigCall
import Derived.Deep.RegionHeldLaw
import Derived.Laws.FloatArith
import Derived.Laws.ComplexArith
import Derived.Laws.MakeOwn
import Derived.MapKept
import Derived.Carry
import Derived.ChangeAlike
import Derived.Deep.RegionLaw
import Derived.Defers
import Derived.Deep.AppendSrc
import Derived.Test.YtoaccmblaifnmaaDoorBe9
namespace Go.Proofs.YtoaccmblaifnmaaDoor
open Flo Go.RowKit Go.Shelf Tr
attribute [local go_sem] Oper.semAt_some
/-- the first top of a list; all of it, where top is below 1 -/
def tops (top : Int) (l : List Tr) : List Tr := if 1 ≤ top then l.take top.toNat else l
/-- what All tells -/
def alP (D p : Int) (F : List Int) (n : Int) : List Tr := if rfb D p F n = true then [] else (Pl.als D F p n.toNat).take 4096
theorem alP_len (D p : Int) (F : List Int) (n : Int) : (alP D p F n).length ≤ 4096 := by
  unfold alP
  split
  · simp
  · rw [List.length_take]; omega
theorem rfb_ok {D p : Int} {F : List Int} {n : Int} (h : rfb D p F n = false) : 1 ≤ n ∧ n ≤ 4096 ∧ gdP D p F = true := by
  unfold rfb at h
  simp only [Bool.not_eq_false', Bool.and_eq_true, decide_eq_true_eq] at h
  exact ⟨h.1.1, h.1.2, h.2⟩
theorem gdP_len {D p : Int} {F : List Int} (h : gdP D p F = true) : F.length ≤ 1000 := by
  simp only [gdP, Bool.and_eq_true] at h
  have := rsF_len 0 F h.2 (by omega)
  rw [if_pos (by decide)] at this; omega
/-- All's iterator, whether All refuses or not -/
theorem alP_seq {B1 B2 B3 : Nat} {D p : Int} {F : List Int} {fv : Value} (n : Int) (tk : Prop) : SeqU Tryd.prog 60 (aL B1 B2 B3) (aC B1 B2 B3 (rfb D p F n) D fv p n) toldO (alP D p F n) tk (fun V W => rfb D p F n = false → FlR V W fv F) (fun _ => False) := by
  cases hr : rfb D p F n with
  | true =>
    refine all1_none tk _ (fun _ _ _ _ _ _ _ h => by cases h) ?_
    unfold alP
    rw [if_pos hr]
  | false =>
    obtain ⟨h1, h2, h3⟩ := rfb_ok hr
    obtain ⟨N, rfl⟩ : ∃ N : Nat, n = (N : Int) := ⟨n.toNat, by omega⟩
    have h9 := all1_seq (B1 := B1) (B2 := B2) (B3 := B3) (fv := fv) (n := N) tk (gdP_gp h3) (gdP_len h3) ⟨by omega, by omega, fun _ => by omega⟩
    have e1 : (fun (V : Nat → Prop) (W : World) => false = false → FlR V W fv F) = (fun V W => FlR V W fv F) := by funext V W; simp
    have e2 : alP D p F (N : Int) = (Pl.als D F p N).take 4096 := by
      unfold alP
      rw [if_neg (by rw [hr]; decide), Int.toNat_natCast]
    rw [e1, e2]
    exact h9
/-- what gone hands back -/
theorem GP4.fin {g lb Dd : Nat} {top : Int} {W0 W : World} {pre : List Tr} {Ui UU : Nat → Prop} {lv : Value} {ss : List Value} (h : GP4 g lb top W0 pre Ui W lv ss UU) (hD : ¬ Ui Dd) :
    Lrw W0.heap.size UU (((W.setCell ⟨g + 2, 0, none⟩ lv).setCell ⟨g + 3, 0, none⟩ (.bool true)).putObj Dd (.deferred none)) lv pre ss ∧ (∀ b, UU b → W0.heap.size ≤ b) ∧ Below W0.heap.size W0 (((W.setCell ⟨g + 2, 0, none⟩ lv).setCell ⟨g + 3, 0, none⟩ (.bool true)).putObj Dd (.deferred none)) ∧
    (((W.setCell ⟨g + 2, 0, none⟩ lv).setCell ⟨g + 3, 0, none⟩ (.bool true)).putObj Dd (.deferred none)).cell? ⟨g + 2, 0, none⟩ = some lv ∧ (((W.setCell ⟨g + 2, 0, none⟩ lv).setCell ⟨g + 3, 0, none⟩ (.bool true)).putObj Dd (.deferred none)).cell? ⟨g + 3, 0, none⟩ = some (.bool true) := by
  have hDg : g + 4 ≤ Dd := by
    apply Nat.le_of_not_lt
    intro hl
    exact hD (h.ui Dd (.inr (.inr (.inr hl))))
  have k : KT (fun b => b = g + 2 ∨ b = g + 3 ∨ b = Dd) W (((W.setCell ⟨g + 2, 0, none⟩ lv).setCell ⟨g + 3, 0, none⟩ (.bool true)).putObj Dd (.deferred none)) :=
    (((KT.refl _ W).sc _ (.inl rfl)).sc _ (.inr (.inl rfl))).trans (KT.put _ _ _ (.inr (.inr rfl)))
  have hs := h.sz
  have e2 : (W.setCell ⟨g + 2, 0, none⟩ lv).heap[g + 2]? = some (.cells #[lv] 22 (0, 0)) := by rw [hsc h.b2]; rfl
  have e3 : ((W.setCell ⟨g + 2, 0, none⟩ lv).setCell ⟨g + 3, 0, none⟩ (.bool true)).heap[g + 3]? = some (.cells #[.bool true] 4 (0, 0)) := by rw [hsc ((sc_blk _ _ _ (by omega)).trans h.b3)]; rfl
  refine ⟨(h.lo.kt k fun b hb => ⟨fun e => ?_, fun u => ?_⟩).low (by omega), fun b hb => by have := (h.uu b hb).1; omega, ?_, ?_, ?_⟩
  · have h1 := (h.lo.ge e).1
    rcases hb with q | q | q
    · omega
    · omega
    · exact hD (q ▸ h.ui b (.inr (.inl e)))
  · have h1 := (h.uu b u).1
    rcases hb with q | q | q
    · omega
    · omega
    · exact hD (q ▸ h.ui b (.inl u))
  · refine ⟨k.os.trans h.kt.os, k.tape.trans h.kt.tape, k.output.trans h.kt.output, Nat.le_trans h.kt.size k.size, fun b hb => ?_⟩
    exact (k.block b (Nat.lt_of_lt_of_le hb h.kt.size) (by omega)).trans (h.kt.block b hb (by omega))
  · rw [Joins.cell_of_block ((World.putObj_heap_other (by omega)).trans ((sc_blk _ _ _ (by omega)).trans e2))]; rfl
  · rw [Joins.cell_of_block ((World.putObj_heap_other (by omega)).trans e3)]; rfl
theorem nilF (f : Nat) (lb : Array Value) (W : World) : (binOp .eql 63 (.func (.func f) #[] lb) .nilFunc).run Tryd.prog W = .ok (.bool false) W := by kernel_rfl
set_option maxRecDepth 100000 in
set_option maxHeartbeats 8000000 in
theorem gone_c {D p : Int} {F : List Int} {V : Nat → Prop} (n top : Int) (fv : Value) (w : World) (aN aR : Addr) (hF : FlR V w fv F) (hN : w.cell? ⟨4, 0, none⟩ = some (ev aN)) (hR : w.cell? ⟨2, 0, none⟩ = some (ev aR)) (hb : F.length * 8 ≤ 140737488355328) :
    Calls Tryd.prog 30 #[.int .i64 n, .agg #[.int .i64 D, fv, .int .i64 p], .int .i64 top] w fun e w' => ∃ lv ss UU, e = .returned (.tuple #[lv, .bool true]) ∧ Lrw w.heap.size UU w' lv (tops top (alP D p F n)) ss ∧ (∀ b, UU b → w.heap.size ≤ b) ∧ Below w.heap.size w w' := by
  obtain ⟨wa, ewa⟩ : ∃ wa, Hid ((((w.alloc (.cells #[.int .i64 D, fv, .int .i64 p] 45)).alloc (.cells #[.int .i64 top] 3)).alloc (.cells #[.slice none 0 0] 22)).alloc (.cells #[.bool false] 4) = wa) := ⟨_, (rfl : _ = _)⟩
  obtain ⟨g, hg⟩ : ∃ g, Hid (w.heap.size = g) := ⟨_, (rfl : _ = _)⟩
  have Ba : Below w.heap.size w wa := by rw [← ewa.out]; exact ((((Below.refl _ _).alloc (Nat.le_refl _) _).alloc (by simp) _).alloc (by simp; omega) _).alloc (by simp; omega) _
  have sa : Hid (wa.heap.size = g + 4) := by show _ = _; rw [← ewa.out, ← hg.out]; simp
  have Xa : Hid (Bp wa g D fv p) := by
    have h := Bp.new w D p fv
    rw [hg.out] at h
    show Bp wa g D fv p
    rw [← ewa.out]
    exact ((h.bel ((Below.refl _ _).alloc (Nat.le_refl _) _)).bel ((Below.refl _ _).alloc (Nat.le_refl _) _)).bel ((Below.refl _ _).alloc (Nat.le_refl _) _)
  have hblk : Hid (wa.heap[g + 1]? = some (.cells #[.int .i64 top] 3 (0, 0)) ∧ wa.heap[g + 2]? = some (.cells #[.slice none 0 0] 22 (0, 0)) ∧ wa.heap[g + 3]? = some (.cells #[.bool false] 4 (0, 0))) := by
    have h1 := heap_alloc_new (w.alloc (.cells #[.int .i64 D, fv, .int .i64 p] 45)) (.cells #[.int .i64 top] 3)
    have h2 := heap_alloc_new ((w.alloc (.cells #[.int .i64 D, fv, .int .i64 p] 45)).alloc (.cells #[.int .i64 top] 3)) (.cells #[.slice none 0 0] 22)
    have h3 := heap_alloc_new (((w.alloc (.cells #[.int .i64 D, fv, .int .i64 p] 45)).alloc (.cells #[.int .i64 top] 3)).alloc (.cells #[.slice none 0 0] 22)) (.cells #[.bool false] 4)
    simp only [World.size_alloc, hg.out] at h1 h2 h3
    refine ⟨?_, ?_, ?_⟩
    · rw [← ewa.out, Below.heap_alloc _ _ _ (by simp [hg.out]), Below.heap_alloc _ _ _ (by simp [hg.out])]; exact h1
    · rw [← ewa.out, Below.heap_alloc _ _ _ (by simp [hg.out])]; exact h2
    · rw [← ewa.out]; exact h3
  have hFa : Hid (FlR V wa fv F) := hF.kt (T := fun _ => False) (KT.of_below Ba) (fun _ h => h.elim)
  have hR1 := (Ba.cell (p := ⟨2, 0, none⟩) (cell_lt hR)).trans hR
  have hN1 := (Ba.cell (p := ⟨4, 0, none⟩) (cell_lt hN)).trans hN
  have hal := pall_c (D := D) (p := p) n fv wa aN aR hFa.out hN1 hR1 hb
  have halH : Hid (Calls Tryd.prog 36 #[.int .i64 n, .agg #[.int .i64 D, fv, .int .i64 p]] wa fun e w' => ∃ B1 B2 B3 fv', e = .returned (.func (.func 60) #[] (aL B1 B2 B3)) ∧ Fx (aC B1 B2 B3 (rfb D p F n) D fv' p n) w' ∧ (wa.heap.size ≤ B1 ∧ wa.heap.size ≤ B2 ∧ wa.heap.size ≤ B3) ∧ (rfb D p F n = false → FlR (fun b => wa.heap.size ≤ b) w' fv' F) ∧ Below wa.heap.size wa w') := hal
  have BaH : Hid (Below w.heap.size w wa) := Ba
  obtain ⟨ao, cap, rfl, _⟩ := hF
  rename_i hold
  clear hold hR hN hR1 hN1 Ba hb hal
  obtain ⟨L, hL⟩ : ∃ L, Hid (F.length = L) := ⟨_, (rfl : _ = _)⟩
  rw [hL.out] at ewa Xa hFa halH ⊢
  have x0 := Xa.out.c0
  have x1 := Xa.out.c1
  have x2 := Xa.out.c2
  refine callsIn_wide.1 (?_ : CallsIn Fence.wide 9 Tryd.prog _ _ _ _)
  refine callsIn_of_wp_marks Tryd.func30 rfl trivial ?_ rfl
  simp only [Tryd.ntmps30, List.size_toArray, List.length_cons, List.length_nil, Nat.reduceAdd, Nat.reduceSub, Array.replicate_succ, Array.replicate_zero, List.push_toArray, List.append_toArray, List.nil_append, List.cons_append]
  rw [← ewa.out] at x0 x1 x2
  gi_wp2_with fail
  rw [ewa.out, hg.out]
  refine ⟨trivial, (callsIn_wide.2 halH.out).mono ?_⟩
  rintro e w2 ⟨q1, q2, q3, fv', rfl, hfx, hBs, hfl, b2⟩
  have hfxH : Hid (Fx (aC q1 q2 q3 (rfb D p F n) D fv' p n) w2) := hfx
  have hBsH : Hid (wa.heap.size ≤ q1 ∧ wa.heap.size ≤ q2 ∧ wa.heap.size ≤ q3) := hBs
  have hflH : Hid (rfb D p F n = false → FlR (fun b => wa.heap.size ≤ b) w2 fv' F) := hfl
  have b2H : Hid (Below wa.heap.size wa w2) := b2
  obtain ⟨w3, ew3⟩ : ∃ w3, Hid (w2.alloc (.cells #[.slice none 0 0] 22) = w3) := ⟨_, (rfl : _ = _)⟩
  obtain ⟨lb, hlb⟩ : ∃ lb, Hid (w2.heap.size = lb) := ⟨_, (rfl : _ = _)⟩
  clear hfx hBs hfl b2 x0 x1 x2 halH hFa Xa
  unfold aL
  have hnf := nilF 60 #[.pointer (some ⟨q1, 0, none⟩), .pointer (some ⟨q2, 0, none⟩), .pointer (some ⟨q3, 0, none⟩)]
  gi_wp2_with fail
  rw [ew3.out, hlb.out]
  clear hnf
  have B23 : Below w2.heap.size w2 w3 := by rw [← ew3.out]; exact (Below.refl _ _).alloc (Nat.le_refl _) _
  have s3' : Hid (w3.heap.size = lb + 1) := by show _ = _; rw [← ew3.out, ← hlb.out]; simp
  have hlbH : Hid (w3.heap[lb]? = some (.cells #[.slice none 0 0] 22 (0, 0))) := by show _ = _; rw [← ew3.out, ← hlb.out]; exact heap_alloc_new _ _
  have hgl : Hid (g + 4 ≤ lb) := by have := b2H.out.size; have := sa.out; have := hlb.out; show _ ≤ _; omega
  have hfx3 : Hid (Fx (aC q1 q2 q3 (rfb D p F n) D fv' p n) w3) := fun r hr => (B23.block _ (blk_lt (hfxH.out r hr))).trans (hfxH.out r hr)
  have hVq : Hid (∀ r ∈ aC q1 q2 q3 (rfb D p F n) D fv' p n, g + 4 ≤ r.1 ∧ r.1 < lb) := fun r hr => by
    have h1 := blk_lt (hfxH.out r hr)
    have h2 := hBsH.out
    have h3 := sa.out
    have h4 := hlb.out
    refine ⟨?_, by omega⟩
    simp only [aC, List.mem_cons, List.not_mem_nil, or_false] at hr
    rcases hr with rfl | rfl | rfl <;> simp only <;> omega
  have hfl3 : Hid (rfb D p F n = false → FlR (fun b => g + 4 ≤ b ∧ b < lb) w3 fv' F) := fun hr => by
    obtain ⟨a', c', e', hc'⟩ := hflH.out hr
    refine ⟨a', c', e', fun i hi => ?_⟩
    obtain ⟨b, off, k1, k2, k3, k4⟩ := hc' i hi
    have k5 : wa.heap.size ≤ b := k2
    have := sa.out
    have := hlb.out
    exact ⟨b, off, k1, ⟨by omega, by omega⟩, Nat.lt_of_lt_of_le k3 B23.size, (World.cell?_of_block (a := ⟨b, off + i, none⟩) (B23.block b k3)).trans k4⟩
  have hBw : Hid (Below w.heap.size w w3) := btr (btr BaH.out b2H.out) B23
  have h4 : ∀ b, b < g + 4 → w3.heap[b]? = wa.heap[b]? := fun b hb => (B23.block b (by have := hgl.out; have := hlb.out; omega)).trans (b2H.out.block b (by have := sa.out; omega))
  have i0 : Hid (GI g lb top w [] (fun b => b < g + 4 ∨ b = lb) w3) := ⟨.slice none 0 0, [], fun _ => False, Lrw.nil _ _ _, hlbH.out, (h4 _ (by omega)).trans hblk.out.1, (h4 _ (by omega)).trans hblk.out.2.1, (h4 _ (by omega)).trans hblk.out.2.2, fun b h => h.elim, (KT.of_below hBw.out).weak fun b _ (h : False) => h.elim, hg.out, hgl.out, fun b hb => by
    rcases hb with h | h | h | h
    · exact h.elim
    · cases h
    · exact .inr h
    · exact .inl h⟩
  clear B23 h4
  have hxl : Hid ((alP D p F n).length ≤ 4096) := alP_len _ _ _ _
  obtain ⟨XS, hXS⟩ : ∃ XS, Hid (alP D p F n = XS) := ⟨_, (rfl : _ = _)⟩
  have hseq : Hid (SeqU Tryd.prog 60 (aL q1 q2 q3) (aC q1 q2 q3 (rfb D p F n) D fv' p n) toldO XS True (fun V W => rfb D p F n = false → FlR V W fv' F) (fun _ => False)) := by
    have h := alP_seq (B1 := q1) (B2 := q2) (B3 := q3) (D := D) (p := p) (F := F) (fv := fv') n True
    rw [hXS.out] at h; exact h
  rw [hXS.out] at hxl
  refine rangeU (g := .tmp 16) (p0 := 17) rfl (fun args w => by kernel_rfl) hseq.out toldO_st (fun _ _ _ _ a k hT h => (a h).kt k hT) (V := fun b => g + 4 ≤ b ∧ b < lb) (U := fun b => b < g + 4 ∨ b = lb) hfl3.out hfx3.out hVq.out
    (fun b hb => by have := s3'.out; omega) (fun b hb => by have := s3'.out; have := hgl.out; rcases hb with h | h <;> omega) (fun b hb hu => by rcases hu with h | h <;> omega)
    (fun pre Ui W => GI g lb top w pre Ui W ∧ (1 ≤ top → (pre.length : Int) < top)) (fun c pre Ui W => c = Code.exit 0 ∧ GI g lb top w pre Ui W ∧ 1 ≤ top ∧ (pre.length : Int) = top)
    (fun s U W W' T h k ha => ⟨GI.stb s U W W' T h.1 k ha, h.2⟩) (fun c s U W W' T h k ha => ⟨h.1, GI.stb s U W W' T h.2.1 k ha, h.2.2⟩)
    ⟨i0.out, fun h => by simp only [List.length_nil]; omega⟩
    (AxV fun v9 p9 => { tmps := #[.int .i64 n, .agg #[.int .i64 D, .slice ao L cap, .int .i64 p], .int .i64 top, undef, .pointer (some ⟨g, 0, none⟩), .pointer (some ⟨g + 1, 0, none⟩), .pointer (some ⟨g + 2, 0, none⟩), .pointer (some ⟨g + 3, 0, none⟩), .func (.func 60) #[] #[.pointer (some ⟨q1, 0, none⟩), .pointer (some ⟨q2, 0, none⟩), .pointer (some ⟨q3, 0, none⟩)], .pointer (some ⟨lb, 0, none⟩), p9, .int .i64 n, .agg #[.int .i64 D, .slice ao L cap, .int .i64 p], .func (.func 60) #[] #[.pointer (some ⟨q1, 0, none⟩), .pointer (some ⟨q2, 0, none⟩), .pointer (some ⟨q3, 0, none⟩)], .func (.func 60) #[] #[.pointer (some ⟨q1, 0, none⟩), .pointer (some ⟨q2, 0, none⟩), .pointer (some ⟨q3, 0, none⟩)], .bool false, .func (.func 60) #[] #[.pointer (some ⟨q1, 0, none⟩), .pointer (some ⟨q2, 0, none⟩), .pointer (some ⟨q3, 0, none⟩)], v9, undef, undef, undef, undef, undef, undef, undef, undef, undef, undef, undef, undef, undef, undef], defers := [] }) AxV.st ?assign ?body ?done ?stop
  case assign =>
    intro l1 x v O W3 K ht hK
    obtain ⟨va, vc, rfl⟩ := Os.shape ht
    generalize x.ks.length = vl at *
    gi_wp2
    refine hK _ _ ((KT.refl _ W3).alloc _) ⟨W3.heap.size, x.k, x.n, .slice va vl vc, Nat.le_refl _, rfl, ?_, rfl⟩
    exact heap_alloc_new W3 _
  case body =>
    rintro l1 pre x v a' Ui O lo W3 ⟨⟨lv, ss, UU, h⟩, hpt⟩ ht hO hU hlo1 hlo2 hOU hp ⟨Bx, k, m9, s, hBx, rfl, hBb, rfl⟩
    obtain ⟨sa1, sc, e⟩ := Os.shape ht
    simp only [Value.agg.injEq, Array.mk.injEq, List.cons.injEq, Value.int.injEq, true_and, and_true] at e
    obtain ⟨rfl, rfl, rfl⟩ := e
    obtain ⟨oa, oc, rfl⟩ := h.lo.shape
    have htH : Hid (Os O W3 x (.agg #[.int .i64 x.k, .int .i64 x.n, .slice sa1 x.ks.length sc])) := ht
    have hH : Hid (GP4 g lb top w pre Ui W3 (.slice oa pre.length oc) ss UU) := h
    have hle : pre.length + 1 ≤ 4096 := by
      have h1 := hp.length_le
      rw [List.length_append, List.length_singleton] at h1
      have := hxl.out
      omega
    have hlen : (cso pre ss).length = pre.length * 3 := cso_len _ _ h.lo.len
    have hB4 : g + 4 ≤ W3.heap.size := by have := blk_lt h.bl; have := h.gl; omega
    have hn1 : (Value.slice oa pre.length oc).ownBlock ≠ some Bx := fun e => by
      have := hU _ (h.ui _ (.inr (.inl e)))
      omega
    have hlb3 := h.bl
    have hown := h.lo.own
    have hOH : Hid ((∀ b, O b → b < lo) ∧ lo ≤ W3.heap.size ∧ Ap O Ui ∧ ∀ b, Ui b → b < lo) := ⟨hO, hlo2, hOU, hU⟩
    have hptH : Hid (1 ≤ top → (pre.length : Int) < top) := hpt
    obtain ⟨K, hK⟩ : ∃ z, Hid (pre.length = z) := ⟨_, (rfl : _ = _)⟩
    obtain ⟨xk, hxk⟩ : ∃ z, Hid (x.k = z) := ⟨_, (rfl : _ = _)⟩
    obtain ⟨xn, hxn⟩ : ∃ z, Hid (x.n = z) := ⟨_, (rfl : _ = _)⟩
    obtain ⟨xl, hxl2⟩ : ∃ z, Hid (x.ks.length = z) := ⟨_, (rfl : _ = _)⟩
    obtain ⟨xs, hxs⟩ : ∃ z, Hid (cso pre ss = z) := ⟨_, (rfl : _ = _)⟩
    rw [hxk.out, hxn.out, hxl2.out] at hBb ⊢
    rw [hK.out] at hle hn1 hlb3
    rw [hK.out, hxs.out] at hlen hown
    clear h ht hO hlo1 hlo2 hOU hU hp hpt hBx
    gi_wp2_with fail
    refine gn7_reg (B := g + 4) hBb hlb3 hown hlen (by omega) hB4 hn1 ?_
    intro r c W6 hG
    rw [← hK.out, ← hxs.out, ← hxk.out, ← hxn.out, ← hxl2.out] at hG
    obtain ⟨hP, hkt, hru, hrs⟩ := hH.out.push htH.out hOH.out.1 hOH.out.2.1 hOH.out.2.2.1 hG
    have c8 : W6.cell? ⟨lb, 0, none⟩ = some (.slice (some ⟨r, 0, none⟩) (K + 1) c) := by rw [Joins.cell_of_block hP.bl, hK.out]; rfl
    have t8 : W6.cell? ⟨g + 1, 0, none⟩ = some (.int .i64 top) := by rw [Joins.cell_of_block hP.b1]; rfl
    have hfin : Hid (KT (fun b => Ui b ∨ (True ∧ O b) ∨ lo ≤ b) W3 W6 ∧ (∀ b, (Ui b ∨ O b ∨ b = r) → Ui b ∨ (True ∧ O b) ∨ lo ≤ b) ∧ Bd (fun b => Ui b ∨ O b ∨ b = r) W6 ∧ GI g lb top w (pre ++ [x]) (fun b => Ui b ∨ O b ∨ b = r) W6) := by
      have hOx := hOH.out
      refine ⟨hkt.weak fun b _ e => ?_, fun b hb => ?_, fun b hb => ?_, _, _, _, hP⟩
      · rcases e with e | e
        · exact .inl e
        · exact .inr (.inr (by omega))
      · rcases hb with hb | hb | hb
        · exact .inl hb
        · exact .inr (.inl ⟨trivial, hb⟩)
        · subst hb
          rcases hru with q | q
          · exact .inl q
          · exact .inr (.inr (by omega))
      · rcases hb with hb | hb | hb
        · have := hOx.2.2.2 b hb; have := hkt.size; omega
        · have := hOx.1 b hb; have := hkt.size; omega
        · subst hb; exact hrs
    have hlen2 : Hid (((pre ++ [x]).length : Int) = (K : Int) + 1) := by show _ = _; simp [hK.out]
    clear hBb hlb3 hown hlen hB4 hn1 hG hP hkt hru hrs
    simp only [Exit.then]
    rename_i hKK
    refine hKK _ _ ?_
    clear hKK
    have hle2 : ¬ ((K : Int) + 1 > 4096) := by omega
    by_cases hE : (K : Int) + 1 = top
    · have hE' : ((K : Int) + 1 == top) = true := beq_iff_eq.2 hE
      gi_wp2_with fail
      exact ⟨_, hfin.out.1, hfin.out.2.1, hfin.out.2.2.1, rfl, hfin.out.2.2.2, by omega, by rw [hlen2.out]; exact hE⟩
    · have hE' : ((K : Int) + 1 == top) = false := beq_eq_false_iff_ne.2 hE
      gi_wp2_with fail
      refine ⟨_, hfin.out.1, hfin.out.2.1, hfin.out.2.2.1, hfin.out.2.2.2, fun h1 => ?_⟩
      have h2 := hptH.out h1
      rw [hlen2.out]
      have := hK.out
      omega
  case done =>
    rintro U' V' W3 sr hsm hup hold bV' bU' hap nu nv ⟨⟨lv, ss, UU, h⟩, hpt⟩ hK
    rw [s3'.out] at nu hK ⊢
    obtain ⟨oa, oc, rfl⟩ := h.lo.shape
    have hf := h.fin nu
    have hfH : Hid _ := hf
    have hX : Hid (tops top (alP D p F n) = XS) := by
      show _ = _
      rw [hXS.out]
      unfold tops
      by_cases h1 : 1 ≤ top
      · have := hpt h1
        rw [if_pos h1, List.take_of_length_le (by omega)]
      · rw [if_neg h1]
    have hK' : Hid ((((W3.setCell ⟨g + 2, 0, none⟩ (.slice oa XS.length oc)).setCell ⟨g + 3, 0, none⟩ (.bool true)).heap[lb + 1]? = some (.deferred (some [])))) := by
      show _ = _
      rw [sc_blk _ _ _ (by have := h.gl; show _ ≠ g + 3; omega), sc_blk _ _ _ (by have := h.gl; show _ ≠ g + 2; omega)]; exact hK
    have e2 : W3.cell? ⟨g + 2, 0, none⟩ = some (.slice none 0 0) := by rw [Joins.cell_of_block h.b2]; rfl
    have e3 : (W3.setCell ⟨g + 2, 0, none⟩ (.slice oa XS.length oc)).heap[g + 3]? = some (.cells #[.bool false] 4 (0, 0)) := (sc_blk _ _ _ (by show _ ≠ g + 2; omega)).trans h.b3
    have f2 : W3.frozen? ⟨g + 2, 0, none⟩ = false := Joins.unfrozen_of_block h.b2 0
    have c3 : (W3.setCell ⟨g + 2, 0, none⟩ (.slice oa XS.length oc)).cell? ⟨g + 3, 0, none⟩ = some (.bool false) := by rw [Joins.cell_of_block e3]; rfl
    have f3 : (W3.setCell ⟨g + 2, 0, none⟩ (.slice oa XS.length oc)).frozen? ⟨g + 3, 0, none⟩ = false := Joins.unfrozen_of_block e3 0
    have c9 : W3.cell? ⟨lb, 0, none⟩ = some (.slice oa XS.length oc) := by rw [Joins.cell_of_block h.bl]; rfl
    have r2 := hf.2.2.2.1
    have r3 := hf.2.2.2.2
    clear sr hsm hup hold bV' bU' hap nu nv hpt hK hf e3 h
    obtain ⟨LL, hLL⟩ : ∃ z, Hid (XS.length = z) := ⟨_, (rfl : _ = _)⟩
    rw [hLL.out] at c3 f3 c9 r2 r3 hK'
    gi_wp2_with fail
    refine ⟨by simp, .inl ⟨_, _, rfl, run_takeDeferred hK'.out, .tuple #[.slice oa LL oc, .bool true], by simp [results, Tryd.f30, go_sem, r2, r3], ?_⟩⟩
    rw [hX.out, ← hLL.out]
    exact ⟨_, _, _, rfl, hfH.out.1, hfH.out.2.1, hfH.out.2.2.1⟩
  case stop =>
    rintro c pre U' V' W3 hpx sr hsm hup hold bV' bU' hap nu nv ⟨rfl, ⟨lv, ss, UU, h⟩, ht1, hpt⟩ hK
    rw [s3'.out] at nu hK ⊢
    obtain ⟨oa, oc, rfl⟩ := h.lo.shape
    have hf := h.fin nu
    have hfH : Hid _ := hf
    have hX : Hid (tops top (alP D p F n) = pre) := by
      show _ = _
      rw [hXS.out]
      unfold tops
      rw [if_pos ht1]
      obtain ⟨rr, hrr⟩ := hpx
      rw [← hrr, show top.toNat = pre.length by omega, List.take_left']
      rfl
    have hK' : Hid ((((W3.setCell ⟨g + 2, 0, none⟩ (.slice oa pre.length oc)).setCell ⟨g + 3, 0, none⟩ (.bool true)).heap[lb + 1]? = some (.deferred (some [])))) := by
      show _ = _
      rw [sc_blk _ _ _ (by have := h.gl; show _ ≠ g + 3; omega), sc_blk _ _ _ (by have := h.gl; show _ ≠ g + 2; omega)]; exact hK
    have e2 : W3.cell? ⟨g + 2, 0, none⟩ = some (.slice none 0 0) := by rw [Joins.cell_of_block h.b2]; rfl
    have e3 : (W3.setCell ⟨g + 2, 0, none⟩ (.slice oa pre.length oc)).heap[g + 3]? = some (.cells #[.bool false] 4 (0, 0)) := (sc_blk _ _ _ (by show _ ≠ g + 2; omega)).trans h.b3
    have f2 : W3.frozen? ⟨g + 2, 0, none⟩ = false := Joins.unfrozen_of_block h.b2 0
    have c3 : (W3.setCell ⟨g + 2, 0, none⟩ (.slice oa pre.length oc)).cell? ⟨g + 3, 0, none⟩ = some (.bool false) := by rw [Joins.cell_of_block e3]; rfl
    have f3 : (W3.setCell ⟨g + 2, 0, none⟩ (.slice oa pre.length oc)).frozen? ⟨g + 3, 0, none⟩ = false := Joins.unfrozen_of_block e3 0
    have c9 : W3.cell? ⟨lb, 0, none⟩ = some (.slice oa pre.length oc) := by rw [Joins.cell_of_block h.bl]; rfl
    have r2 := hf.2.2.2.1
    have r3 := hf.2.2.2.2
    clear sr hsm hup hold bV' bU' hap nu nv ht1 hpt hK hf e3 h
    obtain ⟨LL, hLL⟩ : ∃ z, Hid (pre.length = z) := ⟨_, (rfl : _ = _)⟩
    rw [hLL.out] at c3 f3 c9 r2 r3 hK'
    gi_wp2_with fail
    refine ⟨by simp, .inl ⟨_, _, rfl, run_takeDeferred hK'.out, .tuple #[.slice oa LL oc, .bool true], by simp [results, Tryd.f30, go_sem, r2, r3], ?_⟩⟩
    rw [hX.out, ← hLL.out]
    exact ⟨_, _, _, rfl, hfH.out.1, hfH.out.2.1, hfH.out.2.2.1⟩
end Go.Proofs.YtoaccmblaifnmaaDoor
