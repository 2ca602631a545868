/-
  Package planner's cheapest.
-/
import Derived.Test.YtoaccmblaifnmaaDoorProg
import Derived.WalkKit
import Ieee.Arith
import Derived.WalkLawsBesides
import Derived.Outline
import Derived.Deep.QuietTactic
import Derived.BigQuiet
import Derived.WalkSmall
import Derived.RegionTactic
import Derived.Lib.Mul64
import Derived.Laws.Bits64b
import Derived.Deep.CutBlock
import Derived.Deep.DeepCutAuto
import Derived.Maps.AppendAt
import Derived.Deep.RegionHeld3
import Derived.Deep.RegionWith
import Derived.Laws.OwnMore
import Derived.RangeFuncNested
import Derived.RangeFuncBound
import Derived.RangeFuncCalls
import Derived.RangeFuncLeaves
import Derived.RangeFuncBox
import Derived.Shelf.Abstract
import Derived.Shelf.RegionOpen
import Derived.OwnWalkIn
import Derived.TacticsInMore
import Derived.LoopNIn
import Derived.LoopIn
import Derived.Laws.Rows
import Derived.Lib.ItoaNum
import Derived.Laws.IdiomStrings
import Derived.Lib.SmallJoins
import Derived.Lib.HexFns
import Derived.Test.YtoaccmblaifnmaaDoorRows
import Derived.LaidEql
import Derived.LaidLaws
import Derived.LaidHandle
import Derived.Stop.Joined
import Derived.Recover
import Derived.RegionDies
import Derived.Laws.CopyOwn
import Derived.Lib.AppendIntMem
import Derived.Laws.AppendOwn
import Derived.OwnWalk
import Derived.BigCall
import Derived.Deep.RegionHeldLaw
import Derived.Laws.FloatArith
import Derived.Laws.ComplexArith
import Derived.Laws.MakeOwn
import Derived.MapKept
import Derived.Carry
import Derived.Test.YtoaccmblaifnmaaDoorBd1
import Derived.Test.YtoaccmblaifnmaaDoorBb1
namespace Go.Proofs.YtoaccmblaifnmaaDoor
open Flo Go.RowKit Go.Shelf Tr
attribute [local go_sem] Oper.semAt_some
/-- an order's blocks are no map -/
theorem Os.nomap {S : Nat → Prop} {w : World} {M : Nat} {es : Array MapEntry} {ck : Nat} (hM : w.heap[M]? = some (.map es ck)) {t : Tr} : ∀ {v : Value}, Os S w t v → Os (fun b => S b ∧ b ≠ M) w t v := by
  refine Tr.ind (P := fun t => ∀ {v : Value}, Os S w t v → Os (fun b => S b ∧ b ≠ M) w t v) (fun k n ks ih v h => ?_) t
  rw [os_eq] at h ⊢
  obtain ⟨ao, cap, rfl, hl, hc⟩ := h
  refine ⟨ao, cap, rfl, hl, fun i hi => ?_⟩
  obtain ⟨b, c, s, K, ho⟩ := hc i hi
  exact ⟨b, c, s, ⟨K.at0, ⟨K.set, fun e => by have := K.blk; rw [e, hM] at this; cases this⟩, K.blk, K.d0, K.d1, K.d2⟩, ih _ (List.getElem_mem hi) ho⟩
set_option maxRecDepth 100000 in
/-- a length written -/
theorem swrite2 {D p : Int} {F : List Int} {h M : Nat} {fv : Value} {Kn : Nat → Prop} {V V' : Nat → Prop} {W : World} (n : Nat) (a : Srh D p F h M fv (fun k => Kn k ∧ k ≠ n) V W) (v : Value) (hV : ∀ b, V b → V' b) (hkn : Kn n) (hdm : Pl.Dm p n) (ho : Os V' W (Pl.ch D F p n) v) :
    ∃ o, (∀ W1 : World, W1.heap = W.heap → (Instr.mapUpdate 99 (.map (some M)) (.int .i64 (n : Int)) v).run Tryd.prog W1 = .ok () (pmo W1 M o)) ∧ ∀ W1 : World, W1.heap = W.heap → Srh D p F h M fv Kn V' (pmo W1 M o) := by
  obtain ⟨es, clock, h1, h2⟩ := a.mp
  have hne : h ≠ M := fun e => by have := a.blk; rw [e, h1] at this; cases this
  have hMb : ∀ t (c : Value), Os V' W t c → Os (fun b => V' b ∧ b ≠ M) W t c := fun t c ho => Os.nomap h1 ho
  have hkeys : ∀ e ∈ es.toList, ∃ m : Int, e.key = .int .i64 m := fun e he => by obtain ⟨k, hk, _⟩ := h2 e he; exact ⟨_, hk⟩
  obtain ⟨r, hr, hc⟩ := fnow (n : Int) es.toList 0 hkeys
  have hck : ∀ (em : Bool) (W : World), (Instr.checkKey em 10000 3 (.int .i64 (n : Int))).run Tryd.prog W = .ok () W := fun em W => by
    unfold Instr.checkKey
    simp [run_underlying Tryd.underlying3]
  have hfk : ∀ W : World, (Instr.findKey 3 (.int .i64 (n : Int)) es.toList).run Tryd.prog W = .ok r W := fun W => by
    unfold Instr.findKey
    simp [run_underlying Tryd.underlying3, hr]
  rcases hc with ⟨rfl, hno⟩ | ⟨j, e, rfl, he, hek⟩
  · refine ⟨.map (es.push { key := .int .i64 (n : Int), val := v, born := clock }) (clock + 1), fun W1 hW => ?_, fun W1 hW => ?_⟩
    · have hm : W1.heap[M]? = some (.map es clock) := by rw [hW]; exact h1
      simp [Instr.mapUpdate, run_underlying Tryd.underlying99, MapKept.run_getObj_map hm, hck, hfk, MapKept.run_setObj_map _ hm, pmo]
    · have hMl : M < W1.heap.size := by rw [hW]; exact blk_lt h1
      have kp := pmo_kt W1 M (.map (es.push { key := .int .i64 (n : Int), val := v, born := clock }) (clock + 1)) (T := fun b => b = M) rfl
      have kW : ∀ b, b ≠ M → b < W.heap.size → (pmo W1 M (.map (es.push { key := .int .i64 (n : Int), val := v, born := clock }) (clock + 1))).heap[b]? = W.heap[b]? := fun b hb hl => by
        rw [kp.block b (by rw [hW]; exact hl) hb, hW]
      have kO : ∀ t (c : Value), Os V' W t c → Os V' (pmo W1 M (.map (es.push { key := .int .i64 (n : Int), val := v, born := clock }) (clock + 1))) t c := fun t c hO =>
        Os.keep (fun b hb => hb.1) (fun b hb hl => kW b hb.2 hl) t c (hMb t c hO)
      refine ⟨(kW h hne (blk_lt a.blk)).trans a.blk, hV _ a.vh, hV _ a.vM, ⟨_, _, pmo_at W1 M _ hMl, fun e he => ?_⟩, ?_⟩
      · simp only [Array.toList_push, List.mem_append, List.mem_singleton] at he
        rcases he with he | rfl
        · obtain ⟨k, k1, k2, k3, k4⟩ := h2 e he
          exact ⟨k, k1, k2.1, k3, kO _ _ (Os.keep (fun b hb => hV b hb) (fun _ _ _ => rfl) _ _ k4)⟩
        · exact ⟨n, rfl, hkn, hdm, kO _ _ ho⟩
      · obtain ⟨ao, cap, e, hc⟩ := a.fl
        refine ⟨ao, cap, e, fun i hi => ?_⟩
        obtain ⟨b, off, q1, q2, q3, q4⟩ := hc i hi
        have hbM : b ≠ M := fun e => by
          have h9 : W.cell? ⟨M, off + i, none⟩ = none := by unfold World.cell?; rw [h1]
          rw [e, h9] at q4; cases q4
        refine ⟨b, off, q1, hV _ q2, by have := kp.size; rw [hW] at this; omega, ?_⟩
        have := World.cell?_of_block (w := W) (w' := pmo W1 M (.map (es.push { key := .int .i64 (n : Int), val := v, born := clock }) (clock + 1))) (a := ⟨b, off + i, none⟩) (kW b hbM q3)
        rw [this]; exact q4
  · obtain ⟨k, k1, k2, _⟩ := h2 e he
    exact absurd (by rw [hek] at k1; injection k1 with _ h6; omega) k2.2
theorem hsc {w : World} {b i : Nat} {cs : Array Value} {T : TypeId} {fr : Nat × Nat} (hb : w.heap[b]? = some (.cells cs T fr)) (v : Value) : (w.setCell ⟨b, i, none⟩ v).heap[b]? = some (.cells (cs.setIfInBounds i v) T fr) := by
  simp [World.setCell, Array.getElem?_modify, hb]
/-- the cheapest one so far, in two boxes; N: all blocks ahead of it but the search's are the caller's -/
def CI (N : Nat) (V1 : Nat → Prop) (W1 : World) (b7 b8 : Nat) (pre : List Tr) (U : Nat → Prop) (W : World) : Prop :=
  ∃ (Bst : Nat → Prop) (a : Option Addr) (c : Nat), W.heap[b7]? = some (.cells #[.int .i64 (Pl.pks pre).1.k, .int .i64 (Pl.pks pre).1.n, .slice a (Pl.pks pre).1.ks.length c] 24 (0, 0)) ∧ W.heap[b8]? = some (.cells #[.int .i64 ((Pl.pks pre).2 : Int)] 3 (0, 0)) ∧
    Os Bst W (Pl.pks pre).1 (.agg #[.int .i64 (Pl.pks pre).1.k, .int .i64 (Pl.pks pre).1.n, .slice a (Pl.pks pre).1.ks.length c]) ∧ (∀ b, Bst b → b ≠ b7 ∧ b ≠ b8 ∧ (V1 b ∨ N ≤ b) ∧ b < W.heap.size) ∧ (∀ b, U b ↔ Bst b ∨ (b < N ∧ ¬ V1 b)) ∧ N ≤ W.heap.size ∧ (∀ b, b < N → ¬ V1 b → b ≠ b7 → b ≠ b8 → W.heap[b]? = W1.heap[b]?) ∧ W.os = W1.os ∧ W.tape = W1.tape ∧ W.output = W1.output
theorem CI.stb {N b7 b8 : Nat} {V1 : Nat → Prop} {W1 : World} (h7 : b7 < N ∧ ¬ V1 b7) (h8 : b8 < N ∧ ¬ V1 b8) : Stb (CI N V1 W1 b7 b8) := by
  rintro s U W W' T ⟨Bst, a, c, q1, q2, q3, q4, q5, q6, q7, q8⟩ hk ha
  have hT : ∀ b, b < N → ¬ V1 b → ¬ T b := fun b h1 h2 ht => ha b ht ((q5 b).2 (.inr ⟨h1, h2⟩))
  exact ⟨Bst, a, c, (hk.block _ (blk_lt q1) (hT _ h7.1 h7.2)).trans q1, (hk.block _ (blk_lt q2) (hT _ h8.1 h8.2)).trans q2, Os.keep (fun _ hb => hb) (fun b hb hl => hk.block b hl fun ht => ha b ht ((q5 b).2 (.inl hb))) _ _ q3, fun b hb => ⟨(q4 b hb).1, (q4 b hb).2.1, (q4 b hb).2.2.1, Nat.lt_of_lt_of_le (q4 b hb).2.2.2 hk.size⟩, q5, Nat.le_trans q6 hk.size, fun b h1 h2 h3 h4 => (hk.block b (Nat.lt_of_lt_of_le h1 q6) (hT b h1 h2)).trans (q7 b h1 h2 h3 h4), hk.os.trans q8.1, hk.tape.trans q8.2.1, hk.output.trans q8.2.2⟩
set_option maxRecDepth 100000 in
set_option maxHeartbeats 8000000 in
theorem cheapest_step {D p : Int} {F : List Int} {h M : Nat} {fv : Value} {Kn : Nat → Prop} (gp : Pl.GP D F p) (hF : F.length ≤ 1000) {n : Nat} (hdm : Pl.Dm p n) (hkn : Kn n)
    (hrec : ∀ q, Pl.Dm p q → Pl.mu p q < Pl.mu p n → CHC D p F h M fv (fun k => Kn k ∧ k ≠ n) q) : CHC D p F h M fv Kn n := by
  intro V W hSr bV
  have hSH0 : Hid (Srh D p F h M fv Kn V W) := hSr
  have bVH0 : Hid (Bd V W) := bV
  obtain ⟨b4, hb4⟩ : ∃ b4, Hid (W.heap.size = b4) := ⟨_, (rfl : _ = _)⟩
  obtain ⟨Wa, eWa⟩ : ∃ Wa, Hid (W.alloc (.cells #[.int .i64 0, .int .i64 0, .slice none 0 0] 24) = Wa) := ⟨_, (rfl : _ = _)⟩
  have ka : Below W.heap.size W Wa := by rw [← eWa.out]; exact (Below.refl _ _).alloc (Nat.le_refl _) _
  have ka' : ∀ T, KT T W Wa := fun T => KT.of_below ka
  have hSa : Hid (Srh D p F h M fv Kn V Wa) := hSr.below ka
  have bVa : Hid (Bd V Wa) := bV.kt (ka' V)
  have c3 := hSa.out.c3
  have x4 : Hid (Wa.heap[b4]? = some (.cells #[.int .i64 0, .int .i64 0, .slice none 0 0] 24 (0, 0))) := by show _ = _; rw [← eWa.out, ← hb4.out]; exact heap_alloc_new W _
  have sa : Hid (Wa.heap.size = b4 + 1) := by show _ = _; rw [← eWa.out, ← hb4.out]; simp
  have vb4 : Hid (∀ b, V b → b < b4) := fun b hb => by have := bV b hb; have := hb4.out; omega
  have kaH : Hid (∀ b, b < b4 → Wa.heap[b]? = W.heap[b]?) := fun b hb => ka.block b (by have := hb4.out; omega)
  have kaB : Hid (Below W.heap.size W Wa) := ka
  rcases slook hSa.out n with ⟨v, hlk, ov⟩ | ⟨hlk, hS2⟩
  · obtain ⟨a, c, rfl⟩ := Os.shape ov
    have ovH : Hid (Os V Wa (Pl.ch D F p n) (.agg #[.int .i64 (Pl.ch D F p n).k, .int .i64 (Pl.ch D F p n).n, .slice a (Pl.ch D F p n).ks.length c])) := ov
    obtain ⟨tk1, htk⟩ : ∃ z, Hid ((Pl.ch D F p n).k = z) := ⟨_, (rfl : _ = _)⟩
    obtain ⟨tn1, htn⟩ : ∃ z, Hid ((Pl.ch D F p n).n = z) := ⟨_, (rfl : _ = _)⟩
    obtain ⟨tl1, htl⟩ : ∃ z, Hid ((Pl.ch D F p n).ks.length = z) := ⟨_, (rfl : _ = _)⟩
    rw [htk.out, htn.out, htl.out] at hlk ovH
    have hl1 := hlk Wa rfl
    clear hSr bV ka ka' ov hlk hrec
    refine callsIn_wide.1 (?_ : CallsIn Fence.wide 9 Tryd.prog _ _ _ _)
    refine callsIn_of_wp_marks Tryd.func47 rfl trivial ?_ rfl
    simp only [Tryd.ntmps47, List.size_toArray, List.length_cons, List.length_nil, Nat.reduceAdd, Nat.reduceSub, Array.replicate_succ, Array.replicate_zero, List.push_toArray, List.append_toArray, List.nil_append, List.cons_append]
    rw [← eWa.out] at c3 hl1
    have b9 : Hid (Below W.heap.size W ((W.alloc (.cells #[.int .i64 tk1, .int .i64 tn1, .slice a tl1 c] 24)).alloc (.cells #[.int .i64 tk1, .int .i64 tn1, .slice a tl1 c] 24))) := ((Below.refl _ _).alloc (Nat.le_refl _) _).alloc (by simp) _
    have hov : Hid (Os V W (Pl.ch D F p n) (.agg #[.int .i64 tk1, .int .i64 tn1, .slice a tl1 c])) := Os.keep (fun _ hb => hb) (fun b hb hl => (kaH.out b (vb4.out b hb)).symm) _ _ ovH.out
    gi_wp2
    refine ⟨.agg #[.int .i64 tk1, .int .i64 tn1, .slice a tl1 c], ?_, _, V, rfl, hSH0.out.below b9.out, fun _ h => h, fun _ h => .inl h, fun b hb => Nat.lt_of_lt_of_le (bVH0.out b hb) b9.out.size, hov.out.bel b9.out, KT.of_below b9.out⟩
    simp [results, Tryd.f47, go_sem]
  · have hl1 := hlk Wa rfl
    obtain ⟨Wb, eWb⟩ : ∃ Wb, Hid (((Wa.alloc (.cells #[.int .i64 0, .int .i64 0, .slice none 0 0] 24)).alloc (.cells #[.int .i64 0, .int .i64 0, .slice none 0 0] 24)).alloc (.cells #[.int .i64 9223372036854775807] 3) = Wb) := ⟨_, (rfl : _ = _)⟩
    have kb : Below Wa.heap.size Wa Wb := by rw [← eWb.out]; exact (((Below.refl _ _).alloc (Nat.le_refl _) _).alloc (by simp) _).alloc (by simp; omega) _
    have sb : Hid (Wb.heap.size = b4 + 4) := by show _ = _; rw [← eWb.out]; simp [sa.out]
    have x7 : Hid (Wb.heap[b4 + 2]? = some (.cells #[.int .i64 0, .int .i64 0, .slice none 0 0] 24 (0, 0))) := by
      show _ = _
      rw [← eWb.out, Below.heap_alloc _ _ _ (by simp [sa.out])]
      have := heap_alloc_new (Wa.alloc (.cells #[.int .i64 0, .int .i64 0, .slice none 0 0] 24)) (.cells #[.int .i64 0, .int .i64 0, .slice none 0 0] 24)
      rw [World.size_alloc, sa.out] at this; exact this
    have x8 : Hid (Wb.heap[b4 + 3]? = some (.cells #[.int .i64 9223372036854775807] 3 (0, 0))) := by
      show _ = _
      rw [← eWb.out]
      have := heap_alloc_new ((Wa.alloc (.cells #[.int .i64 0, .int .i64 0, .slice none 0 0] 24)).alloc (.cells #[.int .i64 0, .int .i64 0, .slice none 0 0] 24)) (.cells #[.int .i64 9223372036854775807] 3)
      rw [World.size_alloc, World.size_alloc, sa.out] at this; exact this
    have x4b : Hid (Wb.heap[b4]? = some (.cells #[.int .i64 0, .int .i64 0, .slice none 0 0] 24 (0, 0))) := (kb.block b4 (by have := sa.out; omega)).trans x4.out
    have hSb : Hid (Srh D p F h M fv (fun k => Kn k ∧ k ≠ n) V Wb) := hS2.below kb
    have kbB : Hid (Below W.heap.size W Wb) := ka.trans (kb.mono ka.size)
    have hoc : Hid (Calls Tryd.prog 70 #[.pointer (some ⟨h, 0, none⟩), .int .i64 (n : Int), .func (.func 71) #[.pointer (some ⟨h, 0, none⟩)] #[]] Wb fun e w' => e = .returned (.func (.func 92) #[] (oL Wb.heap.size)) ∧ Fx (oC Wb.heap.size h n 71) w' ∧ Below Wb.heap.size Wb w') := orders_c h n _ Wb
    have hseq : ∀ B, SeqU Tryd.prog 92 (oL B) (oC B h n 71) toldO (Pl.cnd D F (fun m => [Pl.ch D F p m]) (Pl.blu p (Pl.ch D F p) n) n) True (Srh D p F h M fv (fun k => Kn k ∧ k ≠ n)) (fun b => b = M) := fun B =>
      orders_seq gp hF hdm (fun args w => by kernel_rfl) (fun q d1 d2 => only_sec (hrec q d1 d2)) (fun q d1 d2 t ht => by
        rw [List.mem_singleton] at ht
        subst ht
        have h1 := (Pl.ch_gd gp _ q d1 (Nat.le_refl _)).few
        have h2 := Pl.pb_le d1
        omega) (fun hne => by obtain ⟨d1, d2, _⟩ := Pl.inn_dm gp.p2 hdm.1 hne; exact hrec _ d1 d2) B True
    have hseqH : Hid (∀ B, SeqU Tryd.prog 92 (oL B) (oC B h n 71) toldO (Pl.cnd D F (fun m => [Pl.ch D F p m]) (Pl.blu p (Pl.ch D F p) n) n) True (Srh D p F h M fv (fun k => Kn k ∧ k ≠ n)) (fun b => b = M)) := hseq
    have hgd : Hid (∀ t ∈ Pl.cnd D F (fun m => [Pl.ch D F p m]) (Pl.blu p (Pl.ch D F p) n) n, Pl.Gd p n t) :=
      Pl.cnd_gd gp hdm (fun m d1 d2 t ht => by rw [List.mem_singleton] at ht; subst ht; exact Pl.ch_gd gp _ m d1 (Nat.le_refl _)) (fun m d1 d2 => Pl.ch_gd gp _ m d1 (Nat.le_refl _))
    have hcheq : Hid (Pl.ch D F p n = (Pl.pks (Pl.cnd D F (fun m => [Pl.ch D F p m]) (Pl.blu p (Pl.ch D F p) n) n)).1) := Pl.ch_eq gp.p2 hdm
    have hnp : Hid (1 ≤ n ∧ Pl.Dm p n ∧ Kn n) := ⟨hdm.1, hdm, hkn⟩
    clear hSr bV ka ka' hlk hrec kb hS2 hseq
    generalize Pl.cnd D F (fun m => [Pl.ch D F p m]) (Pl.blu p (Pl.ch D F p) n) n = XS at *
    refine callsIn_wide.1 (?_ : CallsIn Fence.wide 9 Tryd.prog _ _ _ _)
    refine callsIn_of_wp_marks Tryd.func47 rfl trivial ?_ rfl
    simp only [Tryd.ntmps47, List.size_toArray, List.length_cons, List.length_nil, Nat.reduceAdd, Nat.reduceSub, Array.replicate_succ, Array.replicate_zero, List.push_toArray, List.append_toArray, List.nil_append, List.cons_append]
    rw [← eWa.out] at c3 hl1
    gi_wp2_with fail
    rw [eWa.out, eWb.out, hb4.out]
    refine ⟨trivial, (callsIn_wide.2 hoc.out).mono ?_⟩
    rintro e W2 ⟨rfl, hfx, b2⟩
    obtain ⟨BB, hBB⟩ : ∃ BB, Hid (Wb.heap.size = BB) := ⟨_, (rfl : _ = _)⟩
    rw [hBB.out] at hfx ⊢
    have fxH : Hid (Fx (oC BB h n 71) W2) := hfx
    have b2H : Hid (Below Wb.heap.size Wb W2) := b2
    clear hfx b2
    unfold oL
    gi_wp2_with fail
    obtain ⟨b7, hb7⟩ : ∃ b7, Hid (b4 + 1 + 1 = b7) := ⟨_, (rfl : _ = _)⟩
    obtain ⟨b8, hb8⟩ : ∃ b8, Hid (b4 + 1 + 1 + 1 = b8) := ⟨_, (rfl : _ = _)⟩
    rw [hb8.out, hb7.out]
    obtain ⟨N, hN⟩ : ∃ N, Hid (W2.heap.size = N) := ⟨_, (rfl : _ = _)⟩
    have hBN : Hid (BB = b4 + 4 ∧ BB ≤ N) := ⟨by rw [← hBB.out]; exact sb.out, by have h1 := b2H.out.size; have h2 := hN.out; have h3 := hBB.out; omega⟩
    have hV1 : Hid (∀ b, (V b ∨ ∃ r ∈ oC BB h n 71, r.1 = b) → (b < b4 ∧ V b) ∨ (BB ≤ b ∧ b < N)) := fun b hb => by
      rcases hb with hb | ⟨r, hr, rfl⟩
      · exact .inl ⟨vb4.out b hb, hb⟩
      · refine .inr ⟨?_, by rw [← hN.out]; exact blk_lt (fxH.out r hr)⟩
        simp only [oC, List.mem_cons, List.not_mem_nil, or_false] at hr
        rcases hr with rfl | rfl | rfl <;> simp
    have h7 : Hid (b7 < N ∧ ¬ (V b7 ∨ ∃ r ∈ oC BB h n 71, r.1 = b7)) := ⟨by have := hBN.out; have := hb7.out; omega, fun hh => by have := hV1.out _ hh; have := hBN.out; have := hb7.out; omega⟩
    have h8 : Hid (b8 < N ∧ ¬ (V b8 ∨ ∃ r ∈ oC BB h n 71, r.1 = b8)) := ⟨by have := hBN.out; have := hb8.out; omega, fun hh => by have := hV1.out _ hh; have := hBN.out; have := hb8.out; omega⟩
    have y7 : Hid (W2.heap[b7]? = some (.cells #[.int .i64 0, .int .i64 0, .slice none 0 0] 24 (0, 0))) := by show _ = _; rw [← hb7.out, b2H.out.block _ (by have := sb.out; omega)]; exact x7.out
    have y8 : Hid (W2.heap[b8]? = some (.cells #[.int .i64 9223372036854775807] 3 (0, 0))) := by show _ = _; rw [← hb8.out, b2H.out.block _ (by have := sb.out; omega)]; exact x8.out
    have hS2 : Hid (Srh D p F h M fv (fun k => Kn k ∧ k ≠ n) (fun b => V b ∨ ∃ r ∈ oC BB h n 71, r.1 = b) W2) := (hSb.out.below b2H.out).up fun b hb => .inl hb
    clear x7 x8 hSb
    refine rangeU (g := .tmp 26) (p0 := 27) rfl (fun args w => by kernel_rfl) (hseqH.out BB) toldO_st (fun _ _ _ _ a k hT => a.kt k hT) (V := fun b => V b ∨ ∃ r ∈ oC BB h n 71, r.1 = b) (U := fun b => False ∨ (b < N ∧ ¬ (V b ∨ ∃ r ∈ oC BB h n 71, r.1 = b))) hS2.out fxH.out (fun r hr => .inr ⟨r, hr, rfl⟩)
      (fun b hb => by have := hV1.out b hb; have := hBN.out; have := hN.out; omega) (fun b hb => by rcases hb with hb | hb; exact hb.elim; have := hN.out; omega) (fun b hb hu => by rcases hu with hu | hu; exact hu; exact hu.2 hb)
      (CI N (fun b => V b ∨ ∃ r ∈ oC BB h n 71, r.1 = b) W2 b7 b8) (fun _ _ _ _ => False) (CI.stb h7.out h8.out) (fun _ _ _ _ _ _ hh _ _ => hh.elim)
      ⟨fun _ => False, none, 0, y7.out, y8.out, Os.leaf ⟨⟨by decide, by decide⟩, by decide, by decide⟩, fun _ hh => hh.elim, fun _ => Iff.rfl, Nat.le_of_eq hN.out.symm, fun _ _ _ _ _ => rfl, rfl, rfl, rfl⟩
      (AxV fun v p => { tmps := #[.pointer (some ⟨h, 0, none⟩), .int .i64 (n : Int), undef, undef, .pointer (some ⟨b4, 0, none⟩), .pointer (some ⟨b4 + 1, 0, none⟩), .bool false, .pointer (some ⟨b7, 0, none⟩), .pointer (some ⟨b8, 0, none⟩), p, undef, .tuple #[.agg #[.int .i64 0, .int .i64 0, .slice none 0 0], .bool false], .pointer (some ⟨h, 0, none⟩), .pointer (some ⟨h, 0, none⟩), .pointer (some ⟨h, 3, none⟩), .map (some M), .int .i64 (n : Int), .tuple #[.agg #[.int .i64 0, .int .i64 0, .slice none 0 0], .bool false], .agg #[.int .i64 0, .int .i64 0, .slice none 0 0], .bool false, .bool false, undef, .pointer (some ⟨h, 0, none⟩), .int .i64 (n : Int), .pointer (some ⟨h, 0, none⟩), .func (.func 71) #[.pointer (some ⟨h, 0, none⟩)] #[], .func (.func 92) #[] #[.pointer (some ⟨BB, 0, none⟩), .pointer (some ⟨BB + 1, 0, none⟩), .pointer (some ⟨BB + 2, 0, none⟩)], v, undef, undef, undef, undef, undef, undef, undef, undef, undef, undef, undef, undef, undef, undef, undef], defers := [] }) AxV.st ?assign ?body ?done (fun _ _ _ _ _ _ _ _ _ _ _ _ _ _ _ hh _ => hh.elim)
    case assign =>
      intro l1 x v O W3 K ht hK
      obtain ⟨va, vc, rfl⟩ := Os.shape ht
      generalize x.ks.length = vl at *
      gi_wp2
      refine hK _ _ ((KT.refl _ W3).alloc _) ⟨W3.heap.size, x.k, x.n, .slice va vl vc, Nat.le_refl _, rfl, ?_, rfl⟩
      exact heap_alloc_new W3 _
    case body =>
      rintro l1 pre x v a' U O lo W3 ⟨Bst, ca, cc, q1, q2, q3, q4, q5, q6, q7, q8⟩ ht hO hU hlo1 hlo2 hOU hp ⟨Bx, k, m, s, hBx, rfl, hBb, rfl⟩
      have hx : x ∈ XS := hp.subset (by simp)
      have gd := hgd.out x hx
      obtain ⟨va, vc, e⟩ := Os.shape ht
      simp only [Value.agg.injEq, Array.mk.injEq, List.cons.injEq, Value.int.injEq, true_and, and_true] at e
      obtain ⟨rfl, rfl, rfl⟩ := e
      have htH : Hid (toldO x (.agg #[.int .i64 x.k, .int .i64 x.n, .slice va x.ks.length vc]) O W3) := ht
      have hln : 0 < ln x := by rw [gd.len]; exact hnp.out.1
      have hms : Hid (Calls Tryd.prog 52 #[.agg #[.int .i64 x.k, .int .i64 x.n, .slice va x.ks.length vc]] W3 fun e w' => e = .returned (.agg #[.int .i64 (ln x : Int), .int .i64 (Pl.tcs x : Int)]) ∧ Below W3.heap.size W3 w') := measure_c x _ W3 (Os.od (S := O) _ _ ht) hln
      have hpk : Hid (Pl.pks (pre ++ [x]) = Pl.pk (Pl.pks pre) x) := Pl.pks_snoc pre x
      have q1H : Hid (W3.heap[b7]? = some (.cells #[.int .i64 (Pl.pks pre).1.k, .int .i64 (Pl.pks pre).1.n, .slice ca (Pl.pks pre).1.ks.length cc] 24 (0, 0))) := q1
      have q2H : Hid (W3.heap[b8]? = some (.cells #[.int .i64 ((Pl.pks pre).2 : Int)] 3 (0, 0))) := q2
      have q3H : Hid (Os Bst W3 (Pl.pks pre).1 (.agg #[.int .i64 (Pl.pks pre).1.k, .int .i64 (Pl.pks pre).1.n, .slice ca (Pl.pks pre).1.ks.length cc])) := q3
      have q4H : Hid (∀ b, Bst b → b ≠ b7 ∧ b ≠ b8 ∧ ((V b ∨ ∃ r ∈ oC BB h n 71, r.1 = b) ∨ N ≤ b) ∧ b < W3.heap.size) := q4
      have q5H : Hid (∀ b, U b ↔ Bst b ∨ (b < N ∧ ¬ (V b ∨ ∃ r ∈ oC BB h n 71, r.1 = b))) := q5
      have q6H : Hid (N ≤ W3.heap.size ∧ lo ≤ W3.heap.size) := ⟨q6, hlo2⟩
      have q7H : Hid (∀ b, b < N → ¬ (V b ∨ ∃ r ∈ oC BB h n 71, r.1 = b) → b ≠ b7 → b ≠ b8 → W3.heap[b]? = W2.heap[b]?) := q7
      have q8H : Hid (W3.os = W2.os ∧ W3.tape = W2.tape ∧ W3.output = W2.output) := q8
      have hBxH : Hid (lo ≤ Bx ∧ W3.heap[Bx]? = some (.cells #[.int .i64 x.k, .int .i64 x.n, .slice va x.ks.length vc] 24 (0, 0))) := ⟨hBx, hBb⟩
      have hOH : Hid ((∀ b, O b → b < lo) ∧ Ap O U ∧ ∀ b, U b → b < lo) := ⟨hO, hOU, hU⟩
      obtain ⟨PK, hPK⟩ : ∃ PK, Hid (Pl.pks pre = PK) := ⟨_, (rfl : _ = _)⟩
      obtain ⟨xk, hxk⟩ : ∃ xk, Hid (x.k = xk) := ⟨_, (rfl : _ = _)⟩
      obtain ⟨xn, hxn⟩ : ∃ xn, Hid (x.n = xn) := ⟨_, (rfl : _ = _)⟩
      obtain ⟨xl, hxl⟩ : ∃ xl, Hid (x.ks.length = xl) := ⟨_, (rfl : _ = _)⟩
      obtain ⟨tc, htc⟩ : ∃ tc, Hid (Pl.tcs x = tc) := ⟨_, (rfl : _ = _)⟩
      obtain ⟨LX, hLX⟩ : ∃ LX, Hid (ln x = LX) := ⟨_, (rfl : _ = _)⟩
      obtain ⟨ls8, hls⟩ : ∃ ls8, Hid (PK.2 = ls8) := ⟨_, (rfl : _ = _)⟩
      rw [hPK.out] at hpk q1H q2H q3H
      rw [hls.out] at q2H
      rw [hxk.out, hxn.out, hxl.out] at htH hms hBxH ⊢
      rw [htc.out, hLX.out] at hms
      have w0 : W3.cell? ⟨Bx, 0, none⟩ = some (.int .i64 xk) := by rw [Joins.cell_of_block hBxH.out.2]; rfl
      have w1 : W3.cell? ⟨Bx, 1, none⟩ = some (.int .i64 xn) := by rw [Joins.cell_of_block hBxH.out.2]; rfl
      have w2 : W3.cell? ⟨Bx, 2, none⟩ = some (.slice va xl vc) := by rw [Joins.cell_of_block hBxH.out.2]; rfl
      clear q1 q2 q3 q4 q5 q6 q7 q8 ht hO hU hlo1 hlo2 hOU hp hBx hBb hx gd hln
      gi_wp2_with fail
      refine ⟨trivial, (CallsIn.inRound l1 (callsIn_wide.2 hms.out)).mono ?_⟩
      rintro e W4 ⟨rfl, b4'⟩
      have k34 : ∀ T, KT T W3 W4 := fun T => KT.of_below b4'
      have z7 : Hid (W4.heap[b7]? = some (.cells #[.int .i64 PK.1.k, .int .i64 PK.1.n, .slice ca PK.1.ks.length cc] 24 (0, 0))) := (b4'.block _ (blk_lt q1H.out)).trans q1H.out
      have z8 : Hid (W4.heap[b8]? = some (.cells #[.int .i64 (ls8 : Int)] 3 (0, 0))) := (b4'.block _ (blk_lt q2H.out)).trans q2H.out
      have zB : Hid (W4.heap[Bx]? = some (.cells #[.int .i64 xk, .int .i64 xn, .slice va xl vc] 24 (0, 0))) := (b4'.block _ (blk_lt hBxH.out.2)).trans hBxH.out.2
      have b4H : Hid (Below W3.heap.size W3 W4) := b4'
      have v8 : W4.cell? ⟨b8, 0, none⟩ = some (.int .i64 (ls8 : Int)) := by rw [Joins.cell_of_block z8.out]; rfl
      clear b4' k34 w0 w1 w2 hms
      have hfd : ∀ W : World, (Instr.field 85 (.agg #[.int .i64 (LX : Int), .int .i64 (tc : Int)]) 1).run Tryd.prog W = .ok (.int .i64 (tc : Int)) W := fun W => by kernel_rfl
      have n78 : Hid (b7 ≠ b8) := by have := hb7.out; have := hb8.out; show _ ≠ _; omega
      by_cases hlt : tc < ls8
      · have hlt' : (tc : Int) < (ls8 : Int) := by omega
        have hpx : Hid (Pl.pks (pre ++ [x]) = (x, tc)) := by
          show _ = _
          rw [hpk.out]
          unfold Pl.pk
          rw [htc.out, hls.out, if_pos hlt]
        have w0 : W4.cell? ⟨Bx, 0, none⟩ = some (.int .i64 xk) := by rw [Joins.cell_of_block zB.out]; rfl
        have w1 : W4.cell? ⟨Bx, 1, none⟩ = some (.int .i64 xn) := by rw [Joins.cell_of_block zB.out]; rfl
        have w2 : W4.cell? ⟨Bx, 2, none⟩ = some (.slice va xl vc) := by rw [Joins.cell_of_block zB.out]; rfl
        have u0 : W4.cell? ⟨b7, 0, none⟩ = some (.int .i64 PK.1.k) := by rw [Joins.cell_of_block z7.out]; rfl
        have u1 : W4.cell? ⟨b7, 1, none⟩ = some (.int .i64 PK.1.n) := by rw [Joins.cell_of_block z7.out]; rfl
        have u2 : W4.cell? ⟨b7, 2, none⟩ = some (.slice ca PK.1.ks.length cc) := by rw [Joins.cell_of_block z7.out]; rfl
        have f7 : ∀ i, W4.frozen? ⟨b7, i, none⟩ = false := fun i => Joins.unfrozen_of_block z7.out i
        have f8 : W4.frozen? ⟨b8, 0, none⟩ = false := Joins.unfrozen_of_block z8.out 0
        have hne := n78.out
        clear hlt
        gi_wp2_with fail
        obtain ⟨W5, eW5⟩ : ∃ W5, Hid (((((W4.setCell ⟨b7, 0, none⟩ (.int .i64 xk)).setCell ⟨b7, 1, none⟩ (.int .i64 xn)).setCell ⟨b7, 2, none⟩ (.slice va xl vc)).setCell ⟨b8, 0, none⟩ (.int .i64 (tc : Int))) = W5) := ⟨_, (rfl : _ = _)⟩
        rw [eW5.out]
        have b7U : U b7 := (q5H.out _).2 (.inr h7.out)
        have b8U : U b8 := (q5H.out _).2 (.inr h8.out)
        have kset : ∀ (T : Nat → Prop) (W' : World) (b i : Nat) (v : Value), T b → KT T W' (W'.setCell ⟨b, i, none⟩ v) := fun T W' b i v hT => KT.grown (Lib.Hx.grownBy_set (Lib.Hx.grownBy_refl W' (some b)) ⟨b, i, none⟩ rfl v) (fun c e => by cases e; exact hT)
        have k45 : ∀ T : Nat → Prop, T b7 → T b8 → KT T W4 W5 := fun T t7 t8 => by
          rw [← eW5.out]
          exact (((kset T _ b7 0 _ t7).trans (kset T _ b7 1 _ t7)).trans (kset T _ b7 2 _ t7)).trans (kset T _ b8 0 _ t8)
        have k35 : KT (fun b => b = b7 ∨ b = b8) W3 W5 := (KT.of_below b4H.out).trans (k45 _ (.inl rfl) (.inr rfl))
        have e7 : W5.heap[b7]? = some (.cells #[.int .i64 xk, .int .i64 xn, .slice va xl vc] 24 (0, 0)) := by
          rw [← eW5.out, sc_blk _ _ _ n78.out, hsc (hsc (hsc z7.out _) _) _]; rfl
        have e8 : W5.heap[b8]? = some (.cells #[.int .i64 (tc : Int)] 3 (0, 0)) := by
          have hz : (((W4.setCell ⟨b7, 0, none⟩ (.int .i64 xk)).setCell ⟨b7, 1, none⟩ (.int .i64 xn)).setCell ⟨b7, 2, none⟩ (.slice va xl vc)).heap[b8]? = some (.cells #[.int .i64 (ls8 : Int)] 3 (0, 0)) := by
            rw [sc_blk _ _ _ (Ne.symm n78.out), sc_blk _ _ _ (Ne.symm n78.out), sc_blk _ _ _ (Ne.symm n78.out)]; exact z8.out
          rw [← eW5.out, hsc hz]; rfl
        have hOn : ∀ b, O b → b ≠ b7 ∧ b ≠ b8 := fun b hb => ⟨fun e => hOH.out.2.1 b hb (e ▸ b7U), fun e => hOH.out.2.1 b hb (e ▸ b8U)⟩
        have h35 := k35.size
        have h6 := q6H.out
        refine ⟨fun b => O b ∨ (b < N ∧ ¬ (V b ∨ ∃ r ∈ oC BB h n 71, r.1 = b)), k35.weak fun b _ hb => .inl (by rcases hb with rfl | rfl; exact b7U; exact b8U), fun b hb => ?_, fun b hb => ?_, O, va, vc, ?_, ?_, ?_, fun b hb => ⟨(hOn b hb).1, (hOn b hb).2, ?_, ?_⟩, fun _ => Iff.rfl, Nat.le_trans h6.1 h35, fun b g1 g2 g3 g4 => ?_, k35.os.trans q8H.out.1, k35.tape.trans q8H.out.2.1, k35.output.trans q8H.out.2.2⟩
        · rcases hb with hb | hb
          · exact .inr (.inl ⟨trivial, hb⟩)
          · exact .inl ((q5H.out b).2 (.inr hb))
        · rcases hb with hb | hb
          · have := hOH.out.1 b hb; omega
          · omega
        · rw [hpx.out]; simp only; rw [hxk.out, hxn.out, hxl.out]; exact e7
        · rw [hpx.out]; exact e8
        · rw [hpx.out]
          simp only
          rw [hxk.out, hxn.out, hxl.out]
          exact Os.keep (fun _ hb => hb) (fun b hb hl => k35.block b hl fun ht => by rcases ht with ht | ht; exact (hOn b hb).1 ht; exact (hOn b hb).2 ht) _ _ htH.out
        · rcases Nat.lt_or_ge b N with hl | hl
          · apply Classical.byContradiction
            intro hn
            refine hOH.out.2.1 b hb ((q5H.out b).2 (.inr ⟨hl, fun hv => hn (.inl hv)⟩))
          · exact .inr hl
        · have := hOH.out.1 b hb; omega
        · rw [k35.block b (by omega) fun ht => by rcases ht with ht | ht; exact g3 ht; exact g4 ht]
          exact q7H.out b g1 g2 g3 g4
      · have hlt' : decide ((tc : Int) < (ls8 : Int)) = false := decide_eq_false (by omega)
        have hpx : Hid (Pl.pks (pre ++ [x]) = PK) := by
          show _ = _
          rw [hpk.out]
          unfold Pl.pk
          rw [htc.out, hls.out, if_neg hlt]
        have hnlt : ¬ tc < ls8 := hlt
        gi_wp2_with fail
        refine ⟨U, KT.of_below b4H.out, fun b hb => .inl hb, fun b hb => by have := hOH.out.2.2 b hb; have := q6H.out; have := b4H.out.size; omega, ?_⟩
        have hCI : CI N (fun b => V b ∨ ∃ r ∈ oC BB h n 71, r.1 = b) W2 b7 b8 pre U W3 := by
          refine ⟨Bst, ca, cc, ?_, ?_, ?_, q4H.out, q5H.out, q6H.out.1, q7H.out, q8H.out⟩
          · rw [hPK.out]; exact q1H.out
          · rw [hPK.out, hls.out]; exact q2H.out
          · rw [hPK.out]; exact q3H.out
        have hC4 := CI.stb h7.out h8.out pre U W3 W4 (fun _ => False) hCI (KT.of_below b4H.out) (fun _ hh => hh.elim)
        obtain ⟨B9, a9, c9, r1, r2, r3, r4⟩ := hC4
        rw [hPK.out] at r1 r2 r3
        refine ⟨B9, a9, c9, ?_, ?_, ?_, r4⟩
        · rw [hpx.out]; exact r1
        · rw [hpx.out]; exact r2
        · rw [hpx.out]; exact r3
    case done =>
      rintro U' V' W3 sr hsm hup hold bV' bU' hap nu nv ⟨Bst, ca, cc, q1, q2, q3, q4, q5, q6, q7, q8⟩ hK
      have hend : Hid (W3.os = W.os ∧ W3.tape = W.tape ∧ W3.output = W.output) := ⟨q8.1.trans (b2H.out.os.trans kbB.out.os), q8.2.1.trans (b2H.out.tape.trans kbB.out.tape), q8.2.2.trans (b2H.out.output.trans kbB.out.output)⟩
      rw [hN.out] at nu nv hK hold ⊢
      have hq : Hid (Pl.ch D F p n = (Pl.pks XS).1) := hcheq.out
      rw [← hq.out] at q1 q3
      have hVs : ∀ b, V' b → V' b ∨ Bst b := fun b hb => .inl hb
      have o3 : Os (fun b => V' b ∨ Bst b) W3 (Pl.ch D F p n) (.agg #[.int .i64 (Pl.ch D F p n).k, .int .i64 (Pl.ch D F p n).n, .slice ca (Pl.ch D F p n).ks.length cc]) := Os.keep (fun b hb => .inr hb) (fun _ _ _ => rfl) _ _ q3
      obtain ⟨mo, hm1, hm2⟩ := swrite2 n sr _ hVs hnp.out.2.2 hnp.out.2.1 o3
      obtain ⟨xk, hxk⟩ : ∃ z, Hid ((Pl.ch D F p n).k = z) := ⟨_, (rfl : _ = _)⟩
      obtain ⟨xn, hxn⟩ : ∃ z, Hid ((Pl.ch D F p n).n = z) := ⟨_, (rfl : _ = _)⟩
      obtain ⟨xl, hxl⟩ : ∃ z, Hid ((Pl.ch D F p n).ks.length = z) := ⟨_, (rfl : _ = _)⟩
      rw [hxk.out, hxn.out, hxl.out] at hm1 q1 q3 o3
      have srH : Hid (Srh D p F h M fv (fun k => Kn k ∧ k ≠ n) V' W3) := sr
      have hsmH : Hid (∀ b, (V b ∨ ∃ r ∈ oC BB h n 71, r.1 = b) → ¬ b = M → W3.heap[b]? = W2.heap[b]?) := hsm
      have hupH : Hid (∀ b, (V b ∨ ∃ r ∈ oC BB h n 71, r.1 = b) → V' b) := hup
      have holdH : Hid (∀ b, V' b → (V b ∨ ∃ r ∈ oC BB h n 71, r.1 = b) ∨ N ≤ b) := hold
      have bVH' : Hid (Bd V' W3) := bV'
      have hapH : Hid (Ap V' U' ∧ ¬ U' N ∧ ¬ V' N) := ⟨hap, nu, nv⟩
      have q1H : Hid (W3.heap[b7]? = some (.cells #[.int .i64 xk, .int .i64 xn, .slice ca xl cc] 24 (0, 0))) := q1
      have q4H : Hid (∀ b, Bst b → b ≠ b7 ∧ b ≠ b8 ∧ ((V b ∨ ∃ r ∈ oC BB h n 71, r.1 = b) ∨ N ≤ b) ∧ b < W3.heap.size) := q4
      have q5H : Hid (∀ b, U' b ↔ Bst b ∨ (b < N ∧ ¬ (V b ∨ ∃ r ∈ oC BB h n 71, r.1 = b))) := q5
      have q7H : Hid (∀ b, b < N → ¬ (V b ∨ ∃ r ∈ oC BB h n 71, r.1 = b) → b ≠ b7 → b ≠ b8 → W3.heap[b]? = W2.heap[b]?) := q7
      have hKH : Hid (W3.heap[N]? = some (.deferred (some []))) := hK
      have o3H : Hid (Os (fun b => V' b ∨ Bst b) W3 (Pl.ch D F p n) (.agg #[.int .i64 xk, .int .i64 xn, .slice ca xl cc])) := o3
      have q6H : Hid (N ≤ W3.heap.size) := q6
      have hm2H : Hid (∀ W1 : World, W1.heap = W3.heap → Srh D p F h M fv Kn (fun b => V' b ∨ Bst b) (pmo W1 M mo)) := hm2
      have d3 := sr.c3
      have u0 : W3.cell? ⟨b7, 0, none⟩ = some (.int .i64 xk) := by rw [Joins.cell_of_block q1]; rfl
      have u1 : W3.cell? ⟨b7, 1, none⟩ = some (.int .i64 xn) := by rw [Joins.cell_of_block q1]; rfl
      have u2 : W3.cell? ⟨b7, 2, none⟩ = some (.slice ca xl cc) := by rw [Joins.cell_of_block q1]; rfl
      have g1 := hm1 W3 rfl
      have g2 := hm1 W3.drew rfl
      clear sr hsm hup hold bV' bU' hap nu nv q1 q2 q3 q4 q5 q6 q7 q8 hK hq hVs o3 hm1 hm2
      gi_wp2_with fail
      gi_region
      obtain ⟨W6, eW6⟩ : ∃ W6, Hid (pmo W3.drew M mo = W6) := ⟨_, (rfl : _ = _)⟩
      rw [eW6.out]
      have k36 : Hid (KT (fun b => b = M) W3 W6) := by
        rw [← eW6.out]
        exact (KT.of_below ((Below.refl _ _).drew)).trans (pmo_kt W3.drew M mo (T := fun b => b = M) rfl)
      have sr6 : Hid (Srh D p F h M fv Kn (fun b => V' b ∨ Bst b) W6) := by rw [← eW6.out]; exact hm2H.out W3.drew rfl
      have hM3 : Hid (∃ es c, W3.heap[M]? = some (.map es c)) := by obtain ⟨es, c, hm, _⟩ := srH.out.mp; exact ⟨es, c, hm⟩
      have nM : Hid (∀ b cs T fz, W3.heap[b]? = some (.cells cs T fz) → b ≠ M) := fun b cs T fz hb e => by obtain ⟨es, c, hm⟩ := hM3.out; rw [e, hm] at hb; cases hb
      have v1b4 : Hid (¬ (V b4 ∨ ∃ r ∈ oC BB h n 71, r.1 = b4)) := fun hh => by have := hV1.out _ hh; have := hBN.out; omega
      have x4w : Hid (W3.heap[b4]? = some (.cells #[.int .i64 0, .int .i64 0, .slice none 0 0] 24 (0, 0))) := by
        show _ = _
        rw [q7H.out b4 (by have := hBN.out; omega) v1b4.out (by have := hb7.out; omega) (by have := hb8.out; omega), b2H.out.block _ (by have := sb.out; omega)]
        exact x4b.out
      have x4c : Hid (W6.heap[b4]? = some (.cells #[.int .i64 0, .int .i64 0, .slice none 0 0] 24 (0, 0))) := (k36.out.block _ (blk_lt x4w.out) (nM.out _ _ _ _ x4w.out)).trans x4w.out
      have x7c : Hid (W6.heap[b7]? = some (.cells #[.int .i64 xk, .int .i64 xn, .slice ca xl cc] 24 (0, 0))) := (k36.out.block _ (blk_lt q1H.out) (nM.out _ _ _ _ q1H.out)).trans q1H.out
      have hMN : Hid (M ≠ N) := fun e => by obtain ⟨es, c, hm⟩ := hM3.out; have := hKH.out; rw [← e, hm] at this; cases this
      have xNc : Hid (W6.heap[N]? = some (.deferred (some []))) := (k36.out.block _ (blk_lt hKH.out) (fun e => hMN.out e.symm)).trans hKH.out
      clear u0 u1 u2 d3 g1 g2 hm2H
      have u0 : W6.cell? ⟨b7, 0, none⟩ = some (.int .i64 xk) := by rw [Joins.cell_of_block x7c.out]; rfl
      have u1 : W6.cell? ⟨b7, 1, none⟩ = some (.int .i64 xn) := by rw [Joins.cell_of_block x7c.out]; rfl
      have u2 : W6.cell? ⟨b7, 2, none⟩ = some (.slice ca xl cc) := by rw [Joins.cell_of_block x7c.out]; rfl
      have t0 : W6.cell? ⟨b4, 0, none⟩ = some (.int .i64 0) := by rw [Joins.cell_of_block x4c.out]; rfl
      have t1 : W6.cell? ⟨b4, 1, none⟩ = some (.int .i64 0) := by rw [Joins.cell_of_block x4c.out]; rfl
      have t2 : W6.cell? ⟨b4, 2, none⟩ = some (.slice none 0 0) := by rw [Joins.cell_of_block x4c.out]; rfl
      have ft : ∀ i, W6.frozen? ⟨b4, i, none⟩ = false := fun i => Joins.unfrozen_of_block x4c.out i
      simp only [Exit.then]
      rename_i hKK
      refine hKK _ _ ?_
      clear hKK
      gi_wp2
      obtain ⟨W7, eW7⟩ : ∃ W7, Hid ((((W6.setCell ⟨b4, 0, none⟩ (.int .i64 xk)).setCell ⟨b4, 1, none⟩ (.int .i64 xn)).setCell ⟨b4, 2, none⟩ (.slice ca xl cc)) = W7) := ⟨_, (rfl : _ = _)⟩
      rw [eW7.out]
      have kset : ∀ (T : Nat → Prop) (W' : World) (b i : Nat) (v : Value), T b → KT T W' (W'.setCell ⟨b, i, none⟩ v) := fun T W' b i v hT => KT.grown (Lib.Hx.grownBy_set (Lib.Hx.grownBy_refl W' (some b)) ⟨b, i, none⟩ rfl v) (fun c e => by cases e; exact hT)
      have k67 : KT (fun b => b = b4 ∨ b = N) W6 W7 := by
        rw [← eW7.out]
        exact ((kset _ _ b4 0 _ (.inl rfl)).trans (kset _ _ b4 1 _ (.inl rfl))).trans (kset _ _ b4 2 _ (.inl rfl))
      have hb4N : b4 < N := by have := hBN.out; omega
      have hK7 : W7.heap[N]? = some (.deferred (some [])) := by
        rw [← eW7.out, sc_blk _ _ _ (by omega), sc_blk _ _ _ (by omega), sc_blk _ _ _ (by omega)]; exact xNc.out
      have e4 : W7.heap[b4]? = some (.cells #[.int .i64 xk, .int .i64 xn, .slice ca xl cc] 24 (0, 0)) := by
        rw [← eW7.out, hsc (hsc (hsc x4c.out _) _) _]; rfl
      have k69 : KT (fun b => b = b4 ∨ b = N) W6 (W7.putObj N (.deferred none)) := k67.trans (KT.put _ _ _ (.inr rfl))
      have e9 : (W7.putObj N (.deferred none)).heap[b4]? = some (.cells #[.int .i64 xk, .int .i64 xn, .slice ca xl cc] 24 (0, 0)) := (World.putObj_heap_other (by omega)).trans e4
      have r0 : (W7.putObj N (.deferred none)).cell? ⟨b4, 0, none⟩ = some (.int .i64 xk) := by rw [Joins.cell_of_block e9]; rfl
      have r1 : (W7.putObj N (.deferred none)).cell? ⟨b4, 1, none⟩ = some (.int .i64 xn) := by rw [Joins.cell_of_block e9]; rfl
      have r2 : (W7.putObj N (.deferred none)).cell? ⟨b4, 2, none⟩ = some (.slice ca xl cc) := by rw [Joins.cell_of_block e9]; rfl
      have hT9 : Ap (fun b => b = b4 ∨ b = N) (fun b => V' b ∨ Bst b) := fun b hb hv => by
        rcases hb with rfl | rfl
        · rcases hv with hv | hv
          · rcases holdH.out _ hv with hh | hh
            · exact v1b4.out hh
            · omega
          · rcases (q4H.out _ hv).2.2.1 with hh | hh
            · exact v1b4.out hh
            · omega
        · rcases hv with hv | hv
          · exact hapH.out.2.2 hv
          · exact hapH.out.2.1 ((q5H.out _).2 (.inl hv))
      have hWs : W.heap.size = b4 := hb4.out
      have hnew : ∀ b, (V b ∨ ∃ r ∈ oC BB h n 71, r.1 = b) ∨ N ≤ b → V b ∨ W.heap.size ≤ b := fun b hb => by
        have hB := hBN.out
        rcases hb with hb | hb
        · rcases hV1.out b hb with ⟨_, hh⟩ | ⟨hh, _⟩
          · exact .inl hh
          · exact .inr (by omega)
        · exact .inr (by omega)
      have s39 : W3.heap.size ≤ (W7.putObj N (.deferred none)).heap.size := Nat.le_trans k36.out.size k69.size
      obtain ⟨es, ck, hm3⟩ := hM3.out
      have hfo : Os (fun b => V' b ∨ Bst b) (W7.putObj N (.deferred none)) (Pl.ch D F p n) (.agg #[.int .i64 xk, .int .i64 xn, .slice ca xl cc]) :=
        Os.keep (fun b hb => hb.1) (fun b hb hl => by rw [k69.block b (Nat.lt_of_lt_of_le hl k36.out.size) (fun ht => hT9 b ht hb.1), k36.out.block b hl hb.2]) _ _ (Os.nomap hm3 o3H.out)
      have kfin : KT (fun b => b = M) W (W7.putObj N (.deferred none)) := by
        refine ⟨k69.os.trans (k36.out.os.trans ?_), k69.tape.trans (k36.out.tape.trans ?_), k69.output.trans (k36.out.output.trans ?_), ?_, fun b hb hM9 => ?_⟩
        · exact hend.out.1
        · exact hend.out.2.1
        · exact hend.out.2.2
        · have := hBN.out; have := q6H.out; omega
        · have hbN : b < N := by have := hBN.out; omega
          rw [k69.block b (by have := k36.out.size; have := q6H.out; omega) (by rintro (e | e) <;> omega), k36.out.block b (by have := q6H.out; omega) hM9]
          have hW2 : W2.heap[b]? = W.heap[b]? := by rw [b2H.out.block b (by have := sb.out; omega), kbB.out.block b hb]
          by_cases hv : V b
          · rw [hsmH.out b (.inl hv) hM9]; exact hW2
          · rw [q7H.out b hbN (fun hh => by rcases hV1.out b hh with ⟨_, hh⟩ | ⟨hh, _⟩; exact hv hh; have := hBN.out; omega) (by have := hb7.out; omega) (by have := hb8.out; omega)]; exact hW2
      refine ⟨by simp, .inl ⟨_, _, rfl, run_takeDeferred hK7, .agg #[.int .i64 xk, .int .i64 xn, .slice ca xl cc], ?_, _, fun b => V' b ∨ Bst b, rfl, sr6.out.kt k69 hT9, fun b hb => .inl (hupH.out b (.inl hb)), fun b hb => ?_, fun b hb => ?_, hfo, kfin⟩⟩
      · simp [results, Tryd.f47, go_sem, r0, r1, r2]
      · rcases hb with hb | hb
        · exact hnew b (holdH.out b hb)
        · exact hnew b (q4H.out b hb).2.2.1
      · rcases hb with hb | hb
        · exact Nat.lt_of_lt_of_le (bVH'.out b hb) s39
        · exact Nat.lt_of_lt_of_le (q4H.out b hb).2.2.2 s39
end Go.Proofs.YtoaccmblaifnmaaDoor
