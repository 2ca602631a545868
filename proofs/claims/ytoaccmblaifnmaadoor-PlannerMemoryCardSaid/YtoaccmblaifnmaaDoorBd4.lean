/-
  What PlannerLists and its fellows rest on, joined: Dk1 Apa Sca Cr1.
-/
import Derived.WalkKit
import Ieee.Arith
import Derived.WalkLawsBesides
import Derived.Laws.FloatArith
import Derived.Test.YtoaccmblaifnmaaDoorProg
import Derived.RegionTactic
import Derived.Outline
import Derived.Lib.Mul64
import Derived.Laws.Bits64b
import Derived.Deep.QuietTactic
import Derived.BigQuiet
import Derived.WalkSmall
import Derived.Deep.CutBlock
import Derived.Deep.DeepCutAuto
import Derived.Laws.Rows
import Derived.Lib.ItoaNum
import Derived.Laws.IdiomStrings
import Derived.Deep.RegionHeld3
import Derived.Lib.SmallJoins
import Derived.Lib.HexFns
import Derived.Test.YtoaccmblaifnmaaDoorRows
import Derived.LaidEql
import Derived.LaidLaws
import Derived.LaidHandle
import Derived.Stop.Joined
import Derived.Deep.RegionWith
import Derived.Recover
import Derived.RegionDies
import Derived.Laws.CopyOwn
import Derived.Lib.AppendIntMem
import Derived.Deep.RegionHeldLaw
import Derived.Maps.AppendAt
import Derived.Laws.OwnMore
import Derived.RangeFuncNested
import Derived.RangeFuncBound
import Derived.RangeFuncCalls
import Derived.RangeFuncLeaves
import Derived.RangeFuncBox
import Derived.Shelf.Abstract
import Derived.Shelf.RegionOpen
import Derived.OwnWalkIn
import Derived.TacticsInMore
import Derived.LoopNIn
import Derived.LoopIn
import Derived.Laws.AppendOwn
import Derived.OwnWalk
import Derived.BigCall
import Derived.Laws.ComplexArith
import Derived.Laws.MakeOwn
import Derived.MapKept
import Derived.Carry
import Derived.ChangeAlike
import Derived.Deep.RegionLaw
import Derived.Test.YtoaccmblaifnmaaDoorBb2
import Derived.Test.YtoaccmblaifnmaaDoorBb3
import Derived.Test.YtoaccmblaifnmaaDoorBd3
import Derived.Test.YtoaccmblaifnmaaDoorBc1
import Derived.Test.YtoaccmblaifnmaaDoorBb7
import Derived.Test.YtoaccmblaifnmaaDoorBa1
import Derived.Test.YtoaccmblaifnmaaDoorBa4
import Derived.Test.YtoaccmblaifnmaaDoorBb9
namespace Go.Proofs.YtoaccmblaifnmaaDoor
open Flo Go.RowKit Tr
set_option maxRecDepth 100000 in
theorem ddirect_c (n : Int) (w : World) : Calls Tryd.prog 98 #[.int .i64 n] w fun e w' => e = .returned (.agg #[.int .i64 1, .int .i64 n, .slice none 0 0]) ∧ Below w.heap.size w w' := by
  have hB : Hid (∀ x, Below w.heap.size w (w.alloc x)) := fun x => (Below.refl _ _).alloc (Nat.le_refl _) _
  go_enter Tryd.func98, Tryd.ntmps98
  go_wp2_with fail
  refine bodyPost_ret (v := .agg #[.int .i64 1, .int .i64 n, .slice none 0 0]) (by simp [results, Tryd.results98, go_sem]) rfl ?_
  exact ⟨rfl, hB.out _⟩
set_option maxRecDepth 100000 in
theorem dfly_c (n : Int) (w : World) : Calls Tryd.prog 100 #[.int .i64 n] w fun e w' => e = .returned (.agg #[.int .i64 2, .int .i64 n, .slice none 0 0]) ∧ Below w.heap.size w w' := by
  have hB : Hid (∀ x, Below w.heap.size w (w.alloc x)) := fun x => (Below.refl _ _).alloc (Nat.le_refl _) _
  go_enter Tryd.func100, Tryd.ntmps100
  go_wp2_with fail
  refine bodyPost_ret (v := .agg #[.int .i64 2, .int .i64 n, .slice none 0 0]) (by simp [results, Tryd.results100, go_sem]) rfl ?_
  exact ⟨rfl, hB.out _⟩
set_option maxHeartbeats 2000000 in
set_option maxRecDepth 100000 in
theorem dboth_c {S : Nat → Prop} (x y : Tr) (v u : Value) (w : World) (ox : Os S w x v) (oy : Os S w y u) : Calls Tryd.prog 75 #[v, u] w fun e w' => ∃ u, e = .returned u ∧ Os (fun b => (S b ∧ b < w.heap.size) ∨ w.heap.size ≤ b) w' ⟨3, 0, [x, y]⟩ u ∧ Below w.heap.size w w' := by
  obtain ⟨a1, p1, rfl⟩ := ox.shape
  obtain ⟨a2, p2, rfl⟩ := oy.shape
  obtain ⟨xk, hxk⟩ : ∃ xk, Hid (x.k = xk) := ⟨_, (rfl : _ = _)⟩
  obtain ⟨xn, hxn⟩ : ∃ xn, Hid (x.n = xn) := ⟨_, (rfl : _ = _)⟩
  obtain ⟨yk, hyk⟩ : ∃ yk, Hid (y.k = yk) := ⟨_, (rfl : _ = _)⟩
  obtain ⟨yn, hyn⟩ : ∃ yn, Hid (y.n = yn) := ⟨_, (rfl : _ = _)⟩
  rw [hxk.out, hxn.out] at ox ⊢
  rw [hyk.out, hyn.out] at oy ⊢
  generalize x.ks.length = l1 at *
  generalize y.ks.length = l2 at *
  obtain ⟨wa, ewa⟩ : ∃ wa, Hid (w.alloc (.cells #[.int .i64 xk, .int .i64 xn, .slice a1 l1 p1] 24) = wa) := ⟨_, (rfl : _ = _)⟩
  obtain ⟨wb, ewb⟩ : ∃ wb, Hid (wa.alloc (.cells #[.int .i64 yk, .int .i64 yn, .slice a2 l2 p2] 24) = wb) := ⟨_, (rfl : _ = _)⟩
  obtain ⟨wc, ewc⟩ : ∃ wc, Hid (wb.alloc (.cells #[.int .i64 0, .int .i64 0, .slice none 0 0] 24) = wc) := ⟨_, (rfl : _ = _)⟩
  obtain ⟨g, hg⟩ : ∃ g, Hid (w.heap.size = g) := ⟨_, (rfl : _ = _)⟩
  have sa : wa.heap.size = g + 1 := by rw [← ewa.out, ← hg.out]; simp
  have sb : wb.heap.size = g + 2 := by rw [← ewb.out]; simp [sa]
  have sc : wc.heap.size = g + 3 := by rw [← ewc.out]; simp [sb]
  have scH : Hid (wc.heap.size = g + 3) := sc
  have Ba : Below w.heap.size w wa := by rw [← ewa.out]; exact (Below.refl _ _).alloc (Nat.le_refl _) _
  have Bab : Below wa.heap.size wa wb := by rw [← ewb.out]; exact (Below.refl _ _).alloc (Nat.le_refl _) _
  have Bbc : Below wb.heap.size wb wc := by rw [← ewc.out]; exact (Below.refl _ _).alloc (Nat.le_refl _) _
  have Bc : Hid (Below w.heap.size w wc) := btr (btr Ba Bab) Bbc
  have Xc : Hid (Bo wc g xk xn (.slice a1 l1 p1)) := by
    have h : Bo wa w.heap.size xk xn (.slice a1 l1 p1) := by rw [← ewa.out]; exact Bo.new _ _ _ _
    rw [hg.out] at h
    exact (h.bel Bab).bel Bbc
  have Yc : Hid (Bo wc (g + 1) yk yn (.slice a2 l2 p2)) := by
    have h : Bo wb wa.heap.size yk yn (.slice a2 l2 p2) := by rw [← ewb.out]; exact Bo.new _ _ _ _
    rw [sa] at h; exact h.bel Bbc
  have Zc : Hid (Bo wc (g + 2) 0 0 (.slice none 0 0)) := by
    have h : Bo wc wb.heap.size 0 0 (.slice none 0 0) := by rw [← ewc.out]; exact Bo.new _ _ _ _
    rw [sb] at h; exact h
  obtain ⟨w8, e8⟩ : ∃ w8, Hid ((st3 wc (g + 2) 3 0 (.slice (some ⟨wc.heap.size, 0, none⟩) 2 2)).alloc (.cells #[.int .i64 xk, .int .i64 xn, .slice a1 l1 p1, .int .i64 yk, .int .i64 yn, .slice a2 l2 p2] 24) = w8) := ⟨_, (rfl : _ = _)⟩
  have hnew := heap_alloc_new (st3 wc (g + 2) 3 0 (.slice (some ⟨wc.heap.size, 0, none⟩) 2 2)) (.cells #[.int .i64 xk, .int .i64 xn, .slice a1 l1 p1, .int .i64 yk, .int .i64 yn, .slice a2 l2 p2] 24)
  rw [st3_size, e8.out] at hnew
  have B8s : Below w.heap.size w (st3 wc (g + 2) 3 0 (.slice (some ⟨wc.heap.size, 0, none⟩) 2 2)) := Bc.out.grown (st3_own _ _ _ _ _) Bc.out.size (fun k hk => by cases hk; rw [hg.out]; omega)
  have hk : ∀ b, b < w.heap.size → w8.heap[b]? = w.heap[b]? := fun b hb => by
    rw [← e8.out, Below.heap_alloc _ _ _ (by have := B8s.size; omega)]
    exact B8s.block b hb
  have hOs : Hid (Os (fun b => (S b ∧ b < g) ∨ g ≤ b) w8 ⟨3, 0, [x, y]⟩ (.agg #[.int .i64 3, .int .i64 0, .slice (some ⟨wc.heap.size, 0, none⟩) 2 2])) := by
    refine Os.two ⟨by decide, by decide⟩ (.inr (by omega)) (Os.keep2 (fun b hb hl => .inl ⟨hb, by have := hg.out; omega⟩) (fun b hb hl => hk b hl) _ _ (show Os S w x (.agg #[.int .i64 x.k, .int .i64 x.n, .slice a1 l1 p1]) by rw [hxk.out, hxn.out]; exact ox)) (Os.keep2 (fun b hb hl => .inl ⟨hb, by have := hg.out; omega⟩) (fun b hb hl => hk b hl) _ _ (show Os S w y (.agg #[.int .i64 y.k, .int .i64 y.n, .slice a2 l2 p2]) by rw [hyk.out, hyn.out]; exact oy)) ?_
    rw [hxk.out, hxn.out, hyk.out, hyn.out]
    exact hnew
  have hBe : Hid (Below w.heap.size w w8) := by rw [← e8.out]; exact B8s.alloc B8s.size _
  have hZ : Hid (Bo w8 (g + 2) 3 0 (.slice (some ⟨wc.heap.size, 0, none⟩) 2 2)) := by
    show Bo _ _ _ _ _
    rw [← e8.out]
    exact (st3_bo Zc.out 3 0 _).bel ((Below.refl _ _).alloc (Nat.le_refl _) _)
  have e8' : Hid ((((wc.setCell ⟨g + 1 + 1, 0, none⟩ (.int .i64 3)).setCell ⟨g + 1 + 1, 1, none⟩ (.int .i64 0)).setCell ⟨g + 1 + 1, 2, none⟩ (.slice (some ⟨wc.heap.size, 0, none⟩) 2 2)).alloc (.cells #[.int .i64 xk, .int .i64 xn, .slice a1 l1 p1, .int .i64 yk, .int .i64 yn, .slice a2 l2 p2] 24) = w8) := e8.out
  rw [hg.out] at hBe ⊢
  clear ox oy Ba Bab Bbc sa sb hnew B8s hk
  go_enter Tryd.func75, Tryd.ntmps75
  go_upto_region 1 with fail
  rw [ewa.out, ewb.out, ewc.out, hg.out]
  have x0 := Xc.out.c0
  have x1 := Xc.out.c1
  have x2 := Xc.out.c2
  have y0 := Yc.out.c0
  have y1 := Yc.out.c1
  have y2 := Yc.out.c2
  have z0 := Zc.out.c0
  have z1 := Zc.out.c1
  have z2 := Zc.out.c2
  have zf := Zc.out.fz
  have zf0 := zf 0
  have zf1 := zf 1
  have zf2 := zf 2
  have zl := Zc.out.lt
  clear zf sc
  go_wp2_with fail
  rw [e8'.out]
  have q0 := hZ.out.c0
  have q1 := hZ.out.c1
  have q2 := hZ.out.c2
  refine bodyPost_ret (v := .agg #[.int .i64 3, .int .i64 0, .slice (some ⟨wc.heap.size, 0, none⟩) 2 2]) (by simp [results, Tryd.results75, go_sem, q0, q1, q2]) rfl ?_
  exact ⟨_, rfl, hOs.out, hBe.out⟩
set_option maxHeartbeats 2000000 in
set_option maxRecDepth 100000 in
theorem dflies_c {D p : Int} {F : List Int} {V : Nat → Prop} (n : Int) (fv : Value) (w : World) (hF : FlR V w fv F) (hl : F.length ≤ 1000) : Calls Tryd.prog 99 #[.agg #[.int .i64 D, fv, .int .i64 p], .int .i64 n] w fun e w' => e = .returned (.bool (F.contains n)) ∧ Below w.heap.size w w' := by
  obtain ⟨ao, cap, rfl, hc0⟩ := hF
  obtain ⟨wa, ewa⟩ : ∃ wa, Hid (w.alloc (.cells #[.int .i64 D, .slice ao F.length cap, .int .i64 p] 45) = wa) := ⟨_, (rfl : _ = _)⟩
  have Ba : Hid (Below w.heap.size w wa) := by show Below _ _ _; rw [← ewa.out]; exact (Below.refl _ _).alloc (Nat.le_refl _) _
  obtain ⟨g, hg⟩ : ∃ g, Hid (w.heap.size = g) := ⟨_, (rfl : _ = _)⟩
  have Xa : Bp wa g D (.slice ao F.length cap) p := by rw [← ewa.out, ← hg.out]; exact Bp.new _ _ _ _
  obtain ⟨L, hL⟩ : ∃ L, Hid (F.length = L) := ⟨_, (rfl : _ = _)⟩
  have hc : Hid (∀ i, i < L → ∃ b off, ao = some ⟨b, off, none⟩ ∧ wa.cell? ⟨b, off + i, none⟩ = some (.int .i64 (F.getD i 0))) := fun i hi => by
    obtain ⟨b, off, h1, _, h3, h4⟩ := hc0 i (by rw [hL.out]; exact hi)
    exact ⟨b, off, h1, (Ba.out.cell (p := ⟨b, off + i, none⟩) h3).trans h4⟩
  rw [hL.out] at Xa hl ewa ⊢
  have x1 := Xa.c1
  clear hc0 Xa
  go_enter Tryd.func99, Tryd.ntmps99
  go_upto_region 1 with fail
  rw [ewa.out, hg.out]
  go_wp2
  go_loopw [5] (fun i wr => ∃ (k : Nat), k ≤ L ∧ i = .int .i64 k ∧ wa = wr ∧ Hid (∀ y ∈ F.take k, y ≠ n)) (fun i _ => L - (intOf i).toNat)
  case atStart => exact ⟨0, Nat.zero_le _, rfl, rfl, fun y hy => by simp at hy⟩
  case round =>
    obtain ⟨k, hk, rfl, rfl, hI⟩ := hrel
    by_cases hlt : k < L
    · have hlt' : (k : Int) < (L : Int) := by omega
      obtain ⟨b, off, rfl, z1⟩ := hc.out k hlt
      have hkF : k < F.length := by rw [hL.out]; exact hlt
      have hge : F.getD k 0 = F[k] := by rw [List.getD_eq_getElem?_getD, List.getElem?_eq_getElem hkF]; rfl
      obtain ⟨X, hX⟩ : ∃ X, Hid (F.getD k 0 = X) := ⟨_, (rfl : _ = _)⟩
      rw [hX.out] at z1
      by_cases hn : X = n
      · subst hn
        have hr : Hid (F.contains X = true) := by
          show _ = _
          rw [List.contains_iff_mem, ← hX.out, hge]
          exact List.getElem_mem _
        clear hge hX
        go_wp2
        go_ret
        exact ⟨by rw [hr.out]; simp, Ba.out⟩
      · have hne : (X == n) = false := beq_eq_false_iff_ne.2 hn
        have hI2 : Hid (∀ y ∈ F.take (k + 1), y ≠ n) := fun y hy => by
          rw [List.take_add_one, List.getElem?_eq_getElem hkF, List.mem_append] at hy
          rcases hy with hy | hy
          · exact hI.out y hy
          · have : y = F[k] := by simpa using hy
            rw [this, ← hge, hX.out]; exact hn
        clear hge hX hI
        go_wp2
        go_roundw
        case rel => exact ⟨k + 1, by omega, by go_num, by first | rfl | trivial, hI2⟩
        case measure => simp [intOf]; omega
    · have hlt' : decide ((k : Int) < (L : Int)) = false := decide_eq_false (by omega)
      have hr : Hid (F.contains n = false) := by
        show _ = _
        cases hcn : F.contains n with
        | false => rfl
        | true =>
          have hm := List.contains_iff_mem.1 hcn
          have := hI.out n (by rw [List.take_of_length_le (by rw [hL.out]; omega)]; exact hm)
          exact absurd rfl this
      go_wp2
      go_ret
      exact ⟨by rw [hr.out]; simp, Ba.out⟩
set_option maxHeartbeats 4000000 in
set_option maxRecDepth 100000 in
theorem dleaves_c {D p : Int} {F : List Int} {V : Nat → Prop} (n : Nat) (fv : Value) (w : World) (hF : FlR V w fv F) (hl : F.length ≤ 1000) (hn : n ≤ 16384) :
    Calls Tryd.prog 72 #[.int .i64 (n : Int), .agg #[.int .i64 D, fv, .int .i64 p]] w (LvE w (Pl.lvs D F n)) := by
  obtain ⟨i0, hi0, hz0, hz1, hz2⟩ := info_o
  obtain ⟨ao, cap, rfl, hc0⟩ := id hF
  obtain ⟨wa, ewa⟩ : ∃ wa, Hid (w.alloc (.cells #[.int .i64 D, .slice ao F.length cap, .int .i64 p] 45) = wa) := ⟨_, (rfl : _ = _)⟩
  have Ba : Hid (Below w.heap.size w wa) := by show Below _ _ _; rw [← ewa.out]; exact (Below.refl _ _).alloc (Nat.le_refl _) _
  obtain ⟨g, hg⟩ : ∃ g, Hid (w.heap.size = g) := ⟨_, (rfl : _ = _)⟩
  have Xa : Hid (Bp wa g D (.slice ao F.length cap) p) := by show Bp _ _ _ _ _; rw [← ewa.out, ← hg.out]; exact Bp.new _ _ _ _
  have f1H : Hid (fit 1 (n : Int)) := ⟨by decide, by omega⟩
  have f2H : Hid (fit 2 (n : Int)) := ⟨by decide, by omega⟩
  have hFa : FlR V wa (.slice ao F.length cap) F := hF.kt (T := fun _ => False) (KT.of_below Ba.out) (fun _ (h : False) => h.elim)
  have hc : Hid (∀ W', Below wa.heap.size wa W' → Calls Tryd.prog 99 #[.agg #[.int .i64 D, .slice ao F.length cap, .int .i64 p], .int .i64 (n : Int)] W' fun e w' => e = .returned (.bool (F.contains (n : Int))) ∧ Below W'.heap.size W' w') := fun W' hb => dflies_c n _ W' (hFa.kt (T := fun _ => False) (KT.of_below hb) (fun _ (h : False) => h.elim)) hl
  have hX : Hid (∀ W', Below wa.heap.size wa W' → Bp W' g D (.slice ao F.length cap) p) := fun W' hb => Xa.out.bel hb
  obtain ⟨L, hL⟩ : ∃ L, Hid (F.length = L) := ⟨_, (rfl : _ = _)⟩
  rw [hL.out] at hc hX ewa ⊢
  obtain ⟨cf, hcf⟩ : ∃ cf, Hid (F.contains (n : Int) = cf) := ⟨_, (rfl : _ = _)⟩
  obtain ⟨KS, hKS⟩ : ∃ KS, Hid (KS = Pl.lvs D F n) := ⟨_, (rfl : _ = _)⟩
  have hlv : Hid (KS = (if (n : Int) ≤ D then [⟨1, n, []⟩] else []) ++ (if cf then [⟨2, n, []⟩] else [])) := by
    show _ = _
    rw [hKS.out, ← hcf.out]; rfl
  rw [← hKS.out]
  rw [hcf.out] at hc
  obtain ⟨B, hB⟩ : ∃ B, Hid (w.heap.size = B) := ⟨_, (rfl : _ = _)⟩
  rw [show LvE w KS = fun e W' => ∃ kv ss, e = .returned kv ∧ Gr B W' kv KS ss ∧ Below B w W' by unfold LvE; rw [hB.out]]
  have Ba2 : Hid (Below B w wa) := hB.out ▸ Ba.out
  have hBa : Hid (B ≤ wa.heap.size) := by have := Ba.out.size; have := hB.out; show _ ≤ _; omega
  clear hF hl hcf hKS hFa hc0 Xa
  have x0 := (hX.out wa (Below.refl _ _)).c0
  have x1 := (hX.out wa (Below.refl _ _)).c1
  have x2 := (hX.out wa (Below.refl _ _)).c2
  go_enter Tryd.func72, Tryd.ntmps72
  go_upto_region 1 with fail
  rw [ewa.out, hg.out]
  by_cases hd : (n : Int) ≤ D
  · have eL : Hid (KS = [Tr.mk 1 n []] ++ (if cf then [⟨2, n, []⟩] else [])) := by
      show _ = _
      rw [hlv.out, if_pos hd]
    clear hlv
    go_wp2_with fail
    refine (ddirect_c n wa).mono ?_
    rintro e w1 ⟨rfl, b1⟩
    have b1H : Hid (Below wa.heap.size wa w1) := b1
    have hs1 : Hid (B ≤ w1.heap.size) := Nat.le_trans hBa.out b1.size
    clear b1 x0 x1 x2
    have hnilH : Hid (w1.ownsRow B 24 3 (.slice none 0 0) 0 []) := World.ownsRow_nil _ _ _ _
    go_wp2_with (at_builtin; refine wpList_append_fr _ rfl _ _ 22 rfl B 24 i0 _ 3 40 Tryd.underlying22 hi0 hz0 hz1 hz2 rfl (by decide) _ _ _ rfl (hnilH.out.alloc _) ⟨w1.heap.size, 0, none⟩ 1 1 [.int .i64 1, .int .i64 (n : Int), .slice none 0 0] rfl rfl (by intro j u' hj; match j, hj with | 0, hj => simp at hj; subst hj; simp [Addr.add] | 1, hj => simp at hj; subst hj; simp [Addr.add] | 2, hj => simp at hj; subst hj; simp [Addr.add] | j + 3, hj => simp at hj) (by intro u' hu'; simp at hu'; rcases hu' with h | h | h <;> subst h <;> rfl) (by unfold maxLen; simp) (by simp) (by have := hs1.out; simp; omega) ?_)
    intro v' w4 q1 q2 q3
    have G4 : Hid (Gr B w4 v' ([] ++ [Tr.mk 1 n []]) ([] ++ [.slice none 0 0])) := Gr.leaf (Gr.nil B wa) hBa.out b1H.out f1H.out q1 q2 (fun b hb => by have := q3 b hb; simpa using this)
    have Ba4 : Hid (Below wa.heap.size wa w4) := (b1H.out.alloc b1H.out.size _).grown q2 (by have := b1H.out.size; simp; omega) (fun k' hk' => by simp [Value.ownBlock] at hk')
    have B4 : Hid (Below B w w4) := Ba2.out.trans (Ba4.out.mono hBa.out)
    clear q1 q2 q3 b1H hnilH
    have x0 := (hX.out w4 Ba4.out).c0
    have x1 := (hX.out w4 Ba4.out).c1
    have x2 := (hX.out w4 Ba4.out).c2
    go_wp2_with fail
    refine (hc.out w4 Ba4.out).mono ?_
    rintro e w5 ⟨rfl, b5⟩
    have G5 : Hid (Gr B w5 v' ([] ++ [Tr.mk 1 n []]) ([] ++ [.slice none 0 0])) := G4.out.bel b5
    have hs4 : B ≤ w4.heap.size := Nat.le_trans hBa.out Ba4.out.size
    have B5 : Hid (Below B w w5) := B4.out.trans (b5.mono hs4)
    have hs5 : Hid (B ≤ w5.heap.size) := Nat.le_trans hs4 b5.size
    clear x0 x1 x2 b5 hs4 G4 B4
    cases cf
    · go_wp2_with fail
      go_ret
      rw [eL.out]
      exact ⟨_, _, rfl, G5.out, B5.out⟩
    · go_wp2_with fail
      refine (dfly_c n w5).mono ?_
      rintro e w6 ⟨rfl, b6⟩
      have b6H : Hid (Below w5.heap.size w5 w6) := b6
      have hownH : Hid (w6.ownsRow B 24 3 v' 1 [.int .i64 1, .int .i64 (n : Int), .slice none 0 0]) := (G5.out.bel b6).own
      have hs6 : Hid (B ≤ w6.heap.size) := Nat.le_trans hs5.out b6.size
      clear b6
      go_wp2_with (at_builtin; refine wpList_append_fr _ rfl _ _ 22 rfl B 24 i0 _ 3 40 Tryd.underlying22 hi0 hz0 hz1 hz2 rfl (by decide) _ _ _ rfl (hownH.out.alloc _) ⟨w6.heap.size, 0, none⟩ 1 1 [.int .i64 2, .int .i64 (n : Int), .slice none 0 0] rfl rfl (by intro j u' hj; match j, hj with | 0, hj => simp at hj; subst hj; simp [Addr.add] | 1, hj => simp at hj; subst hj; simp [Addr.add] | 2, hj => simp at hj; subst hj; simp [Addr.add] | j + 3, hj => simp at hj) (by intro u' hu'; simp at hu'; rcases hu' with h | h | h <;> subst h <;> rfl) (by unfold maxLen; simp) (by simp) (by have := hs6.out; simp; omega) ?_)
      intro v7 w7 q1 q2 q3
      have G7 : Hid (Gr B w7 v7 ([] ++ [Tr.mk 1 n []] ++ [Tr.mk 2 n []]) ([] ++ [.slice none 0 0] ++ [.slice none 0 0])) := Gr.leaf G5.out hs5.out b6H.out f2H.out q1 q2 (fun b hb => by have := q3 b hb; simpa using this)
      have B6 := B5.out.trans (b6H.out.mono hs5.out)
      have B7 : Hid (Below B w w7) := (B6.alloc hs6.out _).grown q2 (by have := hs6.out; simp; omega) (fun k' hk' => (hownH.out.lt k' hk').1)
      clear q1 q2 q3
      go_wp2_with fail
      go_ret
      rw [eL.out]
      exact ⟨_, _, rfl, G7.out, B7.out⟩
  · have hd' : decide ((n : Int) ≤ D) = false := decide_eq_false hd
    have eL : Hid (KS = (if cf then [⟨2, n, []⟩] else [])) := by
      show _ = _
      rw [hlv.out, if_neg hd]; rfl
    clear hlv hd
    go_wp2_with fail
    refine (hc.out wa (Below.refl _ _)).mono ?_
    rintro e w5 ⟨rfl, b5⟩
    have B5 : Hid (Below B w w5) := Ba2.out.trans (b5.mono hBa.out)
    have hs5 : Hid (B ≤ w5.heap.size) := Nat.le_trans hBa.out b5.size
    clear x0 x1 x2 b5
    cases cf
    · go_wp2_with fail
      go_ret
      rw [eL.out]
      exact ⟨_, [], rfl, Gr.nil _ _, B5.out⟩
    · go_wp2_with fail
      refine (dfly_c n w5).mono ?_
      rintro e w6 ⟨rfl, b6⟩
      have b6H : Hid (Below w5.heap.size w5 w6) := b6
      have hs6 : Hid (B ≤ w6.heap.size) := Nat.le_trans hs5.out b6.size
      have hownH : Hid (w6.ownsRow B 24 3 (.slice none 0 0) 0 []) := World.ownsRow_nil _ _ _ _
      clear b6
      go_wp2_with (at_builtin; refine wpList_append_fr _ rfl _ _ 22 rfl B 24 i0 _ 3 40 Tryd.underlying22 hi0 hz0 hz1 hz2 rfl (by decide) _ _ _ rfl (hownH.out.alloc _) ⟨w6.heap.size, 0, none⟩ 1 1 [.int .i64 2, .int .i64 (n : Int), .slice none 0 0] rfl rfl (by intro j u' hj; match j, hj with | 0, hj => simp at hj; subst hj; simp [Addr.add] | 1, hj => simp at hj; subst hj; simp [Addr.add] | 2, hj => simp at hj; subst hj; simp [Addr.add] | j + 3, hj => simp at hj) (by intro u' hu'; simp at hu'; rcases hu' with h | h | h <;> subst h <;> rfl) (by unfold maxLen; simp) (by simp) (by have := hs6.out; simp; omega) ?_)
      intro v7 w7 q1 q2 q3
      have G7 : Hid (Gr B w7 v7 ([] ++ [Tr.mk 2 n []]) ([] ++ [.slice none 0 0])) := Gr.leaf (Gr.nil B w5) hs5.out b6H.out f2H.out q1 q2 (fun b hb => by have := q3 b hb; simpa using this)
      have B6 := B5.out.trans (b6H.out.mono hs5.out)
      have B7 : Hid (Below B w w7) := (B6.alloc hs6.out _).grown q2 (by have := hs6.out; simp; omega) (fun k' hk' => by simp [Value.ownBlock] at hk')
      clear q1 q2 q3
      go_wp2_with fail
      go_ret
      rw [eL.out]
      exact ⟨_, _, rfl, G7.out, B7.out⟩
end Go.Proofs.YtoaccmblaifnmaaDoor
namespace Go.Proofs.YtoaccmblaifnmaaDoor
open Flo Go.RowKit
def ap (a b : Nat) : Nat := if pl a ≤ pl b then pl b - pl a else pl a - pl b
end Go.Proofs.YtoaccmblaifnmaaDoor
namespace Go.Proofs.YtoaccmblaifnmaaDoor
open Flo Go.RowKit
/-- m over 2^s, rounded to the nearest whole number, a half to the even one. -/
def hv (m s : Nat) : Nat := if 53 < s then 0 else if 2 ^ (s - 1) < m % 2 ^ s ∨ (m % 2 ^ s = 2 ^ (s - 1) ∧ m / 2 ^ s % 2 = 1) then m / 2 ^ s + 1 else m / 2 ^ s
/-- The size of the float nearest to m x 2^p, m of 53 digits. -/
def cm (m : Nat) (p : Int) : Nat := if 971 < p then 9218868437227405312 else if p < -1074 then hv m (-1074 - p).toNat else (p + 1075).toNat * 4503599627370496 + m % 4503599627370496
def ck (k : Int) : Int := if k < -2200 then -2200 else if 2200 < k then 2200 else k
/-- A float times 2^k, rounded once. -/
def sc (n : Nat) (k : Int) : Nat := if sz (bt n) = 0 ∨ 9218868437227405312 ≤ sz (bt n) then n else (if bt n < 9223372036854775808 then 0 else 9223372036854775808) + cm (dm (sz (bt n))) (dpD (sz (bt n)) + ck k)
end Go.Proofs.YtoaccmblaifnmaaDoor
namespace Go.Proofs.YtoaccmblaifnmaaDoor
open Flo Go.RowKit
set_option maxHeartbeats 1000000 in
theorem r13SizeOk_c (n : Nat) (w : World) (h : 0 < n) (hn : n ≤ 8192) :
    Calls Tryd.prog 77 #[.int .i64 n] w fun e w' => ∃ s : Nat, e = .returned (.tuple #[.int .i64 (s : Int), .int .i64 0]) ∧ Sz (2 * n - 1) s ∧ s ≤ 16384 ∧ w' = w := by
  have g1 : decide ((n : Int) < 1) = false := decide_eq_false (by omega)
  have g2 : decide ((n : Int) > 16384) = false := decide_eq_false (by omega)
  obtain ⟨K, hK, hK0⟩ : ∃ K : Nat, Hid (2 * n - 1 = K) ∧ (2 : Int) * (n : Int) - 1 = (K : Int) := ⟨2 * n - 1, (rfl : _ = _), by omega⟩
  rw [hK.out]
  have hK1 : K ≤ 16383 := by have := hK.out; omega
  go_enter Tryd.func77, Tryd.ntmps77
  go_wp2_with fail
  go_loopw [4] (fun ss wx => ∃ s : Nat, ss = .int .i64 (s : Int) ∧ s ≤ 32766 ∧ 0 < s ∧ Hid (∃ t, s = 2 ^ t ∧ (t = 0 ∨ 2 ^ t < 2 * K)) ∧ wx = w) (fun ss _ => K - (intOf ss).toNat)
  case atStart => exact ⟨1, rfl, by decide, by decide, ⟨0, rfl, .inl rfl⟩, rfl⟩
  case round =>
    obtain ⟨s, rfl, hs1, hs0, hs, rfl⟩ := hrel
    by_cases hlt : s < K
    · have hlt' : (s : Int) < (K : Int) := by omega
      obtain ⟨s2, hs2, hs3⟩ : ∃ s2 : Nat, Hid (s2 = 2 * s) ∧ (s : Int) * 2 = (s2 : Int) := ⟨2 * s, (rfl : _ = _), by omega⟩
      have hs4 : s2 ≤ 32766 := by have := hs2.out; omega
      have hs5 : 0 < s2 := by have := hs2.out; omega
      have hH : Hid (∃ t, s2 = 2 ^ t ∧ (t = 0 ∨ 2 ^ t < 2 * K)) := by
        obtain ⟨t, e, _⟩ := hs.out
        exact ⟨t + 1, by rw [hs2.out, e, Nat.pow_succ]; omega, .inr (by rw [Nat.pow_succ]; omega)⟩
      clear hs
      go_wp2_with fail
      go_roundw
      case rel => exact ⟨s2, rfl, hs4, hs5, hH, by trivial⟩
      case measure => simp [intOf]; have := hs2.out; omega
    · have hlt' : decide ((s : Int) < (K : Int)) = false := decide_eq_false (by omega)
      have hE : Hid (Sz K s ∧ s ≤ 16384) := by
        obtain ⟨t, e, h2⟩ := hs.out
        exact ⟨⟨t, e, by omega, by rw [e]; exact h2⟩, by rw [e]; exact sz_small h2 hK1⟩
      have q2 : decide ((s : Int) > 16384) = false := decide_eq_false (by have := hE.out.2; omega)
      clear hs
      go_wp2_with fail
      go_ret2
      exact ⟨s, rfl, hE.out.1, hE.out.2, rfl⟩
end Go.Proofs.YtoaccmblaifnmaaDoor
