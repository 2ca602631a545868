/-
  What PlannerLists and its fellows rest on, joined: Dv1 Dvu Pn8.
-/
import Derived.Test.YtoaccmblaifnmaaDoorProg
import Derived.WalkKit
import Ieee.Arith
import Derived.WalkLawsBesides
import Derived.RegionTactic
import Derived.Outline
import Derived.Lib.Mul64
import Derived.Laws.Bits64b
import Derived.Deep.QuietTactic
import Derived.BigQuiet
import Derived.WalkSmall
import Derived.Deep.CutBlock
import Derived.Deep.DeepCutAuto
import Derived.Test.YtoaccmblaifnmaaDoorRows
import Derived.LaidEql
import Derived.LaidLaws
import Derived.LaidHandle
import Derived.Stop.Joined
import Derived.Laws.CopyOwn
import Derived.RangeFuncNested
import Derived.RangeFuncBound
import Derived.RangeFuncCalls
import Derived.RangeFuncLeaves
import Derived.RangeFuncBox
import Derived.Shelf.Abstract
import Derived.Shelf.RegionOpen
import Derived.OwnWalkIn
import Derived.TacticsInMore
import Derived.LoopNIn
import Derived.LoopIn
import Derived.Maps.AppendAt
import Derived.Deep.RegionHeld3
import Derived.Deep.RegionWith
import Derived.Laws.OwnMore
import Derived.Laws.Rows
import Derived.Lib.ItoaNum
import Derived.Laws.IdiomStrings
import Derived.Lib.SmallJoins
import Derived.Lib.HexFns
import Derived.Recover
import Derived.RegionDies
import Derived.Lib.AppendIntMem
import Derived.Laws.AppendOwn
import Derived.OwnWalk
import Derived.BigCall
import Derived.Deep.RegionHeldLaw
import Derived.Laws.FloatArith
import Derived.Laws.ComplexArith
import Derived.Laws.MakeOwn
import Derived.MapKept
import Derived.Carry
import Derived.Test.YtoaccmblaifnmaaDoorBb9
import Derived.Test.YtoaccmblaifnmaaDoorBa2
import Derived.Test.YtoaccmblaifnmaaDoorBb8
import Derived.Test.YtoaccmblaifnmaaDoorBc1
namespace Go.Proofs.YtoaccmblaifnmaaDoor
open Flo Go.RowKit Go.Shelf
attribute [local go_sem] Oper.semAt_some

theorem lo_pre {n s c : Nat} (h : c ≤ s) : Nt.gen (Nt.loF n) c <+: Nt.DV n s := List.IsPrefix.trans (Nt.gen_pre _ h) (List.prefix_append _ _)
theorem hi_pre {n s c : Nat} (h : c ≤ s) : Nt.gen (Nt.loF n) s ++ Nt.gen (Nt.hiF n s) c <+: Nt.DV n s := by
  unfold Nt.DV
  obtain ⟨r, hr⟩ := Nt.gen_pre (Nt.hiF n s) h
  exact ⟨r, by rw [List.append_assoc, hr]⟩
set_option maxHeartbeats 1000000 in
theorem divisors_in (F : Fence) (n : Nat) (h5 : F.fn 94) (hro : F.round = none) (N : Int) (w : World) :
    CallsIn F n Tryd.prog 94 #[.int .i64 N] w fun e w' => e = .returned (.func (.func 110) #[] #[.pointer (some ⟨w.heap.size, 0, none⟩)]) ∧ w' = w.alloc (.cells #[.int .i64 N] 3) := by
  refine callsIn_of_wp Tryd.func94 rfl h5 ?_ hro
  simp only [Tryd.ntmps94, List.size_toArray, List.length_cons, List.length_nil, Nat.reduceAdd, Nat.reduceSub, Array.replicate_succ, Array.replicate_zero, List.push_toArray, List.append_toArray, List.nil_append, List.cons_append]
  gi_wp2
  go_ret
  exact ⟨rfl, rfl⟩
end Go.Proofs.YtoaccmblaifnmaaDoor
namespace Go.Proofs.YtoaccmblaifnmaaDoor
open Flo Go.RowKit Go.Shelf
attribute [local go_sem] Oper.semAt_some

set_option maxRecDepth 100000 in
set_option maxHeartbeats 4000000 in
theorem dvu_in (F : Fence) (n : Nat) (h6 : F.fn 110) (hro : F.round = none) (hn : 1 ≤ n) (l Bn N s : Nat) (hN1 : 1 ≤ N) (hN : N ≤ 4294967296) (hs1 : Hid (s * s ≤ N)) (hs2 : Hid (N < (s + 1) * (s + 1))) (J Jx : List Nat → World → Prop)
    (hY : ∀ pre x W, J pre W → W.cell? ⟨Bn, 0, none⟩ = some (.int .i64 (N : Int)) → pre ++ [x] <+: Nt.DV N s → YieldAt F (n - 1) Tryd.prog l #[.int .i64 (x : Nat)] W fun e W' =>
      (e = .returned (.bool true) ∧ J (pre ++ [x]) W' ∧ W'.cell? ⟨Bn, 0, none⟩ = W.cell? ⟨Bn, 0, none⟩) ∨ (e = .returned (.bool false) ∧ Jx (pre ++ [x]) W'))
    (W : World) (hBn : W.cell? ⟨Bn, 0, none⟩ = some (.int .i64 (N : Int))) (h0 : J [] W) :
    CallsIn F n Tryd.prog 110 #[.func (.yield l) #[] #[], .pointer (some ⟨Bn, 0, none⟩)] W fun e W' => (∃ v, e = .returned v) ∧
      ((∃ ys, ys = Nt.DV N s ∧ J ys W') ∨ (∃ pre, pre <+: Nt.DV N s ∧ Jx pre W')) := by
  have hs : s ≤ 65536 := by
    apply Nat.le_of_not_lt
    intro c
    have := Nat.mul_le_mul c c
    have := hs1.out
    omega
  have d1 : decide ((N : Int) < 1) = false := decide_eq_false (by omega)
  have d2 : decide ((4294967296 : Int) < (N : Int)) = false := decide_eq_false (by omega)
  refine callsIn_of_wp Tryd.func110 rfl h6 ?_ hro
  simp only [Tryd.ntmps110, List.size_toArray, List.length_cons, List.length_nil, Nat.reduceAdd, Nat.reduceSub, Array.replicate_succ, Array.replicate_zero, List.push_toArray, List.append_toArray, List.nil_append, List.cons_append]
  gi_wp2
  clear d1 d2
  gi_loopw [3] (fun sd wr => ∃ c : Nat, 1 ≤ c ∧ c ≤ s + 1 ∧ sd = .int .i64 (c : Int) ∧ wr.cell? ⟨Bn, 0, none⟩ = some (.int .i64 (N : Int)) ∧ J (Nt.gen (Nt.loF N) (c - 1)) wr) (fun sd _ => (s + 2) - (RowKit.intOf sd).toNat)
  case atStart => exact ⟨1, by omega, by omega, rfl, hBn, h0⟩
  case round =>
    clear hBn h0
    obtain ⟨c, hc1, hcs, rfl, hc, hJ⟩ := hrel
    obtain ⟨t, ht⟩ : ∃ t : Nat, t = c * c := ⟨_, rfl⟩
    have htl : t ≤ 4295098369 := by rw [ht]; exact Nat.mul_le_mul (show c ≤ 65537 by omega) (show c ≤ 65537 by omega)
    have ed : wrap64 ((c : Int) * (c : Int)) = (t : Int) := by
      rw [castMul, ← ht]; unfold wrap64; omega
    have dz : ((c : Int) == 0) = false := beq_eq_false_iff_ne.2 (by omega)
    by_cases hcc : t ≤ N
    · have hc' : (t : Int) ≤ (N : Int) := by omega
      have hle : c ≤ s := by
        apply Nat.le_of_not_lt
        intro k
        have := Nat.mul_le_mul (show s + 1 ≤ c by omega) (show s + 1 ≤ c by omega)
        have := hs2.out
        omega
      by_cases hm : N % c = 0
      · have m1 : ((N : Int) % (c : Int) == 0) = true := by rw [beq_iff_eq]; omega
        have hf : Nt.loF N (c - 1) = some c := by
          unfold Nt.loF; rw [show c - 1 + 1 = c by omega, if_pos hm]
        have hg : Hid (Nt.gen (Nt.loF N) (c + 1 - 1) = Nt.gen (Nt.loF N) (c - 1) ++ [c]) := (by
          have := Nt.gen_some hf
          rwa [show c - 1 + 1 = c + 1 - 1 by omega] at this : Nt.gen (Nt.loF N) (c + 1 - 1) = Nt.gen (Nt.loF N) (c - 1) ++ [c])
        have hp : Hid (Nt.gen (Nt.loF N) (c - 1) ++ [c] <+: Nt.DV N s) := (by rw [← hg.out]; exact lo_pre (by omega) : Nt.gen (Nt.loF N) (c - 1) ++ [c] <+: Nt.DV N s)
        obtain ⟨fn, tmps, assign, body, hy, hR⟩ := hY _ c wr hJ hc hp.out
        clear ht htl hcc hm hf
        gi_wp2
        refine hR.mono ?_
        rintro e W3 (⟨rfl, hJ3, hk3⟩ | ⟨rfl, hJx3⟩)
        · have hc3 : W3.cell? ⟨Bn, 0, none⟩ = some (.int .i64 (N : Int)) := hk3.trans hc
          clear hk3 hR hy
          gi_wp2
          go_roundw
          case rel => exact ⟨c + 1, by omega, by omega, by go_num, hc3, by rw [hg.out]; exact hJ3⟩
          case measure => simp [RowKit.intOf]; omega
        · gi_wp2
          refine bodyPost_ret (results_none rfl _ _ _) rfl ?_
          exact ⟨⟨_, rfl⟩, .inr ⟨_, hp.out, hJx3⟩⟩
      · have m1 : ((N : Int) % (c : Int) == 0) = false := beq_eq_false_iff_ne.2 (by omega)
        have hf : Nt.loF N (c - 1) = none := by
          unfold Nt.loF; rw [show c - 1 + 1 = c by omega, if_neg hm]
        have hg : Hid (Nt.gen (Nt.loF N) (c + 1 - 1) = Nt.gen (Nt.loF N) (c - 1)) := (by
          have := Nt.gen_none hf
          rwa [show c - 1 + 1 = c + 1 - 1 by omega] at this : Nt.gen (Nt.loF N) (c + 1 - 1) = Nt.gen (Nt.loF N) (c - 1))
        clear ht htl hcc hm hf
        gi_wp2
        refine ⟨fun _ h => (by cases h), ?_⟩
        gi_wp2
        go_roundw
        case rel => exact ⟨c + 1, by omega, by omega, by go_num, hc, by rw [hg.out]; exact hJ⟩
        case measure => simp [RowKit.intOf]; omega
    · have hc' : decide ((t : Int) ≤ (N : Int)) = false := decide_eq_false (by omega)
      have hcs' : c = s + 1 := by
        apply Nat.le_antisymm hcs
        apply Nat.le_of_not_lt
        intro k
        have := Nat.mul_le_mul (show c ≤ s by omega) (show c ≤ s by omega)
        have := hs1.out
        omega
      have hJs : J (Nt.gen (Nt.loF N) s) wr := by rw [hcs', Nat.add_sub_cancel] at hJ; exact hJ
      have hn0 : ¬ t ≤ N := hcc
      have es : Hid (c = s + 1) := hcs'
      clear ht htl hcc hJ hcs'
      gi_wp2
      clear hc' ed dz hn0
      gi_loopw [3] (fun sd wx => ∃ d : Nat, d ≤ s ∧ sd = .int .i64 (d : Int) ∧ wx.cell? ⟨Bn, 0, none⟩ = some (.int .i64 (N : Int)) ∧ J (Nt.gen (Nt.loF N) s ++ Nt.gen (Nt.hiF N s) (s - d)) wx) (fun sd _ => (RowKit.intOf sd).toNat)
      case atStart => exact ⟨s, Nat.le_refl _, by have := es.out; go_num, hc, by rw [Nat.sub_self]; simpa [Nt.gen] using hJs⟩
      case round =>
        clear hc hJs hc1 hcs es
        obtain ⟨d, hd, rfl, hc, hJ⟩ := hrel
        by_cases hd0 : d = 0
        · subst hd0
          have hJ' : J (Nt.DV N s) wr := by rw [Nat.sub_zero] at hJ; exact hJ
          gi_wp2
          go_end0
          exact ⟨⟨_, rfl⟩, .inl ⟨_, rfl, hJ'⟩⟩
        · have k0 : (0 : Int) < (d : Int) := by omega
          have dz : ((d : Int) == 0) = false := beq_eq_false_iff_ne.2 (by omega)
          obtain ⟨t2, ht⟩ : ∃ t : Nat, t = d * d := ⟨_, rfl⟩
          have htl : t2 ≤ 4294967296 := by rw [ht]; exact Nat.mul_le_mul (show d ≤ 65536 by omega) (show d ≤ 65536 by omega)
          have ed : wrap64 ((d : Int) * (d : Int)) = (t2 : Int) := by
            rw [castMul, ← ht]; unfold wrap64; omega
          have e0 : s - (s - d) = d := by omega
          have e1 : s - d + 1 = s - (d - 1) := by omega
          by_cases hm : N % d = 0
          · have m1 : ((N : Int) % (d : Int) == 0) = true := by rw [beq_iff_eq]; omega
            by_cases hne : t2 = N
            · have m2 : ((t2 : Int) == (N : Int)) = true := by rw [beq_iff_eq]; omega
              have m3 : ((t2 : Int) != (N : Int)) = false := by simp [bne, m2]
              have hf : Nt.hiF N s (s - d) = none := by
                unfold Nt.hiF; rw [e0, if_neg (fun h => h.2 (by omega))]
              have hg : Hid (Nt.gen (Nt.hiF N s) (s - (d - 1)) = Nt.gen (Nt.hiF N s) (s - d)) := (by rw [← e1]; exact Nt.gen_none hf : Nt.gen (Nt.hiF N s) (s - (d - 1)) = Nt.gen (Nt.hiF N s) (s - d))
              clear ht htl hne hm hf e0 e1
              gi_wp2
              refine ⟨fun _ h => (by cases h), ?_⟩
              gi_wp2
              go_roundw
              case rel => exact ⟨d - 1, by omega, by go_num, hc, by rw [hg.out]; exact hJ⟩
              case measure => simp [RowKit.intOf]; omega
            · have m2 : ((t2 : Int) == (N : Int)) = false := beq_eq_false_iff_ne.2 (by omega)
              have m3 : ((t2 : Int) != (N : Int)) = true := by simp [bne, m2]
              have hf : Nt.hiF N s (s - d) = some (N / d) := by
                unfold Nt.hiF; rw [e0, if_pos ⟨hm, by omega⟩]
              have hg : Hid (Nt.gen (Nt.hiF N s) (s - (d - 1)) = Nt.gen (Nt.hiF N s) (s - d) ++ [N / d]) := (by rw [← e1]; exact Nt.gen_some hf : Nt.gen (Nt.hiF N s) (s - (d - 1)) = Nt.gen (Nt.hiF N s) (s - d) ++ [N / d])
              have hp : Hid (Nt.gen (Nt.loF N) s ++ Nt.gen (Nt.hiF N s) (s - d) ++ [N / d] <+: Nt.DV N s) := (by rw [List.append_assoc, ← hg.out]; exact hi_pre (by omega) : Nt.gen (Nt.loF N) s ++ Nt.gen (Nt.hiF N s) (s - d) ++ [N / d] <+: Nt.DV N s)
              obtain ⟨q, hq⟩ : ∃ q : Nat, q = N / d := ⟨_, rfl⟩
              have hqN : q ≤ N := by rw [hq]; exact Nat.div_le_self _ _
              rw [← hq] at hg hp
              have eq1 : wrap64 ((N : Int) / (d : Int)) = (q : Int) := by
                rw [show (N : Int) / (d : Int) = ((N / d : Nat) : Int) from rfl, ← hq]; unfold wrap64; omega
              obtain ⟨fn, tmps, assign, body, hy, hR⟩ := hY _ q wr hJ hc hp.out
              clear ht htl hne hm hf e0 e1 hq hqN
              gi_wp2
              refine hR.mono ?_
              rintro e W3 (⟨rfl, hJ3, hk3⟩ | ⟨rfl, hJx3⟩)
              · have hc3 : W3.cell? ⟨Bn, 0, none⟩ = some (.int .i64 (N : Int)) := hk3.trans hc
                clear hk3 hR hy
                gi_wp2
                go_roundw
                case rel => exact ⟨d - 1, by omega, by go_num, hc3, by rw [hg.out, ← List.append_assoc]; exact hJ3⟩
                case measure => simp [RowKit.intOf]; omega
              · gi_wp2
                refine bodyPost_ret (results_none rfl _ _ _) rfl ?_
                exact ⟨⟨_, rfl⟩, .inr ⟨_, hp.out, hJx3⟩⟩
          · have m1 : ((N : Int) % (d : Int) == 0) = false := beq_eq_false_iff_ne.2 (by omega)
            have hf : Nt.hiF N s (s - d) = none := by
              unfold Nt.hiF; rw [e0, if_neg (fun h => hm h.1)]
            have hg : Hid (Nt.gen (Nt.hiF N s) (s - (d - 1)) = Nt.gen (Nt.hiF N s) (s - d)) := (by rw [← e1]; exact Nt.gen_none hf : Nt.gen (Nt.hiF N s) (s - (d - 1)) = Nt.gen (Nt.hiF N s) (s - d))
            clear ht htl hm hf e0 e1
            gi_wp2
            refine ⟨fun _ h => (by cases h), ?_⟩
            gi_wp2
            go_roundw
            case rel => exact ⟨d - 1, by omega, by go_num, hc, by rw [hg.out]; exact hJ⟩
            case measure => simp [RowKit.intOf]; omega
/-- the divisors of n, one after the other -/
theorem divs_seq (Bn n : Nat) (h1 : 1 ≤ n) (h2 : n ≤ 16384) : SeqU Tryd.prog 110 #[.pointer (some ⟨Bn, 0, none⟩)] [(Bn, .cells #[.int .i64 (n : Int)] 3 (0, 0))] (fun (x : Nat) v O _ => v = .int .i64 (x : Int) ∧ ∀ b, ¬ O b) (Nt.divs n) False (fun _ _ => True) (fun _ => False) := by
  intro m l J Jx W U V _ hC hCV bV bU hap hJ hJx hY h0
  obtain ⟨s, s1, s2⟩ := Nt.root_ex n
  have hD : Nt.DV n s = Nt.divs n := Nt.DV_divs h1 s1 s2
  have hBV : V Bn := hCV (Bn, .cells #[.int .i64 (n : Int)] 3 (0, 0)) (by simp)
  have hB : W.cell? ⟨Bn, 0, none⟩ = some (.int .i64 (n : Int)) := by rw [Joins.cell_of_block (hC (Bn, .cells #[.int .i64 (n : Int)] 3 (0, 0)) (by simp))]; rfl
  have hin := dvu_in Fence.wide (m + 1) trivial rfl (by omega) l Bn n s h1 (by omega) s1 s2
    (fun pre X => ∃ U', J pre U' X ∧ Bd U' X ∧ Bd V X ∧ Ap V U' ∧ W.heap.size ≤ X.heap.size ∧ ∀ b, V b → X.heap[b]? = W.heap[b]?)
    (fun pre X => ∃ U', Jx pre U' X ∧ Bd U' X ∧ Bd V X ∧ Ap V U' ∧ W.heap.size ≤ X.heap.size ∧ ∀ b, V b → X.heap[b]? = W.heap[b]?) ?_ W hB ⟨U, h0, bU, bV, hap, Nat.le_refl _, fun _ _ => rfl⟩
  · refine (callsIn_wide.2 (callsIn_wide.1 hin)).mono ?_
    rintro e W' ⟨hv, hr⟩
    refine ⟨hv, ?_⟩
    rcases hr with ⟨ys, rfl, U', q1, q2, q3, q4, _, q6⟩ | ⟨pre, hp, U', q1, q2, q3, q4, _, q6⟩
    · exact ⟨U', V, trivial, (fun b hb _ => q6 b hb), (fun b hb => hb), (fun b hb => .inl hb), q3, q2, q4, .inl (by rw [← hD]; exact q1)⟩
    · exact ⟨U', V, trivial, (fun b hb _ => q6 b hb), (fun b hb => hb), (fun b hb => .inl hb), q3, q2, q4, .inr ⟨pre, by rw [← hD]; exact hp, q1⟩⟩
  · rintro pre x X ⟨U', q1, q2, q3, q4, q5, q6⟩ hcx hp
    refine (hY (m + 1 - 1) pre x _ U' (fun _ => False) X q1 ⟨rfl, fun _ h => h⟩ (fun _ h => h.elim) q2 (fun _ h => h.elim) (by rw [← hD]; exact hp)).mono ?_
    rintro e W' ⟨U2, r, hr⟩
    have hBX : Bn < X.heap.size := q3 _ hBV
    have hk : W'.cell? ⟨Bn, 0, none⟩ = X.cell? ⟨Bn, 0, none⟩ := r.kt.cell (p := ⟨Bn, 0, none⟩) hBX (by rintro (h | ⟨h, _⟩); exact q4 _ hBV h; exact h)
    have ha : Ap V U2 := r.apart q4 (fun h => h.elim) q3
    rcases hr with ⟨rfl, hJ'⟩ | ⟨rfl, hJ'⟩
    · exact .inl ⟨rfl, ⟨U2, hJ', r.bd, q3.kt r.kt, ha, Nat.le_trans q5 r.kt.size, fun b hb => (r.kt.block b (q3 b hb) (by rintro (h | ⟨h, _⟩); exact q4 _ hb h; exact h)).trans (q6 b hb)⟩, hk⟩
    · exact .inr ⟨rfl, ⟨U2, hJ', r.bd, q3.kt r.kt, ha, Nat.le_trans q5 r.kt.size, fun b hb => (r.kt.block b (q3 b hb) (by rintro (h | ⟨h, _⟩); exact q4 _ hb h; exact h)).trans (q6 b hb)⟩⟩
end Go.Proofs.YtoaccmblaifnmaaDoor
namespace Go.Proofs.YtoaccmblaifnmaaDoor
open Flo Go.RowKit Go.Shelf
/-- it goes on, in one of these frames -/
def qP (V1 V2 : Value → World → Prop) (mk : Value → Bool → Act) : Exit → Act → World → Prop
  | .normal, a, w => (∃ v, a = mk v true ∧ V1 v w) ∨ (∃ v, a = mk v false ∧ V2 v w)
  | _, _, _ => False
set_option maxRecDepth 100000 in
set_option maxHeartbeats 8000000 in
theorem tell_reg {n l l0 g B8 Bx al ac bl bc : Nat} {ak an bk bn : Int} {aa ba : Option Addr} {s0 s1 s2 s3 s4 s6 s7 s10 s11 s12 s13 s14 s15 s16 s17 s18 s19 s20 s21 s22 s23 s24 : Value} {W : World} {Q : Exit → Act → World → Prop} {Z V1 V2 : Value → World → Prop}
    (hS : (fun X : World => X.cell? ⟨g, 0, none⟩ = some (.func (.yield l0) #[] #[]) ∧ X.cell? ⟨B8, 0, none⟩ = some (.int .i64 ak) ∧ X.cell? ⟨B8, 1, none⟩ = some (.int .i64 an) ∧ X.cell? ⟨B8, 2, none⟩ = some (.slice aa al ac) ∧ X.cell? ⟨Bx, 0, none⟩ = some (.int .i64 bk) ∧ X.cell? ⟨Bx, 1, none⟩ = some (.int .i64 bn) ∧ X.cell? ⟨Bx, 2, none⟩ = some (.slice ba bl bc)) W.drew)
    (hc : Calls Tryd.prog 11 #[.agg #[.int .i64 ak, .int .i64 an, .slice aa al ac], .agg #[.int .i64 bk, .int .i64 bn, .slice ba bl bc]] W.drew fun e W1 => ∃ v, e = .returned v ∧ (fun X : World => X.cell? ⟨g, 0, none⟩ = some (.func (.yield l0) #[] #[]) ∧ X.cell? ⟨B8, 0, none⟩ = some (.int .i64 ak) ∧ X.cell? ⟨B8, 1, none⟩ = some (.int .i64 an) ∧ X.cell? ⟨B8, 2, none⟩ = some (.slice aa al ac) ∧ X.cell? ⟨Bx, 0, none⟩ = some (.int .i64 bk) ∧ X.cell? ⟨Bx, 1, none⟩ = some (.int .i64 bn) ∧ X.cell? ⟨Bx, 2, none⟩ = some (.slice ba bl bc)) W1 ∧ Z v W1)
    (hy : ∀ v W1, Z v W1 → YieldAt Fence.wide (n - 1) Tryd.prog l0 #[v] W1 fun e W' => ((e = .returned (.bool true) ∧ V1 v W') ∨ (e = .returned (.bool false) ∧ V2 v W')) ∧ (fun X : World => X.cell? ⟨g, 0, none⟩ = some (.func (.yield l0) #[] #[]) ∧ X.cell? ⟨B8, 0, none⟩ = some (.int .i64 ak) ∧ X.cell? ⟨B8, 1, none⟩ = some (.int .i64 an) ∧ X.cell? ⟨B8, 2, none⟩ = some (.slice aa al ac) ∧ X.cell? ⟨Bx, 0, none⟩ = some (.int .i64 bk) ∧ X.cell? ⟨Bx, 1, none⟩ = some (.int .i64 bn) ∧ X.cell? ⟨Bx, 2, none⟩ = some (.slice ba bl bc)) W')
    (hQ : ∀ v b W', (b = true ∧ V1 v W') ∨ (b = false ∧ V2 v W') → Q .normal { tmps := #[s0, s1, s2, s3, s4, .pointer (some ⟨g, 0, none⟩), s6, s7, .pointer (some ⟨B8, 0, none⟩), .pointer (some ⟨Bx, 0, none⟩), s10, s11, s12, s13, s14, s15, s16, s17, .func (.yield l0) #[] #[], .agg #[.int .i64 ak, .int .i64 an, .slice aa al ac], .agg #[.int .i64 bk, .int .i64 bn, .slice ba bl bc], v, .bool b, .bool (!b), s24], defers := [] } W') :
    (Code.region 6 #[{ dst := some 18, op := Go.Op.load 26 (Go.Operand.tmp 5), type := 26, pos := "search.go:83", after := #[], guard := none },
      { dst := some 19, op := Go.Op.load 24 (Go.Operand.tmp 8), type := 24, pos := "search.go:83", after := #[], guard := none },
      { dst := some 20, op := Go.Op.load 24 (Go.Operand.tmp 9), type := 24, pos := "search.go:83", after := #[], guard := none },
      { dst := some 21, op := Go.Op.call { callee := Go.Callee.value (Go.Operand.func 11), args := #[Go.Operand.tmp 19, Go.Operand.tmp 20], argTypes := #[24, 24] }, type := 24, pos := "search.go:83", after := #[{ on := 1, ground := Go.Ground.data }, { on := 2, ground := Go.Ground.data }], guard := none },
      { dst := some 22, op := Go.Op.call { callee := Go.Callee.value (Go.Operand.tmp 18), args := #[Go.Operand.tmp 21], argTypes := #[24] }, type := 4, pos := "search.go:83", after := #[{ on := 0, ground := Go.Ground.data }, { on := 3, ground := Go.Ground.data }, { on := 3, ground := Go.Ground.chain }], guard := none },
      { dst := some 23, op := Go.Op.unOp Go.UnOp.not 4 (Go.Operand.tmp 22), type := 4, pos := "search.go:83", after := #[{ on := 4, ground := Go.Ground.data }], guard := none }] true).wpIn (Fence.wide.inRound l) n Tryd.prog Q { tmps := #[s0, s1, s2, s3, s4, .pointer (some ⟨g, 0, none⟩), s6, s7, .pointer (some ⟨B8, 0, none⟩), .pointer (some ⟨Bx, 0, none⟩), s10, s11, s12, s13, s14, s15, s16, s17, s18, s19, s20, s21, s22, s23, s24], defers := [] } W := by
  have hmix : Tryd.prog.follows .mixedOrders = true := by kernel_rfl
  refine wpIn_mono (Q := qP V1 V2 fun v b => { tmps := #[s0, s1, s2, s3, s4, .pointer (some ⟨g, 0, none⟩), s6, s7, .pointer (some ⟨B8, 0, none⟩), .pointer (some ⟨Bx, 0, none⟩), s10, s11, s12, s13, s14, s15, s16, s17, .func (.yield l0) #[] #[], .agg #[.int .i64 ak, .int .i64 an, .slice aa al ac], .agg #[.int .i64 bk, .int .i64 bn, .slice ba bl bc], v, .bool b, .bool (!b), s24], defers := [] }) ?_ ?_
  · refine HIn.round (S := fun X : World => X.cell? ⟨g, 0, none⟩ = some (.func (.yield l0) #[] #[]) ∧ X.cell? ⟨B8, 0, none⟩ = some (.int .i64 ak) ∧ X.cell? ⟨B8, 1, none⟩ = some (.int .i64 an) ∧ X.cell? ⟨B8, 2, none⟩ = some (.slice aa al ac) ∧ X.cell? ⟨Bx, 0, none⟩ = some (.int .i64 bk) ∧ X.cell? ⟨Bx, 1, none⟩ = some (.int .i64 bn) ∧ X.cell? ⟨Bx, 2, none⟩ = some (.slice ba bl bc)) l rfl (by kernel_rfl) hmix ?_
    clear hQ
    refine HIn.take (i := 0) (v := .func (.yield l0) #[] #[]) rfl rfl (by kernel_rfl) (by kernel_rfl) (by kernel_rfl) (fun _ _ _ h => h) ⟨fun _ => rfl, Or.inl ⟨by rfl, fun w hw => by obtain ⟨e0, e1, e2, e3, e4, e5, e6⟩ := hw; go_simp⟩⟩ hS ?_
    refine HIn.take (i := 1) (v := .agg #[.int .i64 ak, .int .i64 an, .slice aa al ac]) rfl rfl (by kernel_rfl) (by kernel_rfl) (by kernel_rfl) (fun _ _ _ h => h) ⟨fun _ => rfl, Or.inl ⟨by rfl, fun w hw => by obtain ⟨e0, e1, e2, e3, e4, e5, e6⟩ := hw; go_simp⟩⟩ hS ?_
    refine HIn.take (i := 2) (v := .agg #[.int .i64 bk, .int .i64 bn, .slice ba bl bc]) rfl rfl (by kernel_rfl) (by kernel_rfl) (by kernel_rfl) (fun _ _ _ h => h) ⟨fun _ => rfl, Or.inl ⟨by rfl, fun w hw => by obtain ⟨e0, e1, e2, e3, e4, e5, e6⟩ := hw; go_simp⟩⟩ hS ?_
    refine HIn.one (i := 3) rfl (by kernel_rfl) (fun K hK => ?_)
    go_simp
    refine ⟨trivial, fun h => (by cases h), (callsIn_wide.2 hc).mono ?_⟩
    rintro e W1 ⟨v, rfl, hS1, z1⟩
    refine hK _ _ hS1 ?_
    clear hK K
    refine HIn.one (i := 4) rfl (by kernel_rfl) (fun K hK => ?_)
    obtain ⟨fn, tmps, assign, body, hyy, hR⟩ := hy v W1 z1
    go_simp
    refine ⟨fun h => (by cases h), hR.mono ?_⟩
    rintro e W3 ⟨(⟨rfl, h1⟩ | ⟨rfl, h1⟩), hS3⟩
    · refine hK _ _ hS3 ?_
      clear hK K
      refine HIn.take (i := 5) (v := .bool false) rfl rfl (by kernel_rfl) (by kernel_rfl) (by kernel_rfl) (fun _ _ _ h => h) ⟨fun _ => rfl, Or.inl ⟨by rfl, fun w _ => by go_simp⟩⟩ hS3 ?_
      refine HIn.done (by kernel_rfl) ?_ _
      exact .inl ⟨_, rfl, h1⟩
    · refine hK _ _ hS3 ?_
      clear hK K
      refine HIn.take (i := 5) (v := .bool true) rfl rfl (by kernel_rfl) (by kernel_rfl) (by kernel_rfl) (fun _ _ _ h => h) ⟨fun _ => rfl, Or.inl ⟨by rfl, fun w _ => by go_simp⟩⟩ hS3 ?_
      refine HIn.done (by kernel_rfl) ?_ _
      exact .inr ⟨_, rfl, h1⟩
  · intro e a w h
    cases e <;> first | exact h.elim | (rcases h with ⟨v, rfl, h⟩ | ⟨v, rfl, h⟩; exact hQ v true w (.inl ⟨rfl, h⟩); exact hQ v false w (.inr ⟨rfl, h⟩))
end Go.Proofs.YtoaccmblaifnmaaDoor
