/-
  What PlannerLists and its fellows rest on, joined: Dk7 Dka.
-/
import Derived.WalkKit
import Ieee.Arith
import Derived.WalkLawsBesides
import Derived.Laws.FloatArith
import Derived.Test.YtoaccmblaifnmaaDoorProg
import Derived.RegionTactic
import Derived.Outline
import Derived.Lib.Mul64
import Derived.Laws.Bits64b
import Derived.Deep.QuietTactic
import Derived.BigQuiet
import Derived.WalkSmall
import Derived.Deep.CutBlock
import Derived.Deep.DeepCutAuto
import Derived.Laws.Rows
import Derived.Lib.ItoaNum
import Derived.Laws.IdiomStrings
import Derived.Deep.RegionHeld3
import Derived.Lib.SmallJoins
import Derived.Lib.HexFns
import Derived.Test.YtoaccmblaifnmaaDoorRows
import Derived.LaidEql
import Derived.LaidLaws
import Derived.LaidHandle
import Derived.Stop.Joined
import Derived.Deep.RegionWith
import Derived.Recover
import Derived.RegionDies
import Derived.Laws.CopyOwn
import Derived.Lib.AppendIntMem
import Derived.Deep.RegionHeldLaw
import Derived.Maps.AppendAt
import Derived.Laws.OwnMore
import Derived.RangeFuncNested
import Derived.RangeFuncBound
import Derived.RangeFuncCalls
import Derived.RangeFuncLeaves
import Derived.RangeFuncBox
import Derived.Shelf.Abstract
import Derived.Shelf.RegionOpen
import Derived.OwnWalkIn
import Derived.TacticsInMore
import Derived.LoopNIn
import Derived.LoopIn
import Derived.Laws.AppendOwn
import Derived.OwnWalk
import Derived.BigCall
import Derived.Laws.ComplexArith
import Derived.Laws.MakeOwn
import Derived.MapKept
import Derived.Carry
import Derived.ChangeAlike
import Derived.Deep.RegionLaw
import Derived.Defers
import Derived.Deep.AppendSrc
import Derived.Test.YtoaccmblaifnmaaDoorBd7
import Derived.Test.YtoaccmblaifnmaaDoorBe1
namespace Go.Proofs.YtoaccmblaifnmaaDoor
open Flo Go.RowKit Tr
theorem rsF_snoc (f : Int) : ∀ (xs : List Int) (l : Int), rsF l (xs ++ [f]) = (rsF l xs && (decide (2 ≤ f) && decide (f ≤ 5) && decide ((l :: xs).getLast (by simp) < f)))
  | [], l => by
    show (decide (2 ≤ f) && decide (f ≤ 5) && decide (l < f) && true) = (true && _)
    rw [Bool.and_true, Bool.true_and]
    rfl
  | x :: xs, l => by
    rw [List.cons_append, rsF, rsF, rsF_snoc f xs x]
    have e : (l :: x :: xs).getLast (by simp) = (x :: xs).getLast (by simp) := by rw [List.getLast_cons (by simp)]
    rw [e]
    simp only [Bool.and_assoc]
theorem rsF_step {F : List Int} {k : Nat} (hk : k < F.length) : rsF 0 (F.take (k + 1)) = (rsF 0 (F.take k) && (decide (2 ≤ F.getD k 0) && decide (F.getD k 0 ≤ 5) && (decide (k = 0) || decide (F.getD (k - 1) 0 < F.getD k 0)))) := by
  have e : F.getD k 0 = F[k] := by rw [List.getD_eq_getElem?_getD, List.getElem?_eq_getElem hk]; rfl
  have et : F.take (k + 1) = F.take k ++ [F[k]] := by rw [List.take_add_one, List.getElem?_eq_getElem hk]; rfl
  rw [et, rsF_snoc, e]
  by_cases h0 : k = 0
  · subst h0
    have hl : (0 :: F.take 0).getLast (by simp) = 0 := rfl
    rw [hl]
    by_cases h2 : (2 : Int) ≤ F[0]
    · have h3 : (0 : Int) < F[0] := by omega
      rw [decide_eq_true h3]; simp
    · rw [decide_eq_false h2]; simp
  · have hk1 : k - 1 < F.length := by omega
    have e1 : F.getD (k - 1) 0 = F[k - 1] := by rw [List.getD_eq_getElem?_getD, List.getElem?_eq_getElem hk1]; rfl
    have hl : (0 :: F.take k).getLast (by simp) = F[k - 1] := by
      have hne : F.take k ≠ [] := fun h => by
        have h9 := congrArg List.length h
        rw [List.length_take, List.length_nil] at h9
        omega
      have hlen : (F.take k).length - 1 = k - 1 := by rw [List.length_take]; omega
      rw [List.getLast_cons hne, List.getLast_eq_getElem]
      simp only [List.getElem_take, hlen]
    rw [hl, e1, decide_eq_false h0, Bool.false_or]
set_option maxHeartbeats 4000000 in
set_option maxRecDepth 100000 in
theorem dcheckP_c {D p : Int} {F : List Int} {V : Nat → Prop} (fv : Value) (w : World) (hF : FlR V w fv F) (hn : F.length ≤ 9223372036854775807) : Calls Tryd.prog 26 #[.agg #[.int .i64 D, fv, .int .i64 p]] w fun e w' => e = .returned (.int .i64 (if gdP D p F then 0 else 5)) ∧ Below w.heap.size w w' := by
  obtain ⟨ao, cap, rfl, hc0⟩ := hF
  obtain ⟨wa, ewa⟩ : ∃ wa, Hid (w.alloc (.cells #[.int .i64 D, .slice ao F.length cap, .int .i64 p] 45) = wa) := ⟨_, (rfl : _ = _)⟩
  have Ba : Hid (Below w.heap.size w wa) := by show Below _ _ _; rw [← ewa.out]; exact (Below.refl _ _).alloc (Nat.le_refl _) _
  obtain ⟨g, hg⟩ : ∃ g, Hid (w.heap.size = g) := ⟨_, (rfl : _ = _)⟩
  have Xa : Bp wa g D (.slice ao F.length cap) p := by rw [← ewa.out, ← hg.out]; exact Bp.new _ _ _ _
  obtain ⟨L, hL⟩ : ∃ L, Hid (F.length = L) := ⟨_, (rfl : _ = _)⟩
  have hc : Hid (∀ i, i < L → ∃ b off, ao = some ⟨b, off, none⟩ ∧ wa.cell? ⟨b, off + i, none⟩ = some (.int .i64 (F.getD i 0))) := fun i hi => by
    obtain ⟨b, off, h1, _, h3, h4⟩ := hc0 i (by rw [hL.out]; exact hi)
    exact ⟨b, off, h1, (Ba.out.cell (p := ⟨b, off + i, none⟩) h3).trans h4⟩
  rw [hL.out] at Xa hn ewa ⊢
  have x0 := Xa.c0
  have x1 := Xa.c1
  have x2 := Xa.c2
  obtain ⟨ok0, hok0⟩ : ∃ z, Hid ((decide (2 ≤ D) && decide (D ≤ 64) && decide (2 ≤ p) && decide (p ≤ D)) = z) := ⟨_, (rfl : _ = _)⟩
  obtain ⟨RV, hRV⟩ : ∃ z : Int, Hid ((if gdP D p F = true then (0 : Int) else 5) = z) := ⟨_, (rfl : _ = _)⟩
  rw [hRV.out]
  clear hc0 Xa
  go_enter Tryd.func26, Tryd.ntmps26
  go_upto_region 1 with fail
  rw [ewa.out, hg.out]
  go_cut [3] (fun s wx => s = .bool ok0 ∧ wa = wx)
  case first =>
    by_cases h1 : 2 ≤ D
    · by_cases h2 : D ≤ 64
      · by_cases h3 : 2 ≤ p
        · by_cases h4 : p ≤ D
          · have hv : Hid (true = ok0) := by show _ = _; rw [← hok0.out]; simp [h1, h2, h3, h4]
            go_wp2_with fail
            go_meet
            exact ⟨congrArg Value.bool hv.out, rfl⟩
          · have h4' : decide (p ≤ D) = false := decide_eq_false h4
            have hv : Hid (false = ok0) := by show _ = _; rw [← hok0.out]; simp [h4]
            go_wp2_with fail
            go_meet
            exact ⟨congrArg Value.bool hv.out, rfl⟩
        · have h3' : decide (2 ≤ p) = false := decide_eq_false h3
          have hv : Hid (false = ok0) := by show _ = _; rw [← hok0.out]; simp [h3]
          go_wp2_with fail
          go_meet
          exact ⟨congrArg Value.bool hv.out, rfl⟩
      · have h2' : decide (D ≤ 64) = false := decide_eq_false h2
        have hv : Hid (false = ok0) := by show _ = _; rw [← hok0.out]; simp [h2]
        go_wp2_with fail
        go_meet
        exact ⟨congrArg Value.bool hv.out, rfl⟩
    · have h1' : decide (2 ≤ D) = false := decide_eq_false h1
      have hv : Hid (false = ok0) := by show _ = _; rw [← hok0.out]; simp [h1]
      go_wp2_with fail
      go_meet
      exact ⟨congrArg Value.bool hv.out, rfl⟩
  case rest =>
  obtain ⟨rfl, rfl⟩ := hcut
  go_wp2
  go_loopw [3, 4] (fun b i wr => ∃ (k : Nat), k ≤ L ∧ i = .int .i64 k ∧ b = .bool (ok0 && rsF 0 (F.take k)) ∧ wa = wr) (fun _ i _ => L - (intOf i).toNat)
  case atStart => exact ⟨0, Nat.zero_le _, rfl, by rw [List.take_zero]; show _ = Value.bool (ok0 && true); rw [Bool.and_true], rfl⟩
  case round =>
    obtain ⟨k, hk, rfl, rfl, rfl⟩ := hrel
    by_cases hlt : k < L
    · have hlt' : (k : Int) < (L : Int) := by omega
      obtain ⟨b, off, rfl, z1⟩ := hc.out k hlt
      have hst := rsF_step (F := F) (k := k) (by rw [hL.out]; exact hlt)
      obtain ⟨X, hX⟩ : ∃ X, Hid (F.getD k 0 = X) := ⟨_, (rfl : _ = _)⟩
      obtain ⟨PX, hPX⟩ : ∃ X, Hid (F.getD (k - 1) 0 = X) := ⟨_, (rfl : _ = _)⟩
      obtain ⟨o1, ho1⟩ : ∃ z, Hid ((ok0 && rsF 0 (F.take k)) = z) := ⟨_, (rfl : _ = _)⟩
      obtain ⟨o2, ho2⟩ : ∃ z, Hid ((ok0 && rsF 0 (F.take (k + 1))) = z) := ⟨_, (rfl : _ = _)⟩
      have hst2 : Hid ((o1 && (decide (2 ≤ X) && decide (X ≤ 5) && (decide (k = 0) || decide (PX < X)))) = o2) := by
        show _ = _
        rw [← ho2.out, hst, hX.out, hPX.out, ← ho1.out, Bool.and_assoc]
      rw [hX.out] at z1
      rw [ho1.out]
      clear hst hX
      cases o1 with
      | false =>
        have hv : Hid (false = o2) := by show _ = _; rw [← hst2.out]; rfl
        go_wp2
        go_roundw
        case rel => exact ⟨k + 1, by omega, by go_num, by rw [ho2.out, hv.out], by first | rfl | trivial⟩
        case measure => simp [intOf]; omega
      | true =>
        by_cases h2 : 2 ≤ X
        · by_cases h5 : X ≤ 5
          · by_cases h0 : k = 0
            · have hv : Hid (true = o2) := by show _ = _; rw [← hst2.out]; simp [h2, h5, h0]
              subst h0
              simp only [Nat.add_zero] at z1
              go_wp2
              go_roundw
              case rel => exact ⟨1, by omega, by go_num, by rw [ho2.out, hv.out], by first | rfl | trivial⟩
              case measure => simp [intOf]; omega
            · obtain ⟨b2, off2, e2, z2⟩ := hc.out (k - 1) (by omega)
              cases e2
              rw [hPX.out] at z2
              obtain ⟨k1, hk1, hk1'⟩ : ∃ k1 : Nat, Hid (k1 = k - 1) ∧ (k : Int) - 1 = (k1 : Int) := ⟨k - 1, (rfl : _ = _), by omega⟩
              rw [← hk1.out] at z2
              have hk1b : (k1 : Int) < (L : Int) := by omega
              have hk1c : ¬ L ≤ k1 := by omega
              have hk0 : ((k : Int) == 0) = false := beq_eq_false_iff_ne.2 (by omega)
              by_cases hp : PX < X
              · have hv : Hid (true = o2) := by show _ = _; rw [← hst2.out]; simp [h2, h5, hp]
                clear hk1
                go_wp2
                go_roundw
                case rel => exact ⟨k + 1, by omega, by go_num, by rw [ho2.out, hv.out], by first | rfl | trivial⟩
                case measure => simp [intOf]; omega
              · have hp' : decide (PX < X) = false := decide_eq_false hp
                have hv : Hid (false = o2) := by show _ = _; rw [← hst2.out]; simp [h0, hp]
                clear hk1
                go_wp2
                go_roundw
                case rel => exact ⟨k + 1, by omega, by go_num, by rw [ho2.out, hv.out], by first | rfl | trivial⟩
                case measure => simp [intOf]; omega
          · have h5' : decide (X ≤ 5) = false := decide_eq_false h5
            have hv : Hid (false = o2) := by show _ = _; rw [← hst2.out]; simp [h5]
            go_wp2
            go_roundw
            case rel => exact ⟨k + 1, by omega, by go_num, by rw [ho2.out, hv.out], by first | rfl | trivial⟩
            case measure => simp [intOf]; omega
        · have h2' : decide (2 ≤ X) = false := decide_eq_false h2
          have hv : Hid (false = o2) := by show _ = _; rw [← hst2.out]; simp [h2]
          go_wp2
          go_roundw
          case rel => exact ⟨k + 1, by omega, by go_num, by rw [ho2.out, hv.out], by first | rfl | trivial⟩
          case measure => simp [intOf]; omega
    · have hlt' : decide ((k : Int) < (L : Int)) = false := decide_eq_false (by omega)
      have hgd : Hid (gdP D p F = (ok0 && rsF 0 (F.take k))) := by
        show _ = _
        rw [List.take_of_length_le (by rw [hL.out]; omega), ← hok0.out]
        rfl
      obtain ⟨o1, ho1⟩ : ∃ z, Hid ((ok0 && rsF 0 (F.take k)) = z) := ⟨_, (rfl : _ = _)⟩
      rw [ho1.out] at hgd ⊢
      cases o1 with
      | false =>
        have hv : Hid ((5 : Int) = RV) := by show _ = _; rw [← hRV.out, hgd.out]; rfl
        go_wp2
        go_ret
        exact ⟨by rw [← hv.out]; rfl, Ba.out⟩
      | true =>
        have hv : Hid ((0 : Int) = RV) := by show _ = _; rw [← hRV.out, hgd.out]; rfl
        go_wp2
        go_ret
        exact ⟨by rw [← hv.out]; rfl, Ba.out⟩
end Go.Proofs.YtoaccmblaifnmaaDoor
namespace Go.Proofs.YtoaccmblaifnmaaDoor
open Flo Go.RowKit Tr
theorem step_fl {ops : Array Oper} {o : Oper} {a : Act} {w : World} {K : Act → World → Prop} {Q : Exit → Act → World → Prop} {E : Prop}
    (hg : o.guard = none) (s x : Operand) (hop : o.op = Op.call { callee := Callee.builtin Builtin.append, args := #[s, x], argTypes := #[43, 43] })
    (g0 : Nat) (hs : a.eval s = .slice (some ⟨g0, 0, none⟩) 0 0) (h0 : w.heap[g0]? = some (.cells #[] 3 (0, 0))) (xv : Value) (hx : a.eval x = xv) {V : Nat → Prop} {F : List Int} (hF : FlR V w xv F) (hb : F.length * 8 ≤ 140737488355328)
    (hK : ∀ r c w', FlR (fun b => b = r) w' (.slice (some ⟨r, 0, none⟩) F.length c) F → (∃ cs fr, w'.heap[r]? = some (.cells cs 3 fr)) → w.grownBy w' (some g0) → (r = g0 ∨ w.heap.size ≤ r) → K (a.put o.dst (.slice (some ⟨r, 0, none⟩) F.length c)) w') :
    if Region.wanted o (yielded ops a.tmps) = true then Oper.wp Tryd.prog o a w K Q else E := by
  obtain ⟨i0, hi0, iz0, iz1, iz2⟩ := info_parts infoI9
  have hw : Region.wanted o (yielded ops a.tmps) = true := by simp [Region.wanted, hg]
  rw [if_pos hw]
  have key : ∃ r c w', (Builtin.append_ #[43, 43] o.type #[.slice (some ⟨g0, 0, none⟩) 0 0, xv]).run Tryd.prog w = .ok (.slice (some ⟨r, 0, none⟩) F.length c) w' ∧ FlR (fun b => b = r) w' (.slice (some ⟨r, 0, none⟩) F.length c) F ∧ (∃ cs fr, w'.heap[r]? = some (.cells cs 3 fr)) ∧ w.grownBy w' (some g0) ∧ (r = g0 ∨ w.heap.size ≤ r) := by
    obtain ⟨ao, cap, rfl, hc⟩ := hF
    cases F with
    | nil =>
      have hsrc : Src Tryd.prog i0.size 43 (.slice ao 0 cap) 0 [] w := by
        cases ao with
        | none => exact Src.ofNil w Tryd.underlying43 cap
        | some ad => exact Src.ofSlice w Tryd.underlying43 ad 0 cap [] (by simp) (fun j u h => by simp at h) (fun u h => by cases h)
      have hr := run_append_room_src (P := Tryd.prog) (w := w) 43 43 o.type 3 i0 Tryd.underlying43 hi0 g0 0 0 0 (.slice ao 0 cap) 0 [] hsrc (by omega) (fun j hj => by cases hj) (fun j hj => by cases hj)
      have hwe : w.setCells g0 (0 + 0 * i0.size) [] = w := rfl
      rw [hwe] at hr
      exact ⟨g0, 0, w, hr, ⟨_, _, rfl, fun i hi => absurd hi (Nat.not_lt_zero _)⟩, ⟨_, _, h0⟩, ⟨rfl, rfl, rfl, Nat.le_refl _, fun _ _ _ => rfl⟩, .inl rfl⟩
    | cons f fs =>
      obtain ⟨b, off, rfl, _, _, _⟩ := hc 0 (by simp)
      have hown : w.ownsRow 0 3 1 (.slice (some ⟨g0, 0, none⟩) 0 0) 0 [] := ⟨rfl, .inr ⟨g0, 0, #[], rfl, Nat.zero_le _, h0, Nat.le_refl _, Nat.zero_le _, rfl, rfl⟩⟩
      obtain ⟨v', w', hrun, r1, r2, r3⟩ := append_fr (P := Tryd.prog) w 0 43 o.type 3 i0 (.int .i64 0) 1 8 Tryd.underlying43 hi0 iz0 iz1 iz2 rfl (by decide) (.slice (some ⟨g0, 0, none⟩) 0 0) 0 [] hown ⟨b, off, none⟩ (f :: fs).length cap ((f :: fs).map fun z => .int .i64 z) (by simp) (fun j u hj => by
        have ea : (⟨b, off, none⟩ : Addr).add j = ⟨b, off + j, none⟩ := by
          unfold Addr.add
          by_cases h : j = 0
          · subst h; simp
          · simp [h]
        rw [ea]
        have hj2 : j < (f :: fs).length := by
          by_cases h : j < (f :: fs).length
          · exact h
          · rw [List.getElem?_eq_none (by simpa using h)] at hj; cases hj
        obtain ⟨b2, off2, e2, _, _, q⟩ := hc j hj2
        cases e2
        rw [q, ← hj, List.getElem?_map, List.getD_eq_getElem?_getD, List.getElem?_eq_getElem hj2]
        rfl) (fun u hu => by obtain ⟨z, _, rfl⟩ := List.mem_map.1 hu; rfl) (by unfold maxLen; omega) (by omega) (Nat.zero_le _)
      rw [Nat.zero_add, List.nil_append] at r1
      rcases r1.2 with ⟨e, e0⟩ | ⟨r, cap2, cur, e, q1, q2, q3, q4, q5, q6⟩
      · simp at e0
      · subst e
        refine ⟨r, cap2, w', hrun, ⟨_, _, rfl, fun i hi => ⟨r, 0, rfl, rfl, (Array.getElem?_eq_some_iff.1 q2).1, ?_⟩⟩, ⟨_, _, q2⟩, r2, ?_⟩
        · rw [Nat.zero_add, Joins.cell_of_block q2]
          have h7 : ((f :: fs).map fun z => Value.int .i64 z)[i]? = some (.int .i64 ((f :: fs).getD i 0)) := by
            rw [List.getElem?_map, List.getD_eq_getElem?_getD, List.getElem?_eq_getElem hi]; rfl
          rw [← h7, ← q6, List.getElem?_take, if_pos (by omega)]
          simp
        · rcases r3 r rfl with h | h
          · exact .inl (Option.some.inj h).symm
          · exact .inr h
  obtain ⟨r, c, w', hrun, k1, k2, k3, k4⟩ := key
  unfold Oper.wp
  simp [execOp, hop, resolve, invoke, builtin, hs, hx, hrun, Result.andThen]
  exact hK r c w' k1 k2 k3 k4
end Go.Proofs.YtoaccmblaifnmaaDoor
