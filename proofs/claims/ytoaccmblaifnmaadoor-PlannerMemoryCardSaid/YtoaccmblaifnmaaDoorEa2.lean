/-
  What PlannerLists and its fellows rest on, joined: Mb3 Mb4.
-/
import Derived.Test.YtoaccmblaifnmaaDoorProg
import Derived.WalkKit
import Ieee.Arith
import Derived.WalkLawsBesides
import Derived.Outline
import Derived.Deep.QuietTactic
import Derived.BigQuiet
import Derived.WalkSmall
import Derived.RegionTactic
import Derived.Lib.Mul64
import Derived.Laws.Bits64b
import Derived.Deep.CutBlock
import Derived.Deep.DeepCutAuto
import Derived.Maps.AppendAt
import Derived.Deep.RegionHeld3
import Derived.Deep.RegionWith
import Derived.Laws.OwnMore
import Derived.RangeFuncNested
import Derived.RangeFuncBound
import Derived.RangeFuncCalls
import Derived.RangeFuncLeaves
import Derived.RangeFuncBox
import Derived.Shelf.Abstract
import Derived.Shelf.RegionOpen
import Derived.OwnWalkIn
import Derived.TacticsInMore
import Derived.LoopNIn
import Derived.LoopIn
import Derived.Laws.Rows
import Derived.Lib.ItoaNum
import Derived.Laws.IdiomStrings
import Derived.Lib.SmallJoins
import Derived.Lib.HexFns
import Derived.Test.YtoaccmblaifnmaaDoorRows
import Derived.LaidEql
import Derived.LaidLaws
import Derived.LaidHandle
import Derived.Stop.Joined
import Derived.Recover
import Derived.RegionDies
import Derived.Laws.CopyOwn
import Derived.Lib.AppendIntMem
import Derived.Laws.AppendOwn
import Derived.OwnWalk
import Derived.BigCall
import Derived.Deep.RegionHeldLaw
import Derived.Laws.FloatArith
import Derived.Laws.ComplexArith
import Derived.Laws.MakeOwn
import Derived.MapKept
import Derived.Carry
import Derived.Test.YtoaccmblaifnmaaDoorCards
import Derived.ProofKit
import Derived.LaidMore
import Derived.OpenShut
import Derived.SizedLaws
import Derived.Deep.Slices
import Derived.ChangeAlike
import Derived.Deep.RegionLaw
import Derived.Defers
import Derived.Deep.AppendSrc
import Derived.Lib.LaidTab
import Derived.LaidSub
import Derived.Laws.AppendOwnNone
import Derived.Test.YtoaccmblaifnmaaDoorBa1
import Derived.Test.YtoaccmblaifnmaaDoorBa2
import Derived.Test.YtoaccmblaifnmaaDoorBa3
import Derived.Test.YtoaccmblaifnmaaDoorBa4
import Derived.Test.YtoaccmblaifnmaaDoorBa5
import Derived.Test.YtoaccmblaifnmaaDoorBa6
import Derived.Test.YtoaccmblaifnmaaDoorBa7
import Derived.Test.YtoaccmblaifnmaaDoorBa8
import Derived.Test.YtoaccmblaifnmaaDoorBa9
import Derived.Test.YtoaccmblaifnmaaDoorBb1
import Derived.Test.YtoaccmblaifnmaaDoorBb2
import Derived.Test.YtoaccmblaifnmaaDoorBb3
import Derived.Test.YtoaccmblaifnmaaDoorBb4
import Derived.Test.YtoaccmblaifnmaaDoorBb5
import Derived.Test.YtoaccmblaifnmaaDoorBb6
import Derived.Test.YtoaccmblaifnmaaDoorBb7
import Derived.Test.YtoaccmblaifnmaaDoorBb8
import Derived.Test.YtoaccmblaifnmaaDoorBb9
import Derived.Test.YtoaccmblaifnmaaDoorBc1
import Derived.Test.YtoaccmblaifnmaaDoorBc2
import Derived.Test.YtoaccmblaifnmaaDoorBc3
import Derived.Test.YtoaccmblaifnmaaDoorBc4
import Derived.Test.YtoaccmblaifnmaaDoorBc5
import Derived.Test.YtoaccmblaifnmaaDoorBc6
import Derived.Test.YtoaccmblaifnmaaDoorBc7
import Derived.Test.YtoaccmblaifnmaaDoorBc8
import Derived.Test.YtoaccmblaifnmaaDoorBc9
import Derived.Test.YtoaccmblaifnmaaDoorBd1
import Derived.Test.YtoaccmblaifnmaaDoorBd2
import Derived.Test.YtoaccmblaifnmaaDoorBd3
import Derived.Test.YtoaccmblaifnmaaDoorBd4
import Derived.Test.YtoaccmblaifnmaaDoorBd5
import Derived.Test.YtoaccmblaifnmaaDoorBd6
import Derived.Test.YtoaccmblaifnmaaDoorBd7
import Derived.Test.YtoaccmblaifnmaaDoorBd8
import Derived.Test.YtoaccmblaifnmaaDoorBd9
import Derived.Test.YtoaccmblaifnmaaDoorBe1
import Derived.Test.YtoaccmblaifnmaaDoorBe2
import Derived.Test.YtoaccmblaifnmaaDoorBe3
import Derived.Test.YtoaccmblaifnmaaDoorBe4
import Derived.Test.YtoaccmblaifnmaaDoorBe5
import Derived.Test.YtoaccmblaifnmaaDoorBe6
import Derived.Test.YtoaccmblaifnmaaDoorBe7
import Derived.Test.YtoaccmblaifnmaaDoorBe8
import Derived.Test.YtoaccmblaifnmaaDoorBe9
import Derived.Test.YtoaccmblaifnmaaDoorBf1
import Derived.Test.YtoaccmblaifnmaaDoorBf2
import Derived.Test.YtoaccmblaifnmaaDoorBf5
import Derived.Test.YtoaccmblaifnmaaDoorEa1
namespace Go.Proofs.YtoaccmblaifnmaaDoor
section
open Go.ChangeShapes Go.WideShapes Go.ChangeAt Go.RowKit Go.Deep Tr
set_option maxRecDepth 100000 in
theorem viewIl2 {H : Type} {enc : TypeId × Value → H} {W : World} {fuel : Nat} {x : Value} {d : DataW H} {p : List MemPlace}
    (hf : DataW.trod enc Tryd.prog W 0 (fun _ => true) true fuel 43 [x] = some (d, p)) (hw : ∀ el sp, d = .slice el sp → (el.length + sp.length) * 8 ≤ 140737488351232) :
    ∃ F : List Int, FlR (fun _ => True) W x F ∧ F.length * 8 ≤ 140737488351232 := by
  rcases open_slice Tryd.underlying43 hf with ⟨hcs, hx⟩ | ⟨a, len, cap, m, q, D, Pl, hcs, _, hl, hm, hmm, hx, hel⟩
  · cases hcs
    exact ⟨[], ⟨none, 0, rfl, fun i hi => absurd hi (Nat.not_lt_zero _)⟩, by simp⟩
  · cases hcs
    simp only [Prod.mk.injEq] at hx
    obtain ⟨rfl, rfl⟩ := hx
    simp only [if_true] at hmm
    obtain ⟨T, hT⟩ := choose_lt (α := Int) (n := len) (p := fun i z => W.cells? 0 (a.add (i * 1)) 1 = some [.int .i64 z]) (fun i hi => by
      obtain ⟨cs', h1, h2⟩ := hel i (by omega)
      rw [cellsI14] at h1
      obtain ⟨_, h3, _⟩ := World.cells?_some h1
      match cs', h3 with
      | [x0], _ =>
        obtain ⟨k0, e0, _, _⟩ := DataW.trod_int Tryd.underlying3 h2
        cases e0
        exact ⟨k0, h1⟩)
    have hln : ((List.range len).map T).length = len := by simp
    refine ⟨(List.range len).map T, ⟨some a, cap, by rw [hln], fun i hi => ?_⟩, ?_⟩
    · rw [hln] at hi
      have hs : ((List.range len).map T).getD i 0 = T i := by
        rw [List.getD_eq_getElem?_getD, List.getElem?_map, List.getElem?_range hi]; rfl
      obtain ⟨b, off, sp⟩ := a
      obtain rfl : sp = none := by
        obtain ⟨_, _, g4⟩ := World.cells?_some (hT 0 (by omega))
        have g5 := g4 0 (by decide)
        have := spotN g5
        simpa [Addr.add] using this
      obtain ⟨_, _, g4⟩ := World.cells?_some (hT i hi)
      have g5 := g4 0 (by decide)
      rw [addr_add12, addr_add12, Nat.mul_one, Nat.add_zero] at g5
      refine ⟨b, off, rfl, trivial, World.block_lt_of_cell? W _ g5, ?_⟩
      rw [hs]; exact g5
    · have := hw _ _ rfl
      simp only [List.length_map, List.length_range] at this
      rw [hln]
      omega
set_option maxRecDepth 100000 in
theorem viewQ2 {H : Type} {enc : TypeId × Value → H} {W : World} {base : Nat} {v : Value} {d : DataW H} {p : List MemPlace} (hv : Value.okWide Tryd.prog W .any base 45 v) (h : DataW.Trod enc Tryd.prog W 0 (fun _ => true) true 45 v d p) (hw : ∀ n ∈ d.weights Tryd.prog 45, n ≤ reachBytes) :
    ∃ (D q : Int) (F : List Int) (fv : Value), v = .agg #[.int .i64 D, fv, .int .i64 q] ∧ FlR (fun _ => True) W fv F ∧ F.length * 8 ≤ 140737488351232 := by
  obtain ⟨cs, rfl, _⟩ := okWide_struct Tryd.underlying45 hv
  obtain ⟨fuel, hf⟩ := h
  obtain ⟨xs, n', _, hd, hcl, hxl, hfs⟩ := DataW.trod_struct Tryd.underlying45 hf
  have hxl' : xs.length = 3 := hxl
  rw [cellsQ14] at hcl
  obtain ⟨l⟩ := cs
  have hcl' : l.length = 3 := by simpa [Value.cells] using hcl
  match l, hcl', xs, hxl' with
  | [x0, x1, x2], _, [y0, y1, y2], _ =>
    have f0 : DataW.trod enc Tryd.prog W 0 (fun _ => true) true n' 3 [x0] = some y0 := hfs 0 _ rfl
    have f1 : DataW.trod enc Tryd.prog W 0 (fun _ => true) true n' 43 [x1] = some y1 := hfs 1 _ rfl
    have f2 : DataW.trod enc Tryd.prog W 0 (fun _ => true) true n' 3 [x2] = some y2 := hfs 2 _ rfl
    obtain ⟨k0, e0, _, _⟩ := DataW.trod_int Tryd.underlying3 f0
    obtain ⟨k2, e2, _, _⟩ := DataW.trod_int Tryd.underlying3 f2
    cases e0; cases e2
    obtain ⟨d1, p1⟩ := y1
    have hd1 : d = .agg [y0.1, d1, y2.1] := (Prod.mk.inj hd).1
    obtain ⟨F, hF, hb⟩ := viewIl2 f1 (w_sliceI (d := d1) (fun n hn => hw n (by
      rw [hd1, DataW.weights, Tryd.underlying45]
      exact DataW.weights_mem_each (j := 1) (t := 43) (d := d1) rfl rfl n hn)))
    exact ⟨k0, k2, F, x1, rfl, hF, hb⟩
end
open Flo Go.RowKit Tr
def fli (F : List Int) : List Value := F.map fun z => .int .i64 z
theorem fli_len (F : List Int) : (fli F).length = F.length := by simp [fli]
/-- a list of one's own is such a list -/
theorem fl_own {w : World} {B r c : Nat} {F : List Int} {n : Nat} (h : w.ownsRow B 3 1 (.slice (some ⟨r, 0, none⟩) n c) n (fli F)) : FlR (fun b => b = r) w (.slice (some ⟨r, 0, none⟩) F.length c) F ∧ n = F.length ∧ n ≤ c ∧ B ≤ r ∧ ∃ cs, w.heap[r]? = some (.cells cs 3 (0, 0)) := by
  have hn : n = F.length := by have := h.1; rw [fli_len] at this; omega
  rcases h.2 with ⟨e, _⟩ | ⟨g, cap, cur, e, h1, h2, h3, h4, h5, h6⟩
  · cases e
  · simp only [Value.slice.injEq, Option.some.injEq, Addr.mk.injEq, and_true, true_and] at e
    obtain ⟨rfl, rfl⟩ := e
    refine ⟨⟨_, _, rfl, fun i hi => ⟨r, 0, rfl, rfl, blk_lt h2, ?_⟩⟩, hn, h3, h1, cur, h2⟩
    rw [Nat.zero_add, Joins.cell_of_block h2]
    have h7 : (fli F)[i]? = some (.int .i64 (F.getD i 0)) := by
      unfold fli
      rw [List.getElem?_map, List.getD_eq_getElem?_getD, List.getElem?_eq_getElem hi]; rfl
    rw [← h7, ← h6, List.getElem?_take, if_pos (by omega)]
    simp
theorem make_fl (W : World) (L : Nat) (h : L * 8 ≤ 140737488351232) : (Instr.makeSlice 43 (.int .i64 0) (.int .i64 ((L : Int) + 1))).run Tryd.prog W = .ok (.slice (some ⟨W.heap.size, 0, none⟩) 0 (L + 1)) (W.alloc (.cells (madeCells (Value.cells (.int .i64 0)) ((L + 1) * 1)) 3)) := by
  obtain ⟨i0, hi0, hz0, hz1, hz2⟩ := info_parts infoI9
  have h := run_make (P := Tryd.prog) W 43 3 i0 _ Tryd.underlying43 hi0 hz0 .i64 .i64 0 ((L : Int) + 1) (by omega) (by omega) (by rw [hz2]; omega) (by omega)
  rw [hz1] at h
  have e1 : ((L : Int) + 1).toNat = L + 1 := by omega
  rw [e1] at h
  exact h
theorem made_own (W' : World) (g0 L B : Nat) (hL : L * 8 ≤ 140737488351232) (hB : B ≤ g0) (h : W'.heap[g0]? = some (.cells (madeCells (Value.cells (.int .i64 0)) ((L + 1) * 1)) 3 (0, 0))) : W'.ownsRow B 3 1 (.slice (some ⟨g0, 0, none⟩) 0 (L + 1)) 0 [] :=
  ⟨rfl, .inr ⟨g0, L + 1, _, rfl, hB, h, Nat.zero_le _, by unfold maxLen; omega, by simp [madeCells], by simp⟩⟩
theorem step_fl2 {ops : Array Oper} {o : Oper} {a : Act} {w : World} {K : Act → World → Prop} {Q : Exit → Act → World → Prop} {E : Prop}
    (hg : o.guard = none) (s x : Operand) (hop : o.op = Op.call { callee := Callee.builtin Builtin.append, args := #[s, x], argTypes := #[43, 43] })
    (B g0 c0 : Nat) (hs : a.eval s = .slice (some ⟨g0, 0, none⟩) 0 c0) (hown : w.ownsRow B 3 1 (.slice (some ⟨g0, 0, none⟩) 0 c0) 0 []) (xv : Value) (hx : a.eval x = xv) {V : Nat → Prop} {F : List Int} (hF : FlR V w xv F) (hb : F.length * 8 ≤ 140737488351232) (hB : B ≤ w.heap.size)
    (hK : ∀ r c w', w'.ownsRow B 3 1 (.slice (some ⟨r, 0, none⟩) F.length c) F.length (fli F) → w.grownBy w' (some g0) → (r = g0 ∨ w.heap.size ≤ r) → K (a.put o.dst (.slice (some ⟨r, 0, none⟩) F.length c)) w') :
    if Region.wanted o (yielded ops a.tmps) = true then Oper.wp Tryd.prog o a w K Q else E := by
  obtain ⟨i0, hi0, iz0, iz1, iz2⟩ := info_parts infoI9
  have hw : Region.wanted o (yielded ops a.tmps) = true := by simp [Region.wanted, hg]
  rw [if_pos hw]
  have key : ∃ r c w', (Builtin.append_ #[43, 43] o.type #[.slice (some ⟨g0, 0, none⟩) 0 c0, xv]).run Tryd.prog w = .ok (.slice (some ⟨r, 0, none⟩) F.length c) w' ∧ w'.ownsRow B 3 1 (.slice (some ⟨r, 0, none⟩) F.length c) F.length (fli F) ∧ w.grownBy w' (some g0) ∧ (r = g0 ∨ w.heap.size ≤ r) := by
    obtain ⟨ao, cap, rfl, hc⟩ := hF
    cases F with
    | nil =>
      have hsrc : Src Tryd.prog i0.size 43 (.slice ao 0 cap) 0 [] w := by
        cases ao with
        | none => exact Src.ofNil w Tryd.underlying43 cap
        | some ad => exact Src.ofSlice w Tryd.underlying43 ad 0 cap [] (by simp) (fun j u h => by simp at h) (fun u h => by cases h)
      have hr := run_append_room_src (P := Tryd.prog) (w := w) 43 43 o.type 3 i0 Tryd.underlying43 hi0 g0 0 0 c0 (.slice ao 0 cap) 0 [] hsrc (by omega) (fun j hj => by cases hj) (fun j hj => by cases hj)
      have hwe : w.setCells g0 (0 + 0 * i0.size) [] = w := rfl
      rw [hwe] at hr
      exact ⟨g0, c0, w, hr, hown, ⟨rfl, rfl, rfl, Nat.le_refl _, fun _ _ _ => rfl⟩, .inl rfl⟩
    | cons f fs =>
      obtain ⟨b, off, rfl, _, _, _⟩ := hc 0 (by simp)
      obtain ⟨v', w', hrun, r1, r2, r3⟩ := append_fr (P := Tryd.prog) w B 43 o.type 3 i0 (.int .i64 0) 1 8 Tryd.underlying43 hi0 iz0 iz1 iz2 rfl (by decide) (.slice (some ⟨g0, 0, none⟩) 0 c0) 0 [] hown ⟨b, off, none⟩ (f :: fs).length cap (fli (f :: fs)) (by simp [fli]) (fun j u hj => by
        have ea : (⟨b, off, none⟩ : Addr).add j = ⟨b, off + j, none⟩ := by
          unfold Addr.add
          by_cases h : j = 0
          · subst h; simp
          · simp [h]
        rw [ea]
        have hj2 : j < (f :: fs).length := by
          by_cases h : j < (f :: fs).length
          · exact h
          · rw [List.getElem?_eq_none (by rw [fli_len]; omega)] at hj; cases hj
        obtain ⟨b2, off2, e2, _, _, q⟩ := hc j hj2
        cases e2
        rw [q, ← hj]
        unfold fli
        rw [List.getElem?_map, List.getD_eq_getElem?_getD, List.getElem?_eq_getElem hj2]
        rfl) (fun u hu => by obtain ⟨z, _, rfl⟩ := List.mem_map.1 hu; rfl) (by unfold maxLen; omega) (by omega) hB
      rw [Nat.zero_add, List.nil_append] at r1
      rcases id r1.2 with ⟨e, e0⟩ | ⟨r, cap2, cur, e, _⟩
      · simp at e0
      · subst e
        refine ⟨r, cap2, w', hrun, r1, r2, ?_⟩
        rcases r3 r rfl with h | h
        · exact .inl (Option.some.inj h).symm
        · exact .inr h
  obtain ⟨r, c, w', hrun, k1, k2, k3⟩ := key
  unfold Oper.wp
  simp [execOp, hop, resolve, invoke, builtin, hs, hx, hrun, Result.andThen]
  exact hK r c w' k1 k2 k3
/-- one number more -/
theorem step_i1 {ops : Array Oper} {o : Oper} {a : Act} {w : World} {K : Act → World → Prop} {Q : Exit → Act → World → Prop} {E : Prop}
    (hg : o.guard = none) (s x : Operand) (hop : o.op = Op.call { callee := Callee.builtin Builtin.append, args := #[s, x], argTypes := #[43, 43] })
    (B r c : Nat) {F : List Int} (L : Nat) (hs : a.eval s = .slice (some ⟨r, 0, none⟩) L c) (hown : w.ownsRow B 3 1 (.slice (some ⟨r, 0, none⟩) L c) L (fli F)) (fb fc : Nat) (z : Int) (hx : a.eval x = .slice (some ⟨fb, 0, none⟩) 1 fc) (hf : w.heap[fb]? = some (.cells #[.int .i64 z] 3 (0, 0))) (hb : L * 8 ≤ 140737488351232) (hB : B ≤ w.heap.size)
    (hK : ∀ r' c' w', w'.ownsRow B 3 1 (.slice (some ⟨r', 0, none⟩) (L + 1) c') (L + 1) (fli (F ++ [z])) → w.grownBy w' (some r) → (r' = r ∨ w.heap.size ≤ r') → K (a.put o.dst (.slice (some ⟨r', 0, none⟩) (L + 1) c')) w') :
    if Region.wanted o (yielded ops a.tmps) = true then Oper.wp Tryd.prog o a w K Q else E := by
  obtain ⟨i0, hi0, iz0, iz1, iz2⟩ := info_parts infoI9
  have hw : Region.wanted o (yielded ops a.tmps) = true := by simp [Region.wanted, hg]
  rw [if_pos hw]
  obtain ⟨v', w', hrun, r1, r2, r3⟩ := append_fr (P := Tryd.prog) w B 43 o.type 3 i0 (.int .i64 0) 1 8 Tryd.underlying43 hi0 iz0 iz1 iz2 rfl (by decide) (.slice (some ⟨r, 0, none⟩) L c) L (fli F) hown ⟨fb, 0, none⟩ 1 fc [.int .i64 z] rfl (fun j u hj => by
    rw [add_pl, Joins.cell_of_block hf]
    match j, hj with
    | 0, hj => simpa using hj) (fun u hu => by simp at hu; subst hu; rfl) (by unfold maxLen; omega) (by omega) hB
  have e9 : fli F ++ [Value.int .i64 z] = fli (F ++ [z]) := by unfold fli; rw [List.map_append]; rfl
  rw [e9] at r1
  unfold Oper.wp
  simp [execOp, hop, resolve, invoke, builtin, hs, hx, hrun, Result.andThen]
  rcases id r1.2 with ⟨e, e0⟩ | ⟨r', cap2, cur, e, _⟩
  · omega
  · subst e
    refine hK r' cap2 w' r1 r2 ?_
    rcases r3 r' rfl with h | h
    · exact .inl (Option.some.inj h).symm
    · exact .inr h
end Go.Proofs.YtoaccmblaifnmaaDoor
namespace Go.Proofs.YtoaccmblaifnmaaDoor
open Flo Go.RowKit Go.Shelf Tr
attribute [local go_sem] Oper.semAt_some
set_option maxRecDepth 100000 in
set_option maxHeartbeats 16000000 in
theorem mr32_reg {m l kb ab ar Bx K N c xl xc yc : Nat} {xk xn : Int} {xa ya : Option Addr} {s0 s1 s2 s3 s4 s5 s6 s7 s8 s9 s10 s11 s12 s13 s14 s15 s16 s18 s21 s22 s23 s24 s25 s26 s27 s28 s29 s30 s31 s32 s33 s34 s35 s36 s37 s38 s39 s40 s41 s42 s43 s44 s45 s46 s47 s48 s49 s50 s51 s52 s53 s54 s55 s56 s57 s58 s59 s60 s61 s62 s63 s64 s65 s66 s67 s68 s69 s70 s71 s72 s73 s74 s75 s76 s77 s78 s79 s80 s81 s82 s83 s84 s85 s86 s87 s88 s89 s90 s91 s92 s93 s94 s95 s96 s97 s98 s99 s100 s101 s102 s103 s104 s105 s106 s107 s108 s109 s110 s111 s112 s113 s114 s115 s116 s117 s118 s119 s120 s121 s122 s123 s124 s125 s126 s127 s128 s129 s130 s131 s132 s133 s134 s135 s136 s137 s138 s139 s140 s141 s142 s143 s144 s145 s146 s147 s148 s149 s150 s151 s152 s153 s154 s155 s156 s157 s158 s159 s160 s161 s162 : Value} {W : World} {Q : Exit → Act → World → Prop} {Z1 : World → Prop}
    (hkN : (K : Int) < (N : Int)) (hS : (fun X : World => X.cell? ⟨kb, 0, none⟩ = some (.int .i64 (K : Int)) ∧ X.cell? ⟨ab, 0, none⟩ = some (.slice (some ⟨ar, 0, none⟩) N c) ∧ (X.cell? ⟨Bx, 0, none⟩ = some (.int .i64 xk) ∧ X.cell? ⟨Bx, 1, none⟩ = some (.int .i64 xn) ∧ X.cell? ⟨Bx, 2, none⟩ = some (.slice xa xl xc)) ∧ X.cell? ⟨ar, K * 3, none⟩ = some (.int .i64 xk) ∧ X.cell? ⟨ar, K * 3 + 1, none⟩ = some (.int .i64 xn) ∧ X.cell? ⟨ar, K * 3 + 2, none⟩ = some (.slice ya xl yc)) W.drew)
    (hc : Calls Tryd.prog 16 #[.agg #[.int .i64 xk, .int .i64 xn, .slice xa xl xc], .agg #[.int .i64 xk, .int .i64 xn, .slice ya xl yc]] W.drew fun e W1 => e = .returned (.bool true) ∧ (fun X : World => X.cell? ⟨kb, 0, none⟩ = some (.int .i64 (K : Int)) ∧ X.cell? ⟨ab, 0, none⟩ = some (.slice (some ⟨ar, 0, none⟩) N c) ∧ (X.cell? ⟨Bx, 0, none⟩ = some (.int .i64 xk) ∧ X.cell? ⟨Bx, 1, none⟩ = some (.int .i64 xn) ∧ X.cell? ⟨Bx, 2, none⟩ = some (.slice xa xl xc)) ∧ X.cell? ⟨ar, K * 3, none⟩ = some (.int .i64 xk) ∧ X.cell? ⟨ar, K * 3 + 1, none⟩ = some (.int .i64 xn) ∧ X.cell? ⟨ar, K * 3 + 2, none⟩ = some (.slice ya xl yc)) W1 ∧ Z1 W1)
    (hQ : ∀ W', Z1 W' → Q .normal { tmps := #[s0, s1, s2, s3, s4, s5, s6, s7, s8, s9, s10, s11, s12, s13, s14, s15, s16, .pointer (some ⟨ab, 0, none⟩), s18, .pointer (some ⟨kb, 0, none⟩), .pointer (some ⟨Bx, 0, none⟩), s21, s22, s23, s24, s25, s26, s27, s28, s29, s30, s31, s32, s33, s34, s35, s36, s37, s38, s39, s40, s41, s42, s43, s44, s45, s46, s47, s48, s49, s50, s51, s52, s53, s54, s55, s56, s57, s58, s59, s60, s61, s62, s63, s64, s65, s66, s67, s68, s69, s70, s71, s72, s73, s74, s75, s76, s77, s78, s79, s80, s81, s82, s83, s84, s85, s86, s87, s88, s89, s90, s91, s92, s93, s94, s95, s96, s97, s98, s99, s100, s101, s102, s103, s104, s105, s106, s107, s108, s109, s110, s111, s112, s113, s114, s115, s116, s117, s118, s119, s120, s121, s122, s123, s124, s125, s126, s127, s128, s129, s130, s131, s132, s133, s134, s135, s136, s137, s138, .int .i64 (K : Int), .slice (some ⟨ar, 0, none⟩) N c, .int .i64 (N : Int), .bool false, .bool false, .agg #[.int .i64 xk, .int .i64 xn, .slice xa xl xc], .slice (some ⟨ar, 0, none⟩) N c, .int .i64 (K : Int), .pointer (some ⟨ar, K * 3, none⟩), .agg #[.int .i64 xk, .int .i64 xn, .slice ya xl yc], .bool true, .bool false, .bool false, s152, s153, s154, s155, s156, s157, s158, s159, s160, s161, s162], defers := [] } W') :
    (Code.region 32 #[{ dst := some 139, op := Go.Op.load 3 (Go.Operand.tmp 19), type := 3, pos := "law.go:222", after := #[], guard := none },
      { dst := some 140, op := Go.Op.load 22 (Go.Operand.tmp 17), type := 22, pos := "law.go:222", after := #[], guard := none },
      { dst := some 141, op := Go.Op.call { callee := Go.Callee.builtin Go.Builtin.len, args := #[Go.Operand.tmp 140], argTypes := #[22] }, type := 3, pos := "law.go:222", after := #[{ on := 1, ground := Go.Ground.data }], guard := none },
      { dst := some 142, op := Go.Op.binOp Go.BinOp.geq 3 (Go.Operand.tmp 139) (Go.Operand.tmp 141) 3, type := 4, pos := "law.go:222", after := #[{ on := 0, ground := Go.Ground.data }, { on := 2, ground := Go.Ground.data }], guard := none },
      { dst := some 143, op := Go.Op.move (Go.Operand.tmp 142), type := 4, pos := "law.go:222", after := #[{ on := 3, ground := Go.Ground.data }], guard := none },
      { dst := some 144, op := Go.Op.load 24 (Go.Operand.tmp 20), type := 24, pos := "law.go:222", after := #[{ on := 4, ground := Go.Ground.guard }], guard := some (4, false) },
      { dst := some 145, op := Go.Op.load 22 (Go.Operand.tmp 17), type := 22, pos := "law.go:222", after := #[{ on := 4, ground := Go.Ground.guard }], guard := some (4, false) },
      { dst := some 146, op := Go.Op.load 3 (Go.Operand.tmp 19), type := 3, pos := "law.go:222", after := #[{ on := 4, ground := Go.Ground.guard }], guard := some (4, false) },
      { dst := some 147, op := Go.Op.indexAddr 22 (Go.Operand.tmp 145) (Go.Operand.tmp 146), type := 0, pos := "law.go:222", after := #[{ on := 6, ground := Go.Ground.data }, { on := 7, ground := Go.Ground.data }, { on := 4, ground := Go.Ground.guard }], guard := some (4, false) },
      { dst := some 148, op := Go.Op.load 24 (Go.Operand.tmp 147), type := 24, pos := "law.go:222", after := #[{ on := 8, ground := Go.Ground.data }, { on := 4, ground := Go.Ground.guard }], guard := some (4, false) },
      { dst := some 149, op := Go.Op.call { callee := Go.Callee.value (Go.Operand.func 16), args := #[Go.Operand.tmp 144, Go.Operand.tmp 148], argTypes := #[24, 24] }, type := 4, pos := "law.go:222", after := #[{ on := 5, ground := Go.Ground.data }, { on := 9, ground := Go.Ground.data }, { on := 4, ground := Go.Ground.chain }, { on := 4, ground := Go.Ground.guard }], guard := some (4, false) },
      { dst := some 150, op := Go.Op.unOp Go.UnOp.not 4 (Go.Operand.tmp 149), type := 4, pos := "law.go:222", after := #[{ on := 10, ground := Go.Ground.data }, { on := 4, ground := Go.Ground.guard }], guard := some (4, false) },
      { dst := some 151, op := Go.Op.pick (Go.Operand.tmp 143) (Go.Operand.const (Go.Value.bool true)) (Go.Operand.tmp 150), type := 4, pos := "law.go:222", after := #[{ on := 4, ground := Go.Ground.data }, { on := 11, ground := Go.Ground.data }], guard := none }] true).wpIn (Fence.wide.inRound l) m Tryd.prog Q { tmps := #[s0, s1, s2, s3, s4, s5, s6, s7, s8, s9, s10, s11, s12, s13, s14, s15, s16, .pointer (some ⟨ab, 0, none⟩), s18, .pointer (some ⟨kb, 0, none⟩), .pointer (some ⟨Bx, 0, none⟩), s21, s22, s23, s24, s25, s26, s27, s28, s29, s30, s31, s32, s33, s34, s35, s36, s37, s38, s39, s40, s41, s42, s43, s44, s45, s46, s47, s48, s49, s50, s51, s52, s53, s54, s55, s56, s57, s58, s59, s60, s61, s62, s63, s64, s65, s66, s67, s68, s69, s70, s71, s72, s73, s74, s75, s76, s77, s78, s79, s80, s81, s82, s83, s84, s85, s86, s87, s88, s89, s90, s91, s92, s93, s94, s95, s96, s97, s98, s99, s100, s101, s102, s103, s104, s105, s106, s107, s108, s109, s110, s111, s112, s113, s114, s115, s116, s117, s118, s119, s120, s121, s122, s123, s124, s125, s126, s127, s128, s129, s130, s131, s132, s133, s134, s135, s136, s137, s138, s139, s140, s141, s142, s143, s144, s145, s146, s147, s148, s149, s150, s151, s152, s153, s154, s155, s156, s157, s158, s159, s160, s161, s162], defers := [] } W := by
  have hmix : Tryd.prog.follows .mixedOrders = true := by kernel_rfl
  refine wpIn_mono (Q := qS Z1 { tmps := #[s0, s1, s2, s3, s4, s5, s6, s7, s8, s9, s10, s11, s12, s13, s14, s15, s16, .pointer (some ⟨ab, 0, none⟩), s18, .pointer (some ⟨kb, 0, none⟩), .pointer (some ⟨Bx, 0, none⟩), s21, s22, s23, s24, s25, s26, s27, s28, s29, s30, s31, s32, s33, s34, s35, s36, s37, s38, s39, s40, s41, s42, s43, s44, s45, s46, s47, s48, s49, s50, s51, s52, s53, s54, s55, s56, s57, s58, s59, s60, s61, s62, s63, s64, s65, s66, s67, s68, s69, s70, s71, s72, s73, s74, s75, s76, s77, s78, s79, s80, s81, s82, s83, s84, s85, s86, s87, s88, s89, s90, s91, s92, s93, s94, s95, s96, s97, s98, s99, s100, s101, s102, s103, s104, s105, s106, s107, s108, s109, s110, s111, s112, s113, s114, s115, s116, s117, s118, s119, s120, s121, s122, s123, s124, s125, s126, s127, s128, s129, s130, s131, s132, s133, s134, s135, s136, s137, s138, .int .i64 (K : Int), .slice (some ⟨ar, 0, none⟩) N c, .int .i64 (N : Int), .bool false, .bool false, .agg #[.int .i64 xk, .int .i64 xn, .slice xa xl xc], .slice (some ⟨ar, 0, none⟩) N c, .int .i64 (K : Int), .pointer (some ⟨ar, K * 3, none⟩), .agg #[.int .i64 xk, .int .i64 xn, .slice ya xl yc], .bool true, .bool false, .bool false, s152, s153, s154, s155, s156, s157, s158, s159, s160, s161, s162], defers := [] }) ?_ (fun e a w h => by cases e <;> first | exact h.elim | (obtain ⟨rfl, h⟩ := h; exact hQ w h))
  · refine HIn.round (S := fun X : World => X.cell? ⟨kb, 0, none⟩ = some (.int .i64 (K : Int)) ∧ X.cell? ⟨ab, 0, none⟩ = some (.slice (some ⟨ar, 0, none⟩) N c) ∧ (X.cell? ⟨Bx, 0, none⟩ = some (.int .i64 xk) ∧ X.cell? ⟨Bx, 1, none⟩ = some (.int .i64 xn) ∧ X.cell? ⟨Bx, 2, none⟩ = some (.slice xa xl xc)) ∧ X.cell? ⟨ar, K * 3, none⟩ = some (.int .i64 xk) ∧ X.cell? ⟨ar, K * 3 + 1, none⟩ = some (.int .i64 xn) ∧ X.cell? ⟨ar, K * 3 + 2, none⟩ = some (.slice ya xl yc)) l rfl (by kernel_rfl) hmix ?_
    clear hQ
    refine HIn.take (i := 0) (v := .int .i64 (K : Int)) rfl rfl (by kernel_rfl) (by kernel_rfl) (by kernel_rfl) (fun _ _ _ h => h) ⟨fun _ => rfl, Or.inl ⟨by kernel_rfl, fun w hw => by obtain ⟨e0, e1, ⟨e2, e3, e4⟩, e5, e6, e7⟩ := hw; first | (go_simp; done) | (go_simp; omega)⟩⟩ hS ?_
    refine HIn.take (i := 1) (v := .slice (some ⟨ar, 0, none⟩) N c) rfl rfl (by kernel_rfl) (by kernel_rfl) (by kernel_rfl) (fun _ _ _ h => h) ⟨fun _ => rfl, Or.inl ⟨by kernel_rfl, fun w hw => by obtain ⟨e0, e1, ⟨e2, e3, e4⟩, e5, e6, e7⟩ := hw; first | (go_simp; done) | (go_simp; omega)⟩⟩ hS ?_
    refine HIn.take (i := 2) (v := .int .i64 (N : Int)) rfl rfl (by kernel_rfl) (by kernel_rfl) (by kernel_rfl) (fun _ _ _ h => h) ⟨fun _ => rfl, Or.inl ⟨by kernel_rfl, fun w hw => by obtain ⟨e0, e1, ⟨e2, e3, e4⟩, e5, e6, e7⟩ := hw; first | (go_simp; done) | (go_simp; omega)⟩⟩ hS ?_
    refine HIn.take (i := 3) (v := .bool false) rfl rfl (by kernel_rfl) (by kernel_rfl) (by kernel_rfl) (fun _ _ _ h => h) ⟨fun _ => rfl, Or.inl ⟨by kernel_rfl, fun w hw => by obtain ⟨e0, e1, ⟨e2, e3, e4⟩, e5, e6, e7⟩ := hw; first | (go_simp; done) | (go_simp; omega)⟩⟩ hS ?_
    refine HIn.take (i := 4) (v := .bool false) rfl rfl (by kernel_rfl) (by kernel_rfl) (by kernel_rfl) (fun _ _ _ h => h) ⟨fun _ => rfl, Or.inl ⟨by kernel_rfl, fun w hw => by obtain ⟨e0, e1, ⟨e2, e3, e4⟩, e5, e6, e7⟩ := hw; first | (go_simp; done) | (go_simp; omega)⟩⟩ hS ?_
    refine HIn.take (i := 5) (v := .agg #[.int .i64 xk, .int .i64 xn, .slice xa xl xc]) rfl rfl (by kernel_rfl) (by kernel_rfl) (by kernel_rfl) (fun _ _ _ h => h) ⟨fun _ => rfl, Or.inl ⟨by kernel_rfl, fun w hw => by obtain ⟨e0, e1, ⟨e2, e3, e4⟩, e5, e6, e7⟩ := hw; first | (go_simp; done) | (go_simp; omega)⟩⟩ hS ?_
    refine HIn.take (i := 6) (v := .slice (some ⟨ar, 0, none⟩) N c) rfl rfl (by kernel_rfl) (by kernel_rfl) (by kernel_rfl) (fun _ _ _ h => h) ⟨fun _ => rfl, Or.inl ⟨by kernel_rfl, fun w hw => by obtain ⟨e0, e1, ⟨e2, e3, e4⟩, e5, e6, e7⟩ := hw; first | (go_simp; done) | (go_simp; omega)⟩⟩ hS ?_
    refine HIn.take (i := 7) (v := .int .i64 (K : Int)) rfl rfl (by kernel_rfl) (by kernel_rfl) (by kernel_rfl) (fun _ _ _ h => h) ⟨fun _ => rfl, Or.inl ⟨by kernel_rfl, fun w hw => by obtain ⟨e0, e1, ⟨e2, e3, e4⟩, e5, e6, e7⟩ := hw; first | (go_simp; done) | (go_simp; omega)⟩⟩ hS ?_
    refine HIn.take (i := 8) (v := .pointer (some ⟨ar, K * 3, none⟩)) rfl rfl (by kernel_rfl) (by kernel_rfl) (by kernel_rfl) (fun _ _ _ h => h) ⟨fun _ => rfl, Or.inl ⟨by kernel_rfl, fun w hw => by obtain ⟨e0, e1, ⟨e2, e3, e4⟩, e5, e6, e7⟩ := hw; first | (go_simp; done) | (go_simp; omega)⟩⟩ hS ?_
    refine HIn.take (i := 9) (v := .agg #[.int .i64 xk, .int .i64 xn, .slice ya xl yc]) rfl rfl (by kernel_rfl) (by kernel_rfl) (by kernel_rfl) (fun _ _ _ h => h) ⟨fun _ => rfl, Or.inl ⟨by kernel_rfl, fun w hw => by obtain ⟨e0, e1, ⟨e2, e3, e4⟩, e5, e6, e7⟩ := hw; first | (go_simp; done) | (go_simp; omega)⟩⟩ hS ?_
    refine HIn.one (i := 10) rfl (by kernel_rfl) (fun KK hKK => ?_)
    go_simp
    refine ⟨trivial, fun h => (by cases h), (callsIn_wide.2 hc).mono ?_⟩
    rintro e W1 ⟨rfl, hS1, z1⟩
    refine hKK _ _ hS1 ?_
    clear hKK KK
    refine HIn.take (i := 11) (v := .bool false) rfl rfl (by kernel_rfl) (by kernel_rfl) (by kernel_rfl) (fun _ _ _ h => h) ⟨fun _ => rfl, Or.inl ⟨by kernel_rfl, fun w hw => by obtain ⟨e0, e1, ⟨e2, e3, e4⟩, e5, e6, e7⟩ := hw; first | (go_simp; done) | (go_simp; omega)⟩⟩ hS1 ?_
    refine HIn.take (i := 12) (v := .bool false) rfl rfl (by kernel_rfl) (by kernel_rfl) (by kernel_rfl) (fun _ _ _ h => h) ⟨fun _ => rfl, Or.inl ⟨by kernel_rfl, fun w hw => by obtain ⟨e0, e1, ⟨e2, e3, e4⟩, e5, e6, e7⟩ := hw; first | (go_simp; done) | (go_simp; omega)⟩⟩ hS1 ?_
    refine HIn.done (by kernel_rfl) ?_ _
    exact ⟨by kernel_rfl, z1⟩
/-- while one round goes over the orders -/
structure MI (w : World) (V : Nat → Prop) (kb : Nat) (pre : List Tr) (Ui : Nat → Prop) (W : World) : Prop where
  sm : ∀ b, b < w.heap.size → ¬ V b → b ≠ kb → W.heap[b]? = w.heap[b]?
  kc : W.heap[kb]? = some (.cells #[.int .i64 (pre.length : Int)] 3 (0, 0))
  ui : ∀ b, b < w.heap.size → ¬ V b → Ui b
  sz : w.heap.size ≤ W.heap.size
  os : W.os = w.os ∧ W.tape = w.tape ∧ W.output = w.output
theorem MI.stb {w : World} {V : Nat → Prop} {kb : Nat} (hk : kb < w.heap.size) (hv : ¬ V kb) : Stb (MI w V kb) := by
  rintro s U W W' T h k ha
  have hT : ∀ b, b < w.heap.size → ¬ V b → ¬ T b := fun b h1 h2 ht => ha b ht (h.ui b h1 h2)
  exact ⟨fun b h1 h2 h3 => (k.block b (Nat.lt_of_lt_of_le h1 h.sz) (hT b h1 h2)).trans (h.sm b h1 h2 h3), (k.block kb (Nat.lt_of_lt_of_le hk h.sz) (hT kb hk hv)).trans h.kc, h.ui, Nat.le_trans h.sz k.size, k.os.trans h.os.1, k.tape.trans h.os.2.1, k.output.trans h.os.2.2⟩
theorem MI.kt {w W : World} {V Ui : Nat → Prop} {kb : Nat} {pre : List Tr} (h : MI w V kb pre Ui W) : KT (fun b => V b ∨ b = kb ∨ w.heap.size ≤ b) w W :=
  ⟨h.os.1, h.os.2.1, h.os.2.2, h.sz, fun b hb hn => h.sm b hb (fun v => hn (.inl v)) (fun e => hn (.inr (.inl e)))⟩
set_option maxRecDepth 100000 in
set_option maxHeartbeats 16000000 in
theorem mr_rf {n rb0 ab kb ga : Nat} {s0 s1 s2 s3 s5 s6 s7 s8 s9 s10 s11 s12 s13 s14 s15 s16 s18 s20 s21 s22 s23 s24 s25 s26 s27 s28 s29 s30 s31 s32 s33 s34 s35 s36 s37 s38 s39 s40 s41 s42 s43 s44 s45 s46 s47 s48 s49 s50 s51 s52 s53 s54 s55 s56 s57 s58 s59 s60 s61 s62 s63 s64 s65 s66 s67 s68 s69 s70 s71 s72 s73 s74 s75 s76 s77 s78 s79 s80 s81 s82 s83 s84 s85 s86 s87 s88 s89 s90 s91 s92 s93 s94 s95 s96 s97 s98 s99 s100 s101 s102 s103 s104 s105 s106 s107 s108 s109 s110 s111 s112 s113 s114 s115 s116 s117 s118 s119 s120 s121 s122 s123 s124 s125 s126 s127 s128 s129 s130 s131 s132 s133 s134 s135 s136 s138 s139 s140 s141 s142 s143 s144 s145 s146 s147 s148 s149 s150 s151 s152 s153 s154 s155 s156 s157 s158 s159 s160 s161 s162 : Value} {ds : List Deferred} {Q : Exit → Act → World → Prop} {w : World} {gf : Nat} {lb : Array Value} (eg : ∀ args w, (callFunc gf args).run Tryd.prog w = .ok (.enter gf args) w)
    {C : List (Nat × Obj)} {XS : List Tr} {Sr : (Nat → Prop) → World → Prop} (hseq : SeqU Tryd.prog gf lb C toldO XS True Sr (fun _ => False)) (hSs : ∀ V W W' T, Sr V W → KT T W W' → Ap T V → Sr V W')
    {V UA : Nat → Prop} (hSr : Sr V w) (hC : Fx C w) (hCV : ∀ p ∈ C, V p.1) (bV : Bd V w) {av : Value} {ss : List Value} (hall : Lrw ga UA w av XS ss) (hXl : XS.length ≤ 4096)
    (hab : w.heap[ab]? = some (.cells #[av] 22 (0, 0))) (hkb : w.heap[kb]? = some (.cells #[.int .i64 0] 3 (0, 0))) (vab : ¬ V ab) (vkb : ¬ V kb) (vUA : ∀ b, UA b → ¬ V b ∧ b ≠ kb ∧ b < w.heap.size) (vow : ∀ b, av.ownBlock = some b → ¬ V b)
    (hQn : ∀ (W' : World), KT (fun b => b = kb) w W' → W'.heap[kb]? = some (.cells #[.int .i64 ((min XS.length 200 : Nat) : Int)] 3 (0, 0)) → W'.heap[w.heap.size]? = some (.deferred (some [])) → Q .normal { tmps := #[s0, s1, s2, s3, .pointer (some ⟨rb0, 0, none⟩), s5, s6, s7, s8, s9, s10, s11, s12, s13, s14, s15, s16, .pointer (some ⟨ab, 0, none⟩), s18, .pointer (some ⟨kb, 0, none⟩), s20, s21, s22, s23, s24, s25, s26, s27, s28, s29, s30, s31, s32, s33, s34, s35, s36, s37, s38, s39, s40, s41, s42, s43, s44, s45, s46, s47, s48, s49, s50, s51, s52, s53, s54, s55, s56, s57, s58, s59, s60, s61, s62, s63, s64, s65, s66, s67, s68, s69, s70, s71, s72, s73, s74, s75, s76, s77, s78, s79, s80, s81, s82, s83, s84, s85, s86, s87, s88, s89, s90, s91, s92, s93, s94, s95, s96, s97, s98, s99, s100, s101, s102, s103, s104, s105, s106, s107, s108, s109, s110, s111, s112, s113, s114, s115, s116, s117, s118, s119, s120, s121, s122, s123, s124, s125, s126, s127, s128, s129, s130, s131, s132, s133, s134, s135, s136, .func (.func gf) #[] lb, s138, s139, s140, s141, s142, s143, s144, s145, s146, s147, s148, s149, s150, s151, s152, s153, s154, s155, s156, s157, s158, s159, s160, s161, s162], defers := ({ target := .collected w.heap.size, args := #[] } :: ds) } W')
    (hQe : ∀ (W' : World), KT (fun b => b = kb) w W' → W'.heap[kb]? = some (.cells #[.int .i64 ((min XS.length 200 : Nat) : Int)] 3 (0, 0)) → W'.heap[w.heap.size]? = some (.deferred (some [])) → Q (.exit 6) { tmps := #[s0, s1, s2, s3, .pointer (some ⟨rb0, 0, none⟩), s5, s6, s7, s8, s9, s10, s11, s12, s13, s14, s15, s16, .pointer (some ⟨ab, 0, none⟩), s18, .pointer (some ⟨kb, 0, none⟩), s20, s21, s22, s23, s24, s25, s26, s27, s28, s29, s30, s31, s32, s33, s34, s35, s36, s37, s38, s39, s40, s41, s42, s43, s44, s45, s46, s47, s48, s49, s50, s51, s52, s53, s54, s55, s56, s57, s58, s59, s60, s61, s62, s63, s64, s65, s66, s67, s68, s69, s70, s71, s72, s73, s74, s75, s76, s77, s78, s79, s80, s81, s82, s83, s84, s85, s86, s87, s88, s89, s90, s91, s92, s93, s94, s95, s96, s97, s98, s99, s100, s101, s102, s103, s104, s105, s106, s107, s108, s109, s110, s111, s112, s113, s114, s115, s116, s117, s118, s119, s120, s121, s122, s123, s124, s125, s126, s127, s128, s129, s130, s131, s132, s133, s134, s135, s136, .func (.func gf) #[] lb, s138, s139, s140, s141, s142, s143, s144, s145, s146, s147, s148, s149, s150, s151, s152, s153, s154, s155, s156, s157, s158, s159, s160, s161, s162], defers := ({ target := .collected w.heap.size, args := #[] } :: ds) } W') :
    (Code.rangeFunc (Operand.tmp 137) #[138] (Code.region 31 #[{ dst := some 20, op := Go.Op.alloc 24, type := 0, pos := "law.go:221", after := #[], guard := none },
      { dst := none, op := Go.Op.store 24 (Go.Operand.tmp 20) (Go.Operand.tmp 138), type := 0, pos := "law.go:221", after := #[{ on := 0, ground := Go.Ground.data }, { on := 0, ground := Go.Ground.phase }], guard := none }] false) (Code.block 7 (((Code.region 32 #[{ dst := some 139, op := Go.Op.load 3 (Go.Operand.tmp 19), type := 3, pos := "law.go:222", after := #[], guard := none },
      { dst := some 140, op := Go.Op.load 22 (Go.Operand.tmp 17), type := 22, pos := "law.go:222", after := #[], guard := none },
      { dst := some 141, op := Go.Op.call { callee := Go.Callee.builtin Go.Builtin.len, args := #[Go.Operand.tmp 140], argTypes := #[22] }, type := 3, pos := "law.go:222", after := #[{ on := 1, ground := Go.Ground.data }], guard := none },
      { dst := some 142, op := Go.Op.binOp Go.BinOp.geq 3 (Go.Operand.tmp 139) (Go.Operand.tmp 141) 3, type := 4, pos := "law.go:222", after := #[{ on := 0, ground := Go.Ground.data }, { on := 2, ground := Go.Ground.data }], guard := none },
      { dst := some 143, op := Go.Op.move (Go.Operand.tmp 142), type := 4, pos := "law.go:222", after := #[{ on := 3, ground := Go.Ground.data }], guard := none },
      { dst := some 144, op := Go.Op.load 24 (Go.Operand.tmp 20), type := 24, pos := "law.go:222", after := #[{ on := 4, ground := Go.Ground.guard }], guard := some (4, false) },
      { dst := some 145, op := Go.Op.load 22 (Go.Operand.tmp 17), type := 22, pos := "law.go:222", after := #[{ on := 4, ground := Go.Ground.guard }], guard := some (4, false) },
      { dst := some 146, op := Go.Op.load 3 (Go.Operand.tmp 19), type := 3, pos := "law.go:222", after := #[{ on := 4, ground := Go.Ground.guard }], guard := some (4, false) },
      { dst := some 147, op := Go.Op.indexAddr 22 (Go.Operand.tmp 145) (Go.Operand.tmp 146), type := 0, pos := "law.go:222", after := #[{ on := 6, ground := Go.Ground.data }, { on := 7, ground := Go.Ground.data }, { on := 4, ground := Go.Ground.guard }], guard := some (4, false) },
      { dst := some 148, op := Go.Op.load 24 (Go.Operand.tmp 147), type := 24, pos := "law.go:222", after := #[{ on := 8, ground := Go.Ground.data }, { on := 4, ground := Go.Ground.guard }], guard := some (4, false) },
      { dst := some 149, op := Go.Op.call { callee := Go.Callee.value (Go.Operand.func 16), args := #[Go.Operand.tmp 144, Go.Operand.tmp 148], argTypes := #[24, 24] }, type := 4, pos := "law.go:222", after := #[{ on := 5, ground := Go.Ground.data }, { on := 9, ground := Go.Ground.data }, { on := 4, ground := Go.Ground.chain }, { on := 4, ground := Go.Ground.guard }], guard := some (4, false) },
      { dst := some 150, op := Go.Op.unOp Go.UnOp.not 4 (Go.Operand.tmp 149), type := 4, pos := "law.go:222", after := #[{ on := 10, ground := Go.Ground.data }, { on := 4, ground := Go.Ground.guard }], guard := some (4, false) },
      { dst := some 151, op := Go.Op.pick (Go.Operand.tmp 143) (Go.Operand.const (Go.Value.bool true)) (Go.Operand.tmp 150), type := 4, pos := "law.go:222", after := #[{ on := 4, ground := Go.Ground.data }, { on := 11, ground := Go.Ground.data }], guard := none }] true).seq (Code.cond (Operand.tmp 151) ((Code.region 33 #[{ dst := none, op := Go.Op.store 4 (Go.Operand.tmp 4) (Go.Operand.const (Go.Value.bool false)), type := 0, pos := "law.go:223", after := #[], guard := none }] false).seq Code.ret) Code.skip)).seq ((Code.region 34 #[{ dst := some 152, op := Go.Op.load 24 (Go.Operand.tmp 20), type := 24, pos := "law.go:225", after := #[], guard := none },
      { dst := some 153, op := Go.Op.call { callee := Go.Callee.value (Go.Operand.func 37), args := #[Go.Operand.tmp 152], argTypes := #[24] }, type := 0, pos := "law.go:225", after := #[{ on := 0, ground := Go.Ground.data }], guard := none }] false).seq ((Code.region 35 #[{ dst := some 154, op := Go.Op.load 3 (Go.Operand.tmp 19), type := 3, pos := "law.go:226", after := #[], guard := none },
      { dst := some 155, op := Go.Op.binOp Go.BinOp.add 3 (Go.Operand.tmp 154) (Go.Operand.const (Go.Value.int Go.IntKind.i64 1)) 3, type := 3, pos := "law.go:226", after := #[{ on := 0, ground := Go.Ground.data }], guard := none },
      { dst := none, op := Go.Op.store 3 (Go.Operand.tmp 19) (Go.Operand.tmp 155), type := 0, pos := "law.go:226", after := #[{ on := 1, ground := Go.Ground.data }, { on := 0, ground := Go.Ground.phase }, { on := 1, ground := Go.Ground.phase }], guard := none }] false).seq ((Code.region 36 #[{ dst := some 156, op := Go.Op.load 3 (Go.Operand.tmp 19), type := 3, pos := "law.go:227", after := #[], guard := none },
      { dst := some 157, op := Go.Op.binOp Go.BinOp.eql 3 (Go.Operand.tmp 156) (Go.Operand.const (Go.Value.int Go.IntKind.i64 200)) 3, type := 4, pos := "law.go:227", after := #[{ on := 0, ground := Go.Ground.data }], guard := none }] false).seq (Code.cond (Operand.tmp 157) (Code.exit 6) Code.skip))))))).wpIn Fence.wide n Tryd.prog Q { tmps := #[s0, s1, s2, s3, .pointer (some ⟨rb0, 0, none⟩), s5, s6, s7, s8, s9, s10, s11, s12, s13, s14, s15, s16, .pointer (some ⟨ab, 0, none⟩), s18, .pointer (some ⟨kb, 0, none⟩), s20, s21, s22, s23, s24, s25, s26, s27, s28, s29, s30, s31, s32, s33, s34, s35, s36, s37, s38, s39, s40, s41, s42, s43, s44, s45, s46, s47, s48, s49, s50, s51, s52, s53, s54, s55, s56, s57, s58, s59, s60, s61, s62, s63, s64, s65, s66, s67, s68, s69, s70, s71, s72, s73, s74, s75, s76, s77, s78, s79, s80, s81, s82, s83, s84, s85, s86, s87, s88, s89, s90, s91, s92, s93, s94, s95, s96, s97, s98, s99, s100, s101, s102, s103, s104, s105, s106, s107, s108, s109, s110, s111, s112, s113, s114, s115, s116, s117, s118, s119, s120, s121, s122, s123, s124, s125, s126, s127, s128, s129, s130, s131, s132, s133, s134, s135, s136, .func (.func gf) #[] lb, s138, s139, s140, s141, s142, s143, s144, s145, s146, s147, s148, s149, s150, s151, s152, s153, s154, s155, s156, s157, s158, s159, s160, s161, s162], defers := ds } w := by
  have hXH : Hid (XS.length ≤ 4096) := hXl
  have hallH : Hid (Lrw ga UA w av XS ss) := hall
  have vH : Hid ((∀ b, UA b → ¬ V b ∧ b ≠ kb ∧ b < w.heap.size) ∧ (∀ b, av.ownBlock = some b → ¬ V b) ∧ ¬ V ab ∧ ¬ V kb) := ⟨vUA, vow, vab, vkb⟩
  have habH : Hid (w.heap[ab]? = some (.cells #[av] 22 (0, 0))) := hab
  have hkl : Hid (kb < w.heap.size) := blk_lt hkb
  have hkbH : Hid (w.heap[kb]? = some (.cells #[.int .i64 0] 3 (0, 0))) := hkb
  refine rangeU (g := .tmp 137) (p0 := 138) rfl eg hseq toldO_st hSs hSr hC hCV bV (U := fun b => b < w.heap.size ∧ ¬ V b) (fun b hb => hb.1) (fun b hv hu => hu.2 hv)
    (fun pre Ui W => MI w V kb pre Ui W ∧ pre.length < 200) (fun c pre Ui W => c = Code.exit 6 ∧ MI w V kb pre Ui W ∧ pre.length = 200)
    (fun s U W W' T h k ha => ⟨MI.stb hkl.out vkb s U W W' T h.1 k ha, h.2⟩) (fun c s U W W' T h k ha => ⟨h.1, MI.stb hkl.out vkb s U W W' T h.2.1 k ha, h.2.2⟩)
    ⟨⟨fun _ _ _ _ => rfl, hkb, fun b h1 h2 => ⟨h1, h2⟩, Nat.le_refl _, rfl, rfl, rfl⟩, by simp⟩
    (AxV fun v9 p9 => { tmps := #[s0, s1, s2, s3, .pointer (some ⟨rb0, 0, none⟩), s5, s6, s7, s8, s9, s10, s11, s12, s13, s14, s15, s16, .pointer (some ⟨ab, 0, none⟩), s18, .pointer (some ⟨kb, 0, none⟩), p9, s21, s22, s23, s24, s25, s26, s27, s28, s29, s30, s31, s32, s33, s34, s35, s36, s37, s38, s39, s40, s41, s42, s43, s44, s45, s46, s47, s48, s49, s50, s51, s52, s53, s54, s55, s56, s57, s58, s59, s60, s61, s62, s63, s64, s65, s66, s67, s68, s69, s70, s71, s72, s73, s74, s75, s76, s77, s78, s79, s80, s81, s82, s83, s84, s85, s86, s87, s88, s89, s90, s91, s92, s93, s94, s95, s96, s97, s98, s99, s100, s101, s102, s103, s104, s105, s106, s107, s108, s109, s110, s111, s112, s113, s114, s115, s116, s117, s118, s119, s120, s121, s122, s123, s124, s125, s126, s127, s128, s129, s130, s131, s132, s133, s134, s135, s136, .func (.func gf) #[] lb, v9, s139, s140, s141, s142, s143, s144, s145, s146, s147, s148, s149, s150, s151, s152, s153, s154, s155, s156, s157, s158, s159, s160, s161, s162], defers := [] }) AxV.st ?assign ?body ?done ?stop
  case assign =>
    clear hQn hQe
    intro l1 x v O W3 K ht hK
    obtain ⟨va, vc, rfl⟩ := Os.shape ht
    generalize x.ks.length = vl at *
    gi_wp2
    refine hK _ _ ((KT.refl _ W3).alloc _) ⟨W3.heap.size, x.k, x.n, .slice va vl vc, Nat.le_refl _, rfl, ?_, rfl⟩
    exact heap_alloc_new W3 _
  case body =>
    clear hQn hQe
    rintro l1 pre x v a' Ui O lo W3 ⟨hI, hpl⟩ ht hO hU hlo1 hlo2 hOU hp ⟨Bx, k, m9, s, hBx, rfl, hBb, rfl⟩
    obtain ⟨xa, xc, e⟩ := Os.shape ht
    simp only [Value.agg.injEq, Array.mk.injEq, List.cons.injEq, Value.int.injEq, true_and, and_true] at e
    obtain ⟨rfl, rfl, rfl⟩ := e
    have hxe : XS[pre.length]? = some x := by
      obtain ⟨r, hr⟩ := hp
      rw [← hr]; simp
    have hlt : pre.length < XS.length := (List.getElem?_eq_some_iff.1 hxe).1
    have hall3 : Lrw ga UA W3 av XS ss := hallH.out.kt hI.kt (fun b hb => ⟨fun e => by
      rcases hb with h | h | h
      · exact vH.out.2.1 b e h
      · obtain ⟨_, _, cs, h2⟩ := own_ty hallH.out.own e
        rw [h, hkbH.out] at h2; injection h2 with h2; injection h2 with _ h2; exact absurd h2 (by decide)
      · have := (hallH.out.ge e).2; omega, fun u => by
      obtain ⟨h1, h2, h3⟩ := vH.out.1 b u
      rcases hb with h | h | h
      · exact h1 h
      · exact h2 h
      · omega⟩)
    obtain ⟨ar, c, ya, yc, hav, y0, y1, y2, yo⟩ := hall3.at hxe
    have hsm := rSame_c x x _ _ W3.drew (Od.below (Below.refl _ _).drew _ _ (Os.od (S := O) _ _ ht)) (Od.below (Below.refl _ _).drew _ _ (Os.od (S := UA) _ _ yo))
    have habl : W3.heap[ab]? = some (.cells #[av] 22 (0, 0)) := (hI.sm ab (blk_lt habH.out) vH.out.2.2.1 (fun e => by
      have h1 := habH.out
      rw [e, hkbH.out] at h1; injection h1 with h2; injection h2 with _ h2; exact absurd h2 (by decide))).trans habH.out
    have harl : ar < W3.heap.size := (hall3.ge (b := ar) (by rw [hav]; rfl)).2
    have hIH : Hid (MI w V kb pre Ui W3) := hI
    have htH : Hid (Os O W3 x (.agg #[.int .i64 x.k, .int .i64 x.n, .slice xa x.ks.length xc])) := ht
    have hOH : Hid ((∀ b, O b → b < lo) ∧ lo ≤ W3.heap.size ∧ Ap O Ui ∧ (∀ b, Ui b → b < lo) ∧ lo ≤ Bx) := ⟨hO, hlo2, hOU, hU, hBx⟩
    have hkc := hI.kc
    obtain ⟨K, hK⟩ : ∃ z, Hid (pre.length = z) := ⟨_, (rfl : _ = _)⟩
    obtain ⟨NN, hNN⟩ : ∃ z, Hid (XS.length = z) := ⟨_, (rfl : _ = _)⟩
    obtain ⟨xk, hxk⟩ : ∃ z, Hid (x.k = z) := ⟨_, (rfl : _ = _)⟩
    obtain ⟨xn, hxn⟩ : ∃ z, Hid (x.n = z) := ⟨_, (rfl : _ = _)⟩
    obtain ⟨xl, hxl⟩ : ∃ z, Hid (x.ks.length = z) := ⟨_, (rfl : _ = _)⟩
    rw [hK.out] at hkc y0 y1 y2 hlt hpl
    rw [hNN.out] at hlt
    rw [hav, hNN.out] at habl
    rw [hxk.out] at y0 hsm hBb htH ⊢
    rw [hxn.out] at y1 hsm hBb htH ⊢
    rw [hxl.out] at y2 hsm hBb htH ⊢
    have hkN : (K : Int) < (NN : Int) := by omega
    have hcel : Hid (∀ X : World, (∀ b, b < W3.heap.size → X.heap[b]? = W3.heap[b]?) → (X.cell? ⟨kb, 0, none⟩ = some (.int .i64 (K : Int)) ∧ X.cell? ⟨ab, 0, none⟩ = some (.slice (some ⟨ar, 0, none⟩) NN c) ∧ (X.cell? ⟨Bx, 0, none⟩ = some (.int .i64 xk) ∧ X.cell? ⟨Bx, 1, none⟩ = some (.int .i64 xn) ∧ X.cell? ⟨Bx, 2, none⟩ = some (.slice xa xl xc)) ∧ X.cell? ⟨ar, K * 3, none⟩ = some (.int .i64 xk) ∧ X.cell? ⟨ar, K * 3 + 1, none⟩ = some (.int .i64 xn) ∧ X.cell? ⟨ar, K * 3 + 2, none⟩ = some (.slice ya xl yc))) := fun X hX => by
      have e1 := (hX kb (blk_lt hkc)).trans hkc
      have e2 := (hX ab (blk_lt habl)).trans habl
      have e3 := (hX Bx (blk_lt hBb)).trans hBb
      have e4 := hX ar harl
      refine ⟨Joins.cell_of_block e1 0, Joins.cell_of_block e2 0, ⟨Joins.cell_of_block e3 0, Joins.cell_of_block e3 1, Joins.cell_of_block e3 2⟩, ?_, ?_, ?_⟩
      · rw [World.cell?_of_block (a := ⟨ar, K * 3, none⟩) e4]; exact y0
      · rw [World.cell?_of_block (a := ⟨ar, K * 3 + 1, none⟩) e4]; exact y1
      · rw [World.cell?_of_block (a := ⟨ar, K * 3 + 2, none⟩) e4]; exact y2
    have hBbH : Hid (W3.heap[Bx]? = some (.cells #[.int .i64 xk, .int .i64 xn, .slice xa xl xc] 24 (0, 0))) := hBb
    have hkcH : Hid (W3.heap[kb]? = some (.cells #[.int .i64 (K : Int)] 3 (0, 0))) := hkc
    clear hI ht hO hlo1 hlo2 hOU hU hBx hp hxe hall3 yo y0 y1 y2 habl hav hBb hkc harl
    gi_wp2_with fail
    refine mr32_reg (Z1 := fun W4 => Below W3.heap.size W3 W4) hkN (hcel.out W3.drew (fun _ _ => rfl)) (hsm.mono ?_) ?_
    · rintro e W4 ⟨bb, rfl, hbb, B4⟩
      have B4' : Below W3.heap.size W3 W4 := (Below.refl _ _).drew.trans B4
      exact ⟨by rw [hbb.2 rfl], hcel.out W4 (fun b hb => B4'.block b hb), B4'⟩
    intro W4 B4
    have B4H : Hid (Below W3.heap.size W3 W4) := B4
    have hx4 : W4.heap[Bx]? = some (.cells #[.int .i64 xk, .int .i64 xn, .slice xa xl xc] 24 (0, 0)) := (B4.block Bx (blk_lt hBbH.out)).trans hBbH.out
    have hk4 : W4.heap[kb]? = some (.cells #[.int .i64 (K : Int)] 3 (0, 0)) := (B4.block kb (blk_lt hkcH.out)).trans hkcH.out
    have hk4H : Hid (W4.heap[kb]? = some (.cells #[.int .i64 (K : Int)] 3 (0, 0))) := hk4
    have ho4 : Os O W4 x (.agg #[.int .i64 xk, .int .i64 xn, .slice xa xl xc]) := by
      have h := htH.out
      exact Os.keep (fun _ hb => hb) (fun b _ hl => B4.block b hl) _ _ h
    have hsp : Hid (Calls Tryd.prog 37 #[.agg #[.int .i64 xk, .int .i64 xn, .slice xa xl xc]] W4 fun e w' => e = .returned (.tuple #[]) ∧ Fr (Dm14 O W4) W4 w') := (spoil14_c O W4 x _ W4 ho4 (Tri14.refl _ _) (Nat.le_refl _)).mono fun e w' h => ⟨h.1, h.2.1⟩
    have d0 : W4.cell? ⟨Bx, 0, none⟩ = some (.int .i64 xk) := Joins.cell_of_block hx4 0
    have d1 : W4.cell? ⟨Bx, 1, none⟩ = some (.int .i64 xn) := Joins.cell_of_block hx4 1
    have d2 : W4.cell? ⟨Bx, 2, none⟩ = some (.slice xa xl xc) := Joins.cell_of_block hx4 2
    clear B4 hx4 hk4 ho4 hsm
    simp only [Exit.then]
    rename_i hKK
    refine hKK _ _ ?_
    clear hKK
    gi_wp2_with fail
    refine ⟨trivial, fun h => (by cases h), (CallsIn.inRound l1 (callsIn_wide.2 hsp.out)).mono ?_⟩
    rintro e W5 ⟨rfl, F5⟩
    have nkb : ¬ O kb := fun h => hOH.out.2.2.1 kb h (hIH.out.ui kb hkl.out vH.out.2.2.2)
    have hk5 : W5.heap[kb]? = some (.cells #[.int .i64 (K : Int)] 3 (0, 0)) := (F5.block kb (blk_lt hk4H.out) (fun h => nkb h.1)).trans hk4H.out
    have hk5H : Hid (W5.heap[kb]? = some (.cells #[.int .i64 (K : Int)] 3 (0, 0))) := hk5
    have F5H : Hid (Fr (Dm14 O W4) W4 W5) := F5
    have c5 : W5.cell? ⟨kb, 0, none⟩ = some (.int .i64 (K : Int)) := Joins.cell_of_block hk5 0
    have f5 : W5.frozen? ⟨kb, 0, none⟩ = false := Joins.unfrozen_of_block hk5 0
    have hk6 : (W5.setCell ⟨kb, 0, none⟩ (.int .i64 ((K : Int) + 1))).heap[kb]? = some (.cells #[.int .i64 ((K : Int) + 1)] 3 (0, 0)) := by rw [hsc hk5]; rfl
    have c6 : (W5.setCell ⟨kb, 0, none⟩ (.int .i64 ((K : Int) + 1))).cell? ⟨kb, 0, none⟩ = some (.int .i64 ((K : Int) + 1)) := Joins.cell_of_block hk6 0
    have hfin : Hid (KT (fun b => Ui b ∨ (True ∧ O b) ∨ lo ≤ b) W3 (W5.setCell ⟨kb, 0, none⟩ (.int .i64 ((K : Int) + 1))) ∧ Bd Ui (W5.setCell ⟨kb, 0, none⟩ (.int .i64 ((K : Int) + 1))) ∧ MI w V kb (pre ++ [x]) Ui (W5.setCell ⟨kb, 0, none⟩ (.int .i64 ((K : Int) + 1)))) := by
      have h1 := hIH.out
      have h2 := hOH.out
      have B4 := B4H.out
      have k45 : KT (fun b => O b ∨ b = kb) W4 (W5.setCell ⟨kb, 0, none⟩ (.int .i64 ((K : Int) + 1))) := KT.sc ⟨F5.os, F5.tape, F5.output, F5.size, fun b hb hn => F5.block b hb (fun h => hn (.inl h.1))⟩ _ (.inr rfl)
      have k35 : KT (fun b => O b ∨ b = kb) W3 (W5.setCell ⟨kb, 0, none⟩ (.int .i64 ((K : Int) + 1))) := (KT.of_below B4).trans k45
      have ukb : Ui kb := h1.ui kb hkl.out vH.out.2.2.2
      refine ⟨k35.weak fun b _ e => ?_, fun b hb => ?_, fun b hb hv hn => ?_, ?_, h1.ui, Nat.le_trans h1.sz k35.size, k35.os.trans h1.os.1, k35.tape.trans h1.os.2.1, k35.output.trans h1.os.2.2⟩
      · rcases e with e | e
        · exact .inr (.inl ⟨trivial, e⟩)
        · exact .inl (e ▸ ukb)
      · have := h2.2.2.2.1 b hb; have := k35.size; omega
      · exact (k35.block b (Nat.lt_of_lt_of_le hb h1.sz) (fun h => by
          rcases h with h | h
          · exact h2.2.2.1 b h (h1.ui b hb hv)
          · exact hn h)).trans (h1.sm b hb hv hn)
      · have e9 : (((pre ++ [x]).length : Nat) : Int) = (K : Int) + 1 := by simp [hK.out]
        rw [e9]; exact hk6
    have hlen : Hid ((pre ++ [x]).length = K + 1) := by show _ = _; simp [hK.out]
    clear F5 hk5 hk6 d0 d1 d2 hsp nkb
    by_cases hE : K + 1 = 200
    · have hE' : ((K : Int) + 1 == 200) = true := beq_iff_eq.2 (by omega)
      gi_wp2_with fail
      exact ⟨Ui, hfin.out.1, fun b hb => .inl hb, hfin.out.2.1, rfl, hfin.out.2.2, hlen.out.trans hE⟩
    · have hE' : ((K : Int) + 1 == 200) = false := beq_eq_false_iff_ne.2 (by omega)
      gi_wp2_with fail
      exact ⟨Ui, hfin.out.1, fun b hb => .inl hb, hfin.out.2.1, hfin.out.2.2, by rw [hlen.out]; omega⟩
  case done =>
    rintro U' V' W3 sr hsm hup hold bV' bU' hap nu nv ⟨hI, hpl⟩ hK
    refine hQn W3 ⟨hI.os.1, hI.os.2.1, hI.os.2.2, hI.sz, fun b hb hn => Classical.byCases (fun hv : V b => hsm b hv (fun h => h)) (fun hv => hI.sm b hb hv hn)⟩ ?_ hK
    have h := hI.kc
    rw [show min XS.length 200 = XS.length by omega]; exact h
  case stop =>
    rintro c pre U' V' W3 hpx sr hsm hup hold bV' bU' hap nu nv ⟨rfl, hI, hpl⟩ hK
    have hq := hQe W3 ⟨hI.os.1, hI.os.2.1, hI.os.2.2, hI.sz, fun b hb hn => Classical.byCases (fun hv : V b => hsm b hv (fun h => h)) (fun hv => hI.sm b hb hv hn)⟩ (by
      have h := hI.kc
      have h2 := hpx.length_le
      rw [hpl] at h h2
      rw [show min XS.length 200 = 200 by omega]; exact h) hK
    gi_wp2_with fail
    exact hq
set_option maxRecDepth 100000 in
set_option maxHeartbeats 16000000 in
theorem mr_rf2 {n rb0 ab kb ga : Nat} {s0 s1 s2 s3 s5 s6 s7 s8 s9 s10 s11 s12 s13 s14 s15 s16 s18 s20 s21 s22 s23 s24 s25 s26 s27 s28 s29 s30 s31 s32 s33 s34 s35 s36 s37 s38 s39 s40 s41 s42 s43 s44 s45 s46 s47 s48 s49 s50 s51 s52 s53 s54 s55 s56 s57 s58 s59 s60 s61 s62 s63 s64 s65 s66 s67 s68 s69 s70 s71 s72 s73 s74 s75 s76 s77 s78 s79 s80 s81 s82 s83 s84 s85 s86 s87 s88 s89 s90 s91 s92 s93 s94 s95 s96 s97 s98 s99 s100 s101 s102 s103 s104 s105 s106 s107 s108 s109 s110 s111 s112 s113 s114 s115 s116 s117 s118 s119 s120 s121 s122 s123 s124 s125 s126 s127 s128 s129 s130 s131 s132 s133 s134 s135 s136 s138 s139 s140 s141 s142 s143 s144 s145 s146 s147 s148 s149 s150 s151 s152 s153 s154 s155 s156 s157 s158 s159 s160 s161 s162 : Value} {ds : List Deferred} {Q : Exit → Act → World → Prop} {w : World} {gf : Nat} {lb : Array Value} (eg : ∀ args w, (callFunc gf args).run Tryd.prog w = .ok (.enter gf args) w)
    {C : List (Nat × Obj)} {XS : List Tr} {Sr : (Nat → Prop) → World → Prop} (hseq : SeqU Tryd.prog gf lb C toldO XS True Sr (fun _ => False)) (hSs : ∀ V W W' T, Sr V W → KT T W W' → Ap T V → Sr V W')
    {V UA : Nat → Prop} (hSr : Sr V w) (hC : Fx C w) (hCV : ∀ p ∈ C, V p.1) (bV : Bd V w) {av : Value} {ss : List Value} (hall : Lrw ga UA w av XS ss) (hXl : XS.length ≤ 4096)
    (hab : w.heap[ab]? = some (.cells #[av] 22 (0, 0))) (hkb : w.heap[kb]? = some (.cells #[.int .i64 0] 3 (0, 0))) (vab : ¬ V ab) (vkb : ¬ V kb) (vUA : ∀ b, UA b → ¬ V b ∧ b ≠ kb ∧ b < w.heap.size) (vow : ∀ b, av.ownBlock = some b → ¬ V b)
    (hQn : ∀ (W' : World), KT (fun b => b = kb) w W' → W'.heap[kb]? = some (.cells #[.int .i64 ((min XS.length 200 : Nat) : Int)] 3 (0, 0)) → W'.heap[w.heap.size]? = some (.deferred (some [])) → Q .normal { tmps := #[s0, s1, s2, s3, .pointer (some ⟨rb0, 0, none⟩), s5, s6, s7, s8, s9, s10, s11, s12, s13, s14, s15, s16, .pointer (some ⟨ab, 0, none⟩), s18, .pointer (some ⟨kb, 0, none⟩), s20, s21, s22, s23, s24, s25, s26, s27, s28, s29, s30, s31, s32, s33, s34, s35, s36, s37, s38, s39, s40, s41, s42, s43, s44, s45, s46, s47, s48, s49, s50, s51, s52, s53, s54, s55, s56, s57, s58, s59, s60, s61, s62, s63, s64, s65, s66, s67, s68, s69, s70, s71, s72, s73, s74, s75, s76, s77, s78, s79, s80, s81, s82, s83, s84, s85, s86, s87, s88, s89, s90, s91, s92, s93, s94, s95, s96, s97, s98, s99, s100, s101, s102, s103, s104, s105, s106, s107, s108, s109, s110, s111, s112, s113, s114, s115, s116, s117, s118, s119, s120, s121, s122, s123, s124, s125, s126, s127, s128, s129, s130, s131, s132, s133, s134, s135, s136, .func (.func gf) #[] lb, s138, s139, s140, s141, s142, s143, s144, s145, s146, s147, s148, s149, s150, s151, s152, s153, s154, s155, s156, s157, s158, s159, s160, s161, s162], defers := ({ target := .collected w.heap.size, args := #[] } :: ds) } W')
    (hQx : ∀ a W, Q .normal a W → Q (.exit 6) a W) :
    (Code.rangeFunc (Operand.tmp 137) #[138] (Code.region 31 #[{ dst := some 20, op := Go.Op.alloc 24, type := 0, pos := "law.go:221", after := #[], guard := none },
      { dst := none, op := Go.Op.store 24 (Go.Operand.tmp 20) (Go.Operand.tmp 138), type := 0, pos := "law.go:221", after := #[{ on := 0, ground := Go.Ground.data }, { on := 0, ground := Go.Ground.phase }], guard := none }] false) (Code.block 7 (((Code.region 32 #[{ dst := some 139, op := Go.Op.load 3 (Go.Operand.tmp 19), type := 3, pos := "law.go:222", after := #[], guard := none },
      { dst := some 140, op := Go.Op.load 22 (Go.Operand.tmp 17), type := 22, pos := "law.go:222", after := #[], guard := none },
      { dst := some 141, op := Go.Op.call { callee := Go.Callee.builtin Go.Builtin.len, args := #[Go.Operand.tmp 140], argTypes := #[22] }, type := 3, pos := "law.go:222", after := #[{ on := 1, ground := Go.Ground.data }], guard := none },
      { dst := some 142, op := Go.Op.binOp Go.BinOp.geq 3 (Go.Operand.tmp 139) (Go.Operand.tmp 141) 3, type := 4, pos := "law.go:222", after := #[{ on := 0, ground := Go.Ground.data }, { on := 2, ground := Go.Ground.data }], guard := none },
      { dst := some 143, op := Go.Op.move (Go.Operand.tmp 142), type := 4, pos := "law.go:222", after := #[{ on := 3, ground := Go.Ground.data }], guard := none },
      { dst := some 144, op := Go.Op.load 24 (Go.Operand.tmp 20), type := 24, pos := "law.go:222", after := #[{ on := 4, ground := Go.Ground.guard }], guard := some (4, false) },
      { dst := some 145, op := Go.Op.load 22 (Go.Operand.tmp 17), type := 22, pos := "law.go:222", after := #[{ on := 4, ground := Go.Ground.guard }], guard := some (4, false) },
      { dst := some 146, op := Go.Op.load 3 (Go.Operand.tmp 19), type := 3, pos := "law.go:222", after := #[{ on := 4, ground := Go.Ground.guard }], guard := some (4, false) },
      { dst := some 147, op := Go.Op.indexAddr 22 (Go.Operand.tmp 145) (Go.Operand.tmp 146), type := 0, pos := "law.go:222", after := #[{ on := 6, ground := Go.Ground.data }, { on := 7, ground := Go.Ground.data }, { on := 4, ground := Go.Ground.guard }], guard := some (4, false) },
      { dst := some 148, op := Go.Op.load 24 (Go.Operand.tmp 147), type := 24, pos := "law.go:222", after := #[{ on := 8, ground := Go.Ground.data }, { on := 4, ground := Go.Ground.guard }], guard := some (4, false) },
      { dst := some 149, op := Go.Op.call { callee := Go.Callee.value (Go.Operand.func 16), args := #[Go.Operand.tmp 144, Go.Operand.tmp 148], argTypes := #[24, 24] }, type := 4, pos := "law.go:222", after := #[{ on := 5, ground := Go.Ground.data }, { on := 9, ground := Go.Ground.data }, { on := 4, ground := Go.Ground.chain }, { on := 4, ground := Go.Ground.guard }], guard := some (4, false) },
      { dst := some 150, op := Go.Op.unOp Go.UnOp.not 4 (Go.Operand.tmp 149), type := 4, pos := "law.go:222", after := #[{ on := 10, ground := Go.Ground.data }, { on := 4, ground := Go.Ground.guard }], guard := some (4, false) },
      { dst := some 151, op := Go.Op.pick (Go.Operand.tmp 143) (Go.Operand.const (Go.Value.bool true)) (Go.Operand.tmp 150), type := 4, pos := "law.go:222", after := #[{ on := 4, ground := Go.Ground.data }, { on := 11, ground := Go.Ground.data }], guard := none }] true).seq (Code.cond (Operand.tmp 151) ((Code.region 33 #[{ dst := none, op := Go.Op.store 4 (Go.Operand.tmp 4) (Go.Operand.const (Go.Value.bool false)), type := 0, pos := "law.go:223", after := #[], guard := none }] false).seq Code.ret) Code.skip)).seq ((Code.region 34 #[{ dst := some 152, op := Go.Op.load 24 (Go.Operand.tmp 20), type := 24, pos := "law.go:225", after := #[], guard := none },
      { dst := some 153, op := Go.Op.call { callee := Go.Callee.value (Go.Operand.func 37), args := #[Go.Operand.tmp 152], argTypes := #[24] }, type := 0, pos := "law.go:225", after := #[{ on := 0, ground := Go.Ground.data }], guard := none }] false).seq ((Code.region 35 #[{ dst := some 154, op := Go.Op.load 3 (Go.Operand.tmp 19), type := 3, pos := "law.go:226", after := #[], guard := none },
      { dst := some 155, op := Go.Op.binOp Go.BinOp.add 3 (Go.Operand.tmp 154) (Go.Operand.const (Go.Value.int Go.IntKind.i64 1)) 3, type := 3, pos := "law.go:226", after := #[{ on := 0, ground := Go.Ground.data }], guard := none },
      { dst := none, op := Go.Op.store 3 (Go.Operand.tmp 19) (Go.Operand.tmp 155), type := 0, pos := "law.go:226", after := #[{ on := 1, ground := Go.Ground.data }, { on := 0, ground := Go.Ground.phase }, { on := 1, ground := Go.Ground.phase }], guard := none }] false).seq ((Code.region 36 #[{ dst := some 156, op := Go.Op.load 3 (Go.Operand.tmp 19), type := 3, pos := "law.go:227", after := #[], guard := none },
      { dst := some 157, op := Go.Op.binOp Go.BinOp.eql 3 (Go.Operand.tmp 156) (Go.Operand.const (Go.Value.int Go.IntKind.i64 200)) 3, type := 4, pos := "law.go:227", after := #[{ on := 0, ground := Go.Ground.data }], guard := none }] false).seq (Code.cond (Operand.tmp 157) (Code.exit 6) Code.skip))))))).wpIn Fence.wide n Tryd.prog Q { tmps := #[s0, s1, s2, s3, .pointer (some ⟨rb0, 0, none⟩), s5, s6, s7, s8, s9, s10, s11, s12, s13, s14, s15, s16, .pointer (some ⟨ab, 0, none⟩), s18, .pointer (some ⟨kb, 0, none⟩), s20, s21, s22, s23, s24, s25, s26, s27, s28, s29, s30, s31, s32, s33, s34, s35, s36, s37, s38, s39, s40, s41, s42, s43, s44, s45, s46, s47, s48, s49, s50, s51, s52, s53, s54, s55, s56, s57, s58, s59, s60, s61, s62, s63, s64, s65, s66, s67, s68, s69, s70, s71, s72, s73, s74, s75, s76, s77, s78, s79, s80, s81, s82, s83, s84, s85, s86, s87, s88, s89, s90, s91, s92, s93, s94, s95, s96, s97, s98, s99, s100, s101, s102, s103, s104, s105, s106, s107, s108, s109, s110, s111, s112, s113, s114, s115, s116, s117, s118, s119, s120, s121, s122, s123, s124, s125, s126, s127, s128, s129, s130, s131, s132, s133, s134, s135, s136, .func (.func gf) #[] lb, s138, s139, s140, s141, s142, s143, s144, s145, s146, s147, s148, s149, s150, s151, s152, s153, s154, s155, s156, s157, s158, s159, s160, s161, s162], defers := ds } w :=
  mr_rf eg hseq hSs hSr hC hCV bV hall hXl hab hkb vab vkb vUA vow hQn (fun W h1 h2 h3 => hQx _ _ (hQn W h1 h2 h3))
/-- its members' blocks lie where there is memory -/
theorem Lrw.cutU {g : Nat} {U : Nat → Prop} {w : World} {kv : Value} {ks : List Tr} {ss : List Value} (h : Lrw g U w kv ks ss) : Lrw g (fun b => U b ∧ b < w.heap.size) w kv ks ss :=
  ⟨h.own, h.len, h.sl, fun j t s h1 h2 => Os.keep2 (fun _ h1 h2 => ⟨h1, h2⟩) (fun _ _ _ => rfl) _ _ (h.kid j t s h1 h2), fun b h1 h2 => h.nu b h1 h2.1⟩
end Go.Proofs.YtoaccmblaifnmaaDoor
