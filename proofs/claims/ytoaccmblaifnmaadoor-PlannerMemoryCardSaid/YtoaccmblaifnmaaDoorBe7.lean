/-
  The planner's All: the region of its iterator that draws its order; what the iterator tells.
-/
import Derived.WalkKit
import Ieee.Arith
import Derived.WalkLawsBesides
import Derived.Test.YtoaccmblaifnmaaDoorProg
import Derived.Outline
import Derived.Deep.QuietTactic
import Derived.BigQuiet
import Derived.WalkSmall
import Derived.RegionTactic
import Derived.Lib.Mul64
import Derived.Laws.Bits64b
import Derived.Deep.CutBlock
import Derived.Deep.DeepCutAuto
import Derived.Maps.AppendAt
import Derived.Deep.RegionHeld3
import Derived.Deep.RegionWith
import Derived.Laws.OwnMore
import Derived.RangeFuncNested
import Derived.RangeFuncBound
import Derived.RangeFuncCalls
import Derived.RangeFuncLeaves
import Derived.RangeFuncBox
import Derived.Shelf.Abstract
import Derived.Shelf.RegionOpen
import Derived.OwnWalkIn
import Derived.TacticsInMore
import Derived.LoopNIn
import Derived.LoopIn
import Derived.Laws.Rows
import Derived.Lib.ItoaNum
import Derived.Laws.IdiomStrings
import Derived.Lib.SmallJoins
import Derived.Lib.HexFns
import Derived.Test.YtoaccmblaifnmaaDoorRows
import Derived.LaidEql
import Derived.LaidLaws
import Derived.LaidHandle
import Derived.Stop.Joined
import Derived.Recover
import Derived.RegionDies
import Derived.Laws.CopyOwn
import Derived.Lib.AppendIntMem
import Derived.Laws.AppendOwn
import Derived.OwnWalk
import Derived.BigCall
import Derived.Deep.RegionHeldLaw
import Derived.Laws.FloatArith
import Derived.Laws.ComplexArith
import Derived.Laws.MakeOwn
import Derived.MapKept
import Derived.Carry
import Derived.Test.YtoaccmblaifnmaaDoorBe6
import Derived.Test.YtoaccmblaifnmaaDoorBe1
namespace Go.Proofs.YtoaccmblaifnmaaDoor
open Flo Go.RowKit Go.Shelf Tr
attribute [local go_sem] Oper.semAt_some
def qA (V1 : Value → Value → World → Prop) (mk : Value → Value → Act) : Exit → Act → World → Prop
  | .normal, a, w => ∃ hv gv, a = mk hv gv ∧ V1 hv gv w
  | _, _, _ => False
set_option maxRecDepth 100000 in
set_option maxHeartbeats 8000000 in
theorem al3_reg {m B2 B3 n L cap : Nat} {D p : Int} {ao : Option Addr} {ds : List Deferred} {s0 s1 s4 s5 s6 s7 s8 s9 s10 s11 s12 s13 s14 s15 s16 s17 s18 s19 s20 s21 s22 : Value} {W : World} {Q : Exit → Act → World → Prop} {Z1 : Value → World → Prop} {V1 : Value → Value → World → Prop}
    (hS : (fun X : World => X.cell? ⟨B2, 0, none⟩ = some (.int .i64 D) ∧ X.cell? ⟨B2, 1, none⟩ = some (.slice ao L cap) ∧ X.cell? ⟨B2, 2, none⟩ = some (.int .i64 p) ∧ X.cell? ⟨B3, 0, none⟩ = some (.int .i64 (n : Int))) W.drew)
    (hc1 : Calls Tryd.prog 46 #[.agg #[.int .i64 D, .slice ao L cap, .int .i64 p]] W.drew fun e W1 => ∃ hv, e = .returned hv ∧ (fun X : World => X.cell? ⟨B2, 0, none⟩ = some (.int .i64 D) ∧ X.cell? ⟨B2, 1, none⟩ = some (.slice ao L cap) ∧ X.cell? ⟨B2, 2, none⟩ = some (.int .i64 p) ∧ X.cell? ⟨B3, 0, none⟩ = some (.int .i64 (n : Int))) W1 ∧ Z1 hv W1)
    (hc2 : ∀ hv W1, Z1 hv W1 → Calls Tryd.prog 61 #[hv, .int .i64 (n : Int)] W1 fun e W2 => ∃ gv, e = .returned gv ∧ (fun X : World => X.cell? ⟨B2, 0, none⟩ = some (.int .i64 D) ∧ X.cell? ⟨B2, 1, none⟩ = some (.slice ao L cap) ∧ X.cell? ⟨B2, 2, none⟩ = some (.int .i64 p) ∧ X.cell? ⟨B3, 0, none⟩ = some (.int .i64 (n : Int))) W2 ∧ V1 hv gv W2)
    (hQ : ∀ hv gv W', V1 hv gv W' → Q .normal { tmps := #[s0, s1, .pointer (some ⟨B2, 0, none⟩), .pointer (some ⟨B3, 0, none⟩), s4, s5, s6, s7, .agg #[.int .i64 D, .slice ao L cap, .int .i64 p], hv, .int .i64 (n : Int), gv, s12, s13, s14, s15, s16, s17, s18, s19, s20, s21, s22], defers := ds } W') :
    (Code.region 3 #[{ dst := some 8, op := Go.Op.load 45 (Go.Operand.tmp 2), type := 45, pos := "planner.go:58", after := #[], guard := none },
      { dst := some 9, op := Go.Op.call { callee := Go.Callee.value (Go.Operand.func 46), args := #[Go.Operand.tmp 8], argTypes := #[45] }, type := 74, pos := "planner.go:58", after := #[{ on := 0, ground := Go.Ground.data }], guard := none },
      { dst := some 10, op := Go.Op.load 3 (Go.Operand.tmp 3), type := 3, pos := "planner.go:58", after := #[], guard := none },
      { dst := some 11, op := Go.Op.call { callee := Go.Callee.value (Go.Operand.func 61), args := #[Go.Operand.tmp 9, Go.Operand.tmp 10], argTypes := #[74, 3] }, type := 63, pos := "planner.go:58", after := #[{ on := 1, ground := Go.Ground.data }, { on := 2, ground := Go.Ground.data }, { on := 1, ground := Go.Ground.chain }], guard := none }] true).wpIn Fence.wide m Tryd.prog Q { tmps := #[s0, s1, .pointer (some ⟨B2, 0, none⟩), .pointer (some ⟨B3, 0, none⟩), s4, s5, s6, s7, s8, s9, s10, s11, s12, s13, s14, s15, s16, s17, s18, s19, s20, s21, s22], defers := ds } W := by
  have hmix : Tryd.prog.follows .mixedOrders = true := by kernel_rfl
  refine wpIn_mono (Q := qA V1 fun hv gv => { tmps := #[s0, s1, .pointer (some ⟨B2, 0, none⟩), .pointer (some ⟨B3, 0, none⟩), s4, s5, s6, s7, .agg #[.int .i64 D, .slice ao L cap, .int .i64 p], hv, .int .i64 (n : Int), gv, s12, s13, s14, s15, s16, s17, s18, s19, s20, s21, s22], defers := ds }) ?_ ?_
  · refine HIn.plain (S := fun X : World => X.cell? ⟨B2, 0, none⟩ = some (.int .i64 D) ∧ X.cell? ⟨B2, 1, none⟩ = some (.slice ao L cap) ∧ X.cell? ⟨B2, 2, none⟩ = some (.int .i64 p) ∧ X.cell? ⟨B3, 0, none⟩ = some (.int .i64 (n : Int))) hmix ?_
    clear hQ
    refine HIn.take (i := 0) (v := .agg #[.int .i64 D, .slice ao L cap, .int .i64 p]) rfl rfl (by kernel_rfl) (by kernel_rfl) (by kernel_rfl) (fun _ _ _ h => h) ⟨fun _ => rfl, Or.inl ⟨by kernel_rfl, fun w hw => by obtain ⟨e0, e1, e2, e3⟩ := hw; go_simp⟩⟩ hS ?_
    refine HIn.take (i := 2) (v := .int .i64 (n : Int)) rfl rfl (by kernel_rfl) (by kernel_rfl) (by kernel_rfl) (fun _ _ _ h => h) ⟨fun _ => rfl, Or.inl ⟨by kernel_rfl, fun w hw => by obtain ⟨e0, e1, e2, e3⟩ := hw; go_simp⟩⟩ hS ?_
    refine HIn.one (i := 1) rfl (by kernel_rfl) (fun K hK => ?_)
    go_simp
    refine ⟨trivial, fun h => (by cases h), (callsIn_wide.2 hc1).mono ?_⟩
    rintro e W1 ⟨hv, rfl, hS1, z1⟩
    refine hK _ _ hS1 ?_
    clear hK K
    refine HIn.one (i := 3) rfl (by kernel_rfl) (fun K hK => ?_)
    go_simp
    refine ⟨trivial, fun h => (by cases h), (callsIn_wide.2 (hc2 hv W1 z1)).mono ?_⟩
    rintro e W2 ⟨gv, rfl, hS2, z2⟩
    refine hK _ _ hS2 ?_
    clear hK K
    refine HIn.done (by kernel_rfl) ?_ _
    exact ⟨_, _, rfl, z2⟩
  · intro e a w h
    cases e <;> first | exact h.elim | (obtain ⟨hv, gv, rfl, h⟩ := h; exact hQ hv gv w h)
/-- the blocks of All's iterator -/
def aC (B1 B2 B3 : Nat) (rf : Bool) (D : Int) (fv : Value) (p : Int) (n : Int) : List (Nat × Obj) := [(B1, .cells #[.bool rf] 4 (0, 0)), (B2, .cells #[.int .i64 D, fv, .int .i64 p] 45 (0, 0)), (B3, .cells #[.int .i64 n] 3 (0, 0))]
def aL (B1 B2 B3 : Nat) : Array Value := #[.pointer (some ⟨B1, 0, none⟩), .pointer (some ⟨B2, 0, none⟩), .pointer (some ⟨B3, 0, none⟩)]
def tbx (k : Nat) : Obj := .cells #[.int .i64 (k : Int)] 3 (0, 0)
def ybo (l : Nat) : Obj := .cells #[.func (.yield l) #[] #[]] 26 (0, 0)
/-- while All tells: what the caller's yield keeps, beside two boxes of its own -/
def AI (J : List Tr → (Nat → Prop) → World → Prop) (g l : Nat) (k : Nat) (pre : List Tr) (Ui : Nat → Prop) (W : World) : Prop :=
  ∃ U0, J pre U0 W ∧ (∀ b, Ui b ↔ U0 b ∨ b = g ∨ b = g + 1) ∧ ¬ U0 g ∧ ¬ U0 (g + 1) ∧ W.heap[g]? = some (ybo l) ∧ W.heap[g + 1]? = some (tbx k)
theorem AI.stb {J : List Tr → (Nat → Prop) → World → Prop} {g l : Nat} (hJ : Stb J) (kf : List Tr → Nat) : Stb (fun pre Ui W => AI J g l (kf pre) pre Ui W) := by
  rintro s U W W' T ⟨U0, h1, h2, h3, h4, h5, h6⟩ hk ha
  have t0 : ¬ T g := fun h => ha g h ((h2 g).2 (.inr (.inl rfl)))
  have t1 : ¬ T (g + 1) := fun h => ha _ h ((h2 _).2 (.inr (.inr rfl)))
  exact ⟨U0, hJ _ _ _ _ T h1 hk (fun b hb hu => ha b hb ((h2 b).2 (.inl hu))), h2, h3, h4, (hk.block _ (blk_lt h5) t0).trans h5, (hk.block _ (blk_lt h6) t1).trans h6⟩
/-- nothing is told where All refuses -/
theorem all1_none {B1 B2 B3 : Nat} {D p n : Int} {fv : Value} {xs : List Tr} (tk : Prop) (Sr : (Nat → Prop) → World → Prop) (hSs : ∀ V W W' T, Sr V W → KT T W W' → Ap T V → Sr V W') (hxs : xs = []) :
    SeqU Tryd.prog 60 (aL B1 B2 B3) (aC B1 B2 B3 true D fv p n) toldO xs tk Sr (fun _ => False) := by
  intro m l J Jx W U V hSr hC hCV bV bU hap hJ hJx hY h0
  subst hxs
  obtain ⟨Wa, eWa⟩ : ∃ Wa, Hid (W.alloc (.cells #[.func (.yield l) #[] #[]] 26) = Wa) := ⟨_, (rfl : _ = _)⟩
  have ka : ∀ T, KT T W Wa := fun T => by rw [← eWa.out]; exact (KT.refl _ _).alloc _
  have x1 : Wa.cell? ⟨B1, 0, none⟩ = some (.bool true) := by rw [Joins.cell_of_block (((ka (fun _ => False)).fx hC fun _ _ h => h) (B1, .cells #[.bool true] 4 (0, 0)) (by simp [aC]))]; rfl
  have hend : Hid (∃ U' V', Sr V' Wa ∧ (∀ b, V b → ¬ False → Wa.heap[b]? = W.heap[b]?) ∧ (∀ b, V b → V' b) ∧ (∀ b, V' b → V b ∨ W.heap.size ≤ b) ∧ Bd V' Wa ∧ Bd U' Wa ∧ Ap V' U' ∧ (J [] U' Wa ∨ ∃ pre, pre <+: [] ∧ Jx pre U' Wa)) :=
    ⟨U, V, hSs _ _ _ (fun _ => False) hSr (ka _) (fun _ h => h.elim), fun b hb _ => (ka (fun _ => False)).block b (bV b hb) (fun h => h), fun _ h => h, fun _ h => .inl h, bV.kt (ka V), bU.kt (ka U), hap, .inl (hJ _ _ _ _ (fun _ => False) h0 (ka _) (fun _ h => h.elim))⟩
  clear hSr hC hCV bV bU hap hJ hJx hY h0 ka
  unfold aL
  refine callsIn_of_wp_marks Tryd.func60 rfl trivial ?_ rfl
  simp only [Tryd.ntmps60, List.size_toArray, List.length_cons, List.length_nil, Nat.reduceAdd, Nat.reduceSub, Array.replicate_succ, Array.replicate_zero, List.push_toArray, List.append_toArray, List.nil_append, List.cons_append]
  rw [← eWa.out] at x1
  gi_wp2_with fail
  rw [eWa.out]
  exact ⟨.tuple #[], by simp [results, Tryd.f60, go_sem], ⟨_, rfl⟩, hend.out⟩
set_option maxRecDepth 100000 in
set_option maxHeartbeats 8000000 in
/-- all orders, the first 4096 of them at most -/
theorem all1_seq {B1 B2 B3 : Nat} {D p : Int} {F : List Int} {fv : Value} {n : Nat} (tk : Prop) (gp : Pl.GP D F p) (hF : F.length ≤ 1000) (hdm : Pl.Dm p n) :
    SeqU Tryd.prog 60 (aL B1 B2 B3) (aC B1 B2 B3 false D fv p n) toldO ((Pl.als D F p n).take 4096) tk (fun V W => FlR V W fv F) (fun _ => False) := by
  intro m l J Jx W U V hSr hC hCV bV bU hap hJ hJx hY h0
  obtain ⟨XS, hXS⟩ : ∃ XS, Hid (Pl.als D F p n = XS) := ⟨_, (rfl : _ = _)⟩
  rw [hXS.out] at hY ⊢
  have yl : Hid (Yld Tryd.prog l tk (XS.take 4096) J Jx) := hY
  have hJH : Hid (Stb J) := hJ
  have hJxH : Hid (Stb Jx) := hJx
  have bVH : Hid (Bd V W) := bV
  have bUH : Hid (Bd U W) := bU
  have hapH : Hid (Ap V U) := hap
  have h0H : Hid (J [] U W) := h0
  have hSrH : Hid (FlR V W fv F) := hSr
  obtain ⟨g, hg⟩ : ∃ g, Hid (W.heap.size = g) := ⟨_, (rfl : _ = _)⟩
  obtain ⟨Wb, eWb⟩ : ∃ Wb, Hid ((W.alloc (.cells #[.func (.yield l) #[] #[]] 26)).alloc (.cells #[.int .i64 0] 3) = Wb) := ⟨_, (rfl : _ = _)⟩
  have ka : Hid (∀ T, KT T W Wb) := fun T => by rw [← eWb.out]; exact ((KT.refl _ _).alloc _).alloc _
  have sb : Hid (Wb.heap.size = g + 2) := by show _ = _; rw [← eWb.out, ← hg.out]; simp
  have y0 : Hid (Wb.heap[g]? = some (ybo l)) := by
    show _ = _
    rw [← eWb.out, ← hg.out, Below.heap_alloc _ _ _ (by simp)]; exact heap_alloc_new W _
  have y1 : Hid (Wb.heap[g + 1]? = some (tbx 0)) := by
    show _ = _
    have := heap_alloc_new (W.alloc (.cells #[.func (.yield l) #[] #[]] 26)) (.cells #[.int .i64 0] 3)
    rw [World.size_alloc, hg.out] at this
    rw [← eWb.out]; exact this
  have hCb : Hid (Fx (aC B1 B2 B3 false D fv p n) Wb) := (ka.out (fun _ => False)).fx hC fun _ _ h => h
  have hCVH : Hid (∀ r ∈ aC B1 B2 B3 false D fv p n, V r.1) := hCV
  have hFlb : Hid (FlR V Wb fv F) := hSr.kt (ka.out (fun _ => False)) (fun _ h => h.elim)
  have x1 : W.cell? ⟨B1, 0, none⟩ = some (.bool false) := by rw [Joins.cell_of_block (hC (B1, .cells #[.bool false] 4 (0, 0)) (by simp [aC]))]; rfl
  have hB1 : B1 < W.heap.size := bV _ (hCV (B1, .cells #[.bool false] 4 (0, 0)) (by simp [aC]))
  have x1 : (W.alloc (.cells #[.func (.yield l) #[] #[]] 26)).cell? ⟨B1, 0, none⟩ = some (.bool false) := by
    rw [World.cell?_of_block (w := W) (Below.heap_alloc _ _ _ hB1)]; exact x1
  obtain ⟨ao, cap, hfv, _⟩ := hSr
  obtain ⟨L, hL⟩ : ∃ L, Hid (F.length = L) := ⟨_, (rfl : _ = _)⟩
  rw [hL.out] at hfv
  subst hfv
  have gpH : Hid (Pl.GP D F p) := gp
  have hFH : Hid (F.length ≤ 1000) := hF
  have hdmH : Hid (Pl.Dm p n) := hdm
  clear hC hCV bV bU hap hJ hJx hY h0 gp hF hdm hB1
  unfold aL
  refine callsIn_of_wp_marks Tryd.func60 rfl trivial ?_ rfl
  simp only [Tryd.ntmps60, List.size_toArray, List.length_cons, List.length_nil, Nat.reduceAdd, Nat.reduceSub, Array.replicate_succ, Array.replicate_zero, List.push_toArray, List.append_toArray, List.nil_append, List.cons_append]
  gi_wp2_with fail
  rw [eWb.out, hg.out]
  have hcc : Hid (∀ X, Below (g + 2) Wb X → X.cell? ⟨B2, 0, none⟩ = some (.int .i64 D) ∧ X.cell? ⟨B2, 1, none⟩ = some (.slice ao L cap) ∧ X.cell? ⟨B2, 2, none⟩ = some (.int .i64 p) ∧ X.cell? ⟨B3, 0, none⟩ = some (.int .i64 (n : Int))) := fun X hb => by
    have hb2 := hCb.out (B2, .cells #[.int .i64 D, .slice ao L cap, .int .i64 p] 45 (0, 0)) (by simp [aC])
    have hb3 := hCb.out (B3, .cells #[.int .i64 (n : Int)] 3 (0, 0)) (by simp [aC])
    have l2 := blk_lt hb2
    have l3 := blk_lt hb3
    simp only at hb2 hb3 l2 l3
    have h2 := (hb.block B2 (by rw [← sb.out]; exact l2)).trans hb2
    have h3 := (hb.block B3 (by rw [← sb.out]; exact l3)).trans hb3
    refine ⟨?_, ?_, ?_, ?_⟩
    · rw [Joins.cell_of_block h2]; rfl
    · rw [Joins.cell_of_block h2]; rfl
    · rw [Joins.cell_of_block h2]; rfl
    · rw [Joins.cell_of_block h3]; rfl
  have hbd : Hid (Below (g + 2) Wb Wb.drew) := (Below.refl _ _).drew
  refine al3_reg (B2 := B2) (B3 := B3) (D := D) (p := p) (ao := ao) (L := L) (cap := cap) (n := n)
    (Z1 := fun hv W1 => ∃ M, hv = .pointer (some ⟨M + 1, 0, none⟩) ∧ g + 2 ≤ M ∧ Srh D p F (M + 1) M (.slice ao L cap) (fun _ => True) (Vs V M (g + 2)) W1 ∧ Bd (Vs V M (g + 2)) W1 ∧ Below (g + 2) Wb W1)
    (V1 := fun hv gv W2 => ∃ M BB, hv = .pointer (some ⟨M + 1, 0, none⟩) ∧ gv = .func (.func 92) #[] (oL BB) ∧ g + 2 ≤ M ∧ M + 1 < BB ∧ Srh D p F (M + 1) M (.slice ao L cap) (fun _ => True) (Vs V M (g + 2)) W2 ∧ Bd (Vs V M (g + 2)) W2 ∧ Fx (oC BB (M + 1) n 61) W2 ∧ Below (g + 2) Wb W2) ?hS ?hc1 ?hc2 ?hQ
  case hS => exact hcc.out _ hbd.out
  case hc1 =>
    have e9 : Wb.drew.heap.size = g + 2 := sb.out
    have hq := newSearch_c (D := D) (p := p) (F := F) (V := V) (.slice ao L cap) Wb.drew (hFlb.out.kt (T := fun _ => False) (KT.of_below (Below.refl _ _).drew) (fun _ h => h.elim))
    rw [e9] at hq
    refine hq.mono ?_
    rintro e W1 ⟨M, rfl, h1, h2, h3, h4⟩
    have h5 := hbd.out.trans h4
    exact ⟨_, rfl, hcc.out _ h5, M, rfl, h1, h2, h3, h5⟩
  case hc2 =>
    rintro hv W1 ⟨M, rfl, h1, h2, h3, h4⟩
    refine (all_c (M + 1) n W1).mono ?_
    rintro e W2 ⟨rfl, h5, h6⟩
    have h7 : Below (g + 2) Wb W2 := h4.trans (h6.mono (Nat.le_trans (Nat.le_of_eq sb.out.symm) h4.size))
    exact ⟨_, rfl, hcc.out _ h7, M, W1.heap.size, rfl, rfl, h1, h3 (M + 1) (.inr (.inl rfl)), h2.below h6, h3.kt (T := fun _ => False) (KT.of_below h6), h5, h7⟩
  case hQ =>
    rintro hv gv W2 ⟨M, BB, rfl, rfl, h1, h2, h3, h4, h5, h6⟩
    have hMH : Hid (g + 2 ≤ M ∧ M + 1 < BB) := ⟨h1, h2⟩
    have hS2 : Hid (Srh D p F (M + 1) M (.slice ao L cap) (fun _ => True) (Vs V M (g + 2)) W2) := h3
    have hBd2 : Hid (Bd (Vs V M (g + 2)) W2) := h4
    have hFx2 : Hid (Fx (oC BB (M + 1) n 61) W2) := h5
    have hB2 : Hid (Below (g + 2) Wb W2) := h6
    clear h1 h2 h3 h4 h5 h6 x1
    simp only [Exit.then]
    rename_i hKK
    refine hKK _ _ ?_
    clear hKK
    unfold oL
    gi_wp2_with fail
    obtain ⟨N, hN⟩ : ∃ N, Hid (W2.heap.size = N) := ⟨_, (rfl : _ = _)⟩
    have hBN : Hid (BB + 2 < N) := by
      show _ < _
      rw [← hN.out]
      exact blk_lt (hFx2.out (BB + 2, .cells #[.func (.func 61) #[.pointer (some ⟨M + 1, 0, none⟩)] #[]] 93 (0, 0)) (by simp [oC]))
    have hoc : Hid (∀ r ∈ oC BB (M + 1) n 61, BB ≤ r.1 ∧ r.1 ≤ BB + 2) := fun r hr => by
      simp only [oC, List.mem_cons, List.not_mem_nil, or_false] at hr
      rcases hr with rfl | rfl | rfl <;> simp only <;> omega
    have hVg : Hid (∀ b, (Vs V M (g + 2) b ∨ ∃ r ∈ oC BB (M + 1) n 61, r.1 = b) → (V b ∧ b < g) ∨ (g + 2 ≤ b ∧ b < N)) := fun b hb => by
      have h1 := hMH.out
      have h2 := hBN.out
      rcases hb with (h | h | h) | ⟨r, hr, e⟩
      · exact .inr ⟨by omega, by omega⟩
      · exact .inr ⟨by omega, by omega⟩
      · exact .inl ⟨h.1, by have := bVH.out b h.1; have := hg.out; omega⟩
      · have := hoc.out r hr; exact .inr ⟨by omega, by omega⟩
    have k2 : Hid (∀ b, b < g + 2 → W2.heap[b]? = Wb.heap[b]?) := fun b hb => hB2.out.block b hb
    have kW : Hid (∀ b, b < g → W2.heap[b]? = W.heap[b]?) := fun b hb => (k2.out b (by omega)).trans ((ka.out (fun _ => False)).block b (by rw [hg.out]; exact hb) (fun h => h))
    have ktW : Hid (KT (fun _ => False) W W2) := by
      have h1 := ka.out (fun _ => False)
      have h2 := hB2.out
      refine ⟨h2.os.trans h1.os, h2.tape.trans h1.tape, h2.output.trans h1.output, Nat.le_trans h1.size h2.size, fun b hb _ => kW.out b (by rw [← hg.out]; exact hb)⟩
    have u0 : Hid (¬ U g ∧ ¬ U (g + 1)) := ⟨fun h => by have := bUH.out _ h; have := hg.out; omega, fun h => by have := bUH.out _ h; have := hg.out; omega⟩
    have i0 : Hid (AI J g l 0 [] (fun b => U b ∨ b = g ∨ b = g + 1) W2) := ⟨U, hJH.out _ _ _ _ (fun _ => False) h0H.out ktW.out (fun _ h => h.elim), fun _ => Iff.rfl, u0.out.1, u0.out.2, (k2.out g (by omega)).trans y0.out, (k2.out (g + 1) (by omega)).trans y1.out⟩
    refine rangeU (g := .tmp 11) (p0 := 12) rfl (fun args w => by kernel_rfl) (all_it gpH.out hFH.out hdmH.out BB tk) toldO_st (fun _ _ _ _ a k hT => a.kt k hT) (V := fun b => Vs V M (g + 2) b ∨ ∃ r ∈ oC BB (M + 1) n 61, r.1 = b) (U := fun b => U b ∨ b = g ∨ b = g + 1) (hS2.out.up fun b hb => .inl hb) hFx2.out (fun r hr => .inr ⟨r, hr, rfl⟩)
      (fun b hb => by rw [hN.out]; rcases hVg.out b hb with h | h; have := hBN.out; have := hMH.out; omega; omega) (fun b hb => by rw [hN.out]; have := hBN.out; have := hMH.out; rcases hb with h | h | h; have := bUH.out b h; have := hg.out; omega; omega; omega) (fun b hb hu => by
        rcases hVg.out b hb with h | h
        · rcases hu with k | k | k
          · exact hapH.out b h.1 k
          · omega
          · omega
        · rcases hu with k | k | k
          · have := bUH.out b k; have := hg.out; omega
          · omega
          · omega)
      (fun pre Ui W => pre.length < 4096 ∧ AI J g l pre.length pre Ui W) (fun c pre Ui W => c = Code.ret ∧ ((pre <+: XS.take 4096 ∧ ∃ k, AI Jx g l k pre Ui W) ∨ (pre = XS.take 4096 ∧ ∃ k, AI J g l k pre Ui W)))
      (fun s U W W' T h k ha => ⟨h.1, AI.stb hJH.out List.length s U W W' T h.2 k ha⟩)
      (fun c s U W W' T h k ha => ⟨h.1, h.2.imp (fun q => ⟨q.1, q.2.imp fun j q2 => AI.stb hJxH.out (fun _ => j) s U W W' T q2 k ha⟩) (fun q => ⟨q.1, q.2.imp fun j q2 => AI.stb hJH.out (fun _ => j) s U W W' T q2 k ha⟩)⟩)
      ⟨by simp, i0.out⟩
      (AxV fun v9 p9 => { tmps := #[.func (.yield l) #[] #[], .pointer (some ⟨B1, 0, none⟩), .pointer (some ⟨B2, 0, none⟩), .pointer (some ⟨B3, 0, none⟩), .pointer (some ⟨g, 0, none⟩), .pointer (some ⟨g + 1, 0, none⟩), p9, .bool false, .agg #[.int .i64 D, .slice ao L cap, .int .i64 p], .pointer (some ⟨M + 1, 0, none⟩), .int .i64 (n : Int), .func (.func 92) #[] #[.pointer (some ⟨BB, 0, none⟩), .pointer (some ⟨BB + 1, 0, none⟩), .pointer (some ⟨BB + 2, 0, none⟩)], v9, undef, undef, undef, undef, undef, undef, undef, undef, undef, undef], defers := [] }) AxV.st ?assign ?body ?done ?stop
    case assign =>
      intro l1 x v O W3 K ht hK
      obtain ⟨va, vc, rfl⟩ := Os.shape ht
      generalize x.ks.length = vl at *
      gi_wp2
      refine hK _ _ ((KT.refl _ W3).alloc _) ⟨W3.heap.size, x.k, x.n, .slice va vl vc, Nat.le_refl _, rfl, ?_, rfl⟩
      exact heap_alloc_new W3 _
    case body =>
      rintro l1 pre x v a' Ui O lo W3 ⟨hpl, U0, j1, j2, j3, j4, j5, j6⟩ ht hO hU hlo1 hlo2 hOU hp ⟨Bx, k, m9, s, hBx, rfl, hBb, rfl⟩
      obtain ⟨sa, sc, e⟩ := Os.shape ht
      simp only [Value.agg.injEq, Array.mk.injEq, List.cons.injEq, Value.int.injEq, true_and, and_true] at e
      obtain ⟨rfl, rfl, rfl⟩ := e
      have htH : Hid (toldO x (.agg #[.int .i64 x.k, .int .i64 x.n, .slice sa x.ks.length sc]) O W3) := ht
      obtain ⟨xk, hxk⟩ : ∃ z, Hid (x.k = z) := ⟨_, (rfl : _ = _)⟩
      obtain ⟨xn, hxn⟩ : ∃ z, Hid (x.n = z) := ⟨_, (rfl : _ = _)⟩
      obtain ⟨xl, hxl⟩ : ∃ z, Hid (x.ks.length = z) := ⟨_, (rfl : _ = _)⟩
      rw [hxk.out, hxn.out, hxl.out] at htH hBb ⊢
      obtain ⟨K, hK⟩ : ∃ z, Hid (pre.length = z) := ⟨_, (rfl : _ = _)⟩
      rw [hK.out] at hpl j6
      have hBbH : Hid (W3.heap[Bx]? = some (.cells #[.int .i64 xk, .int .i64 xn, .slice sa xl sc] 24 (0, 0))) := hBb
      have jH : Hid (J pre U0 W3 ∧ (∀ b, Ui b ↔ U0 b ∨ b = g ∨ b = g + 1) ∧ ¬ U0 g ∧ ¬ U0 (g + 1)) := ⟨j1, j2, j3, j4⟩
      have j5H : Hid (W3.heap[g]? = some (ybo l)) := j5
      have j6H : Hid (W3.heap[g + 1]? = some (tbx K)) := j6
      have hOH : Hid ((∀ b, O b → b < lo) ∧ Ap O Ui ∧ ∀ b, Ui b → b < lo) := ⟨hO, hOU, hU⟩
      have hgl : g + 1 < lo := hU _ ((j2 _).2 (.inr (.inr rfl)))
      have hloH : Hid (g + 1 < lo ∧ lo ≤ W3.heap.size ∧ lo ≤ Bx) := ⟨hgl, hlo2, hBx⟩
      have hpH : Hid (pre ++ [x] <+: Pl.als D F p n) := hp
      have c0 : W3.cell? ⟨g + 1, 0, none⟩ = some (.int .i64 (K : Int)) := by rw [Joins.cell_of_block j6]; rfl
      have f0 : W3.frozen? ⟨g + 1, 0, none⟩ = false := Joins.unfrozen_of_block j6 0
      clear j1 j2 j3 j4 j5 j6 hO hOU hU hp ht hBb hlo1 hlo2 hBx hgl
      have hK1 : (K : Int) < 4096 := by omega
      have kt4 : KT (fun b => b = g + 1) W3 (W3.setCell ⟨g + 1, 0, none⟩ (.int .i64 ((K : Int) + 1))) := KT.grown (Lib.Hx.grownBy_set (Lib.Hx.grownBy_refl W3 (some (g + 1))) ⟨g + 1, 0, none⟩ rfl _) (fun c e => by cases e; rfl)
      have hx4 : (W3.setCell ⟨g + 1, 0, none⟩ (.int .i64 ((K : Int) + 1))).heap[Bx]? = some (.cells #[.int .i64 xk, .int .i64 xn, .slice sa xl sc] 24 (0, 0)) := (sc_blk _ _ _ (by have := hloH.out; omega)).trans hBbH.out
      have hg4 : (W3.setCell ⟨g + 1, 0, none⟩ (.int .i64 ((K : Int) + 1))).heap[g]? = some (ybo l) := (sc_blk _ _ _ (by omega)).trans j5H.out
      have ht4 : (W3.setCell ⟨g + 1, 0, none⟩ (.int .i64 ((K : Int) + 1))).heap[g + 1]? = some (tbx (K + 1)) := by rw [hsc j6H.out]; rfl
      have d0 : (W3.setCell ⟨g + 1, 0, none⟩ (.int .i64 ((K : Int) + 1))).cell? ⟨g, 0, none⟩ = some (.func (.yield l) #[] #[]) := by rw [Joins.cell_of_block hg4]; rfl
      have d1 : (W3.setCell ⟨g + 1, 0, none⟩ (.int .i64 ((K : Int) + 1))).cell? ⟨Bx, 0, none⟩ = some (.int .i64 xk) := by rw [Joins.cell_of_block hx4]; rfl
      have d2 : (W3.setCell ⟨g + 1, 0, none⟩ (.int .i64 ((K : Int) + 1))).cell? ⟨Bx, 1, none⟩ = some (.int .i64 xn) := by rw [Joins.cell_of_block hx4]; rfl
      have d3 : (W3.setCell ⟨g + 1, 0, none⟩ (.int .i64 ((K : Int) + 1))).cell? ⟨Bx, 2, none⟩ = some (.slice sa xl sc) := by rw [Joins.cell_of_block hx4]; rfl
      have hpx : pre ++ [x] <+: XS.take 4096 := by
        rw [List.prefix_take_iff, ← hXS.out]
        exact ⟨hpH.out, by rw [List.length_append, hK.out]; simp; omega⟩
      have nO : ∀ b, b = g + 1 → ¬ O b := fun b e ho => hOH.out.2.1 b ho ((jH.out.2.1 b).2 (.inr (.inr e)))
      obtain ⟨fn, tmps, assign, body, hy, hR⟩ := yl.out (m - 1 - 1 - 1) pre x (.agg #[.int .i64 xk, .int .i64 xn, .slice sa xl sc]) U0 O _ (hJH.out _ _ _ _ (fun b => b = g + 1) jH.out.1 kt4 (fun b e hu => by subst e; exact jH.out.2.2.2 hu)) (toldO_st _ _ _ _ _ _ htH.out kt4 nO) (fun b hb => Nat.lt_of_lt_of_le (by have := hOH.out.1 b hb; have := hloH.out; omega) kt4.size) (fun b hb => Nat.lt_of_lt_of_le (by have := hOH.out.2.2 b ((jH.out.2.1 b).2 (.inl hb)); have := hloH.out; omega) kt4.size) (fun b ho hu => hOH.out.2.1 b ho ((jH.out.2.1 b).2 (.inl hu))) hpx
      have hpxH : Hid (pre ++ [x] <+: XS.take 4096) := hpx
      have kt4H : Hid (KT (fun b => b = g + 1) W3 (W3.setCell ⟨g + 1, 0, none⟩ (.int .i64 ((K : Int) + 1)))) := kt4
      have g4H : Hid ((W3.setCell ⟨g + 1, 0, none⟩ (.int .i64 ((K : Int) + 1))).heap[g]? = some (ybo l) ∧ (W3.setCell ⟨g + 1, 0, none⟩ (.int .i64 ((K : Int) + 1))).heap[g + 1]? = some (tbx (K + 1))) := ⟨hg4, ht4⟩
      clear hx4 hg4 ht4 hpx nO kt4
      gi_wp2
      refine ⟨fun h => (by cases h), RoundIn.mono (F := Fence.wide.inRound l1) hR ?_⟩
      rintro e W5 ⟨U', r, hr⟩
      have nn : ∀ b, b = g ∨ b = g + 1 → ¬ (U0 b ∨ (tk ∧ O b)) ∧ ¬ U' b := fun b hb => by
        have h1 : ¬ (U0 b ∨ (tk ∧ O b)) := by
          rintro (h | ⟨_, h⟩)
          · rcases hb with rfl | rfl
            · exact jH.out.2.2.1 h
            · exact jH.out.2.2.2 h
          · exact hOH.out.2.1 b h ((jH.out.2.1 b).2 (.inr hb))
        refine ⟨h1, fun h => ?_⟩
        rcases r.old b h with k | k | k
        · exact h1 (.inl k)
        · exact h1 (.inr k)
        · have := kt4H.out.size; have := hloH.out; omega
      have g5 : W5.heap[g]? = some (ybo l) := (r.kt.block g (blk_lt g4H.out.1) (nn g (.inl rfl)).1).trans g4H.out.1
      have t5 : W5.heap[g + 1]? = some (tbx (K + 1)) := (r.kt.block (g + 1) (blk_lt g4H.out.2) (nn _ (.inr rfl)).1).trans g4H.out.2
      have hfin : Hid (KT (fun b => Ui b ∨ (tk ∧ O b) ∨ lo ≤ b) W3 W5 ∧ (∀ b, (U' b ∨ b = g ∨ b = g + 1) → Ui b ∨ (tk ∧ O b) ∨ lo ≤ b) ∧ Bd (fun b => U' b ∨ b = g ∨ b = g + 1) W5) := by
        refine ⟨(kt4H.out.weak fun b _ e => .inl ((jH.out.2.1 b).2 (.inr (.inr e)))).trans (r.kt.weak fun b _ e => ?_), fun b hb => ?_, fun b hb => ?_⟩
        · rcases e with e | e
          · exact .inl ((jH.out.2.1 b).2 (.inl e))
          · exact .inr (.inl e)
        · rcases hb with hb | hb
          · rcases r.old b hb with k | k | k
            · exact .inl ((jH.out.2.1 b).2 (.inl k))
            · exact .inr (.inl k)
            · have := kt4H.out.size; have := hloH.out; exact .inr (.inr (by omega))
          · exact .inl ((jH.out.2.1 b).2 (.inr hb))
        · rcases hb with hb | rfl | rfl
          · exact r.bd b hb
          · exact blk_lt g5
          · exact blk_lt t5
      have hai : Hid (∀ X : List Tr → (Nat → Prop) → World → Prop, X (pre ++ [x]) U' W5 → AI X g l (K + 1) (pre ++ [x]) (fun b => U' b ∨ b = g ∨ b = g + 1) W5) := fun X hX => ⟨U', hX, fun _ => Iff.rfl, (nn g (.inl rfl)).2, (nn _ (.inr rfl)).2, g5, t5⟩
      have hlen : Hid ((pre ++ [x]).length = K + 1) := by show _ = _; simp [hK.out]
      have c5 : W5.cell? ⟨g + 1, 0, none⟩ = some (.int .i64 ((K : Int) + 1)) := by rw [Joins.cell_of_block t5]; rfl
      clear nn g5 t5 c0 f0 d0 d1 d2 d3 hR
      rcases hr with ⟨rfl, hj⟩ | ⟨rfl, hj⟩
      · have hjH : Hid (J (pre ++ [x]) U' W5) := hj
        clear hj r
        by_cases hE : K + 1 = 4096
        · have hE' : ((K : Int) + 1 == 4096) = true := by rw [beq_iff_eq]; omega
          have hxe : Hid (pre ++ [x] = XS.take 4096) := by
            obtain ⟨r, hr⟩ := hpxH.out
            have h1 := congrArg List.length hr
            rw [List.length_append, hlen.out, List.length_take] at h1
            have h2 : r = [] := List.length_eq_zero_iff.1 (by omega)
            rw [← hr, h2, List.append_nil]; exact (rfl : _ = _)
          clear hE
          gi_wp2
          exact ⟨_, hfin.out.1, hfin.out.2.1, hfin.out.2.2, rfl, .inr ⟨hxe.out, _, hai.out J hjH.out⟩⟩
        · have hE' : ((K : Int) + 1 == 4096) = false := beq_eq_false_iff_ne.2 (by omega)
          gi_wp2
          refine ⟨_, hfin.out.1, hfin.out.2.1, hfin.out.2.2, by rw [hlen.out]; omega, ?_⟩
          rw [hlen.out]
          exact hai.out J hjH.out
      · have hjH : Hid (Jx (pre ++ [x]) U' W5) := hj
        clear hj r
        gi_wp2
        exact ⟨_, hfin.out.1, hfin.out.2.1, hfin.out.2.2, rfl, .inl ⟨hpxH.out, _, hai.out Jx hjH.out⟩⟩
    case done =>
      rintro U' V' W3 sr hsm hup hold bV' bU' hap nu nv ⟨hpl, U0, j1, j2, j3, j4, j5, j6⟩ hK
      rw [hN.out] at nu nv hK hold ⊢
      have hfinV : ∀ b, V b → b < g ∧ Vs V M (g + 2) b := fun b hb => by
        have h1 := bVH.out b hb
        have h2 := hg.out
        exact ⟨by omega, .inr (.inr ⟨hb, by omega⟩)⟩
      have hT : KT (fun b => b = N) W3 (W3.putObj N (.deferred none)) := KT.put _ _ _ rfl
      have hkp : ∀ b, V b → b < W3.heap.size ∧ (W3.putObj N (.deferred none)).heap[b]? = W.heap[b]? := fun b hb => by
        obtain ⟨q1, q2⟩ := hfinV b hb
        have h3 := hMH.out
        have h4 := hBN.out
        have h5 := bV' b (hup b (.inl q2))
        exact ⟨h5, (hT.block b h5 (by omega)).trans ((hsm b (.inl q2) (by omega)).trans (kW.out b q1))⟩
      have hE : Hid (∀ (X : List Tr → (Nat → Prop) → World → Prop) (pr : List Tr) (U0 : Nat → Prop), Stb X → X pr U0 W3 → (∀ b, U' b ↔ U0 b ∨ b = g ∨ b = g + 1) → (X pr U0 (W3.putObj N (.deferred none)) → J (XS.take 4096) U0 (W3.putObj N (.deferred none)) ∨ ∃ pre, pre <+: XS.take 4096 ∧ Jx pre U0 (W3.putObj N (.deferred none))) → ∃ U' V', FlR V' (W3.putObj N (.deferred none)) (.slice ao L cap) F ∧ (∀ b, V b → ¬ False → (W3.putObj N (.deferred none)).heap[b]? = W.heap[b]?) ∧ (∀ b, V b → V' b) ∧ (∀ b, V' b → V b ∨ W.heap.size ≤ b) ∧ Bd V' (W3.putObj N (.deferred none)) ∧ Bd U' (W3.putObj N (.deferred none)) ∧ Ap V' U' ∧ (J (XS.take 4096) U' (W3.putObj N (.deferred none)) ∨ ∃ pre, pre <+: XS.take 4096 ∧ Jx pre U' (W3.putObj N (.deferred none)))) := fun X pr U0 hX x0 i0 hx => by
        refine ⟨U0, V, ?_, fun b hb _ => (hkp b hb).2, fun _ h => h, fun _ h => .inl h, fun b hb => by rw [putObj_size]; exact (hkp b hb).1, fun b hb => by rw [putObj_size]; exact bU' b ((i0 b).2 (.inl hb)), fun b hb hu => hap b (hup b (.inl (hfinV b hb).2)) ((i0 b).2 (.inl hu)), hx (hX _ _ _ _ (fun b => b = N) x0 hT (fun b e hu => nu ((i0 _).2 (.inl (e ▸ hu)))))⟩
        obtain ⟨ao', cap', e', hc⟩ := hSrH.out
        refine ⟨ao', cap', e', fun i hi => ?_⟩
        obtain ⟨b, off, q1, q2, q3, q4⟩ := hc i hi
        exact ⟨b, off, q1, q2, by rw [putObj_size]; exact (hkp b q2).1, (World.cell?_of_block (a := ⟨b, off + i, none⟩) (hkp b q2).2).trans q4⟩
      have hxe : Pl.als D F p n = XS.take 4096 := by rw [hXS.out] at hpl ⊢; rw [List.take_of_length_le (by omega)]
      rw [hxe] at j1
      have hfin := hE.out J _ U0 hJH.out j1 j2 .inl
      have hfinH : Hid _ := hfin
      clear sr hsm hup hold bV' bU' hap nu nv j1 j2 j3 j4 j5 j6 hE hkp hT hfinV hfin hxe
      refine ⟨by simp, .inl ⟨_, _, rfl, run_takeDeferred hK, .tuple #[], by simp [results, Tryd.f60, go_sem], ⟨_, rfl⟩, hfinH.out⟩⟩
    case stop =>
      rintro c pre U' V' W3 hpx sr hsm hup hold bV' bU' hap nu nv ⟨rfl, hor⟩ hK
      rw [hN.out] at nu nv hK hold ⊢
      have hfinV : ∀ b, V b → b < g ∧ Vs V M (g + 2) b := fun b hb => by
        have h1 := bVH.out b hb
        have h2 := hg.out
        exact ⟨by omega, .inr (.inr ⟨hb, by omega⟩)⟩
      have hT : KT (fun b => b = N) W3 (W3.putObj N (.deferred none)) := KT.put _ _ _ rfl
      have hkp : ∀ b, V b → b < W3.heap.size ∧ (W3.putObj N (.deferred none)).heap[b]? = W.heap[b]? := fun b hb => by
        obtain ⟨q1, q2⟩ := hfinV b hb
        have h3 := hMH.out
        have h4 := hBN.out
        have h5 := bV' b (hup b (.inl q2))
        exact ⟨h5, (hT.block b h5 (by omega)).trans ((hsm b (.inl q2) (by omega)).trans (kW.out b q1))⟩
      have hE : Hid (∀ (X : List Tr → (Nat → Prop) → World → Prop) (pr : List Tr) (U0 : Nat → Prop), Stb X → X pr U0 W3 → (∀ b, U' b ↔ U0 b ∨ b = g ∨ b = g + 1) → (X pr U0 (W3.putObj N (.deferred none)) → J (XS.take 4096) U0 (W3.putObj N (.deferred none)) ∨ ∃ pre, pre <+: XS.take 4096 ∧ Jx pre U0 (W3.putObj N (.deferred none))) → ∃ U' V', FlR V' (W3.putObj N (.deferred none)) (.slice ao L cap) F ∧ (∀ b, V b → ¬ False → (W3.putObj N (.deferred none)).heap[b]? = W.heap[b]?) ∧ (∀ b, V b → V' b) ∧ (∀ b, V' b → V b ∨ W.heap.size ≤ b) ∧ Bd V' (W3.putObj N (.deferred none)) ∧ Bd U' (W3.putObj N (.deferred none)) ∧ Ap V' U' ∧ (J (XS.take 4096) U' (W3.putObj N (.deferred none)) ∨ ∃ pre, pre <+: XS.take 4096 ∧ Jx pre U' (W3.putObj N (.deferred none)))) := fun X pr U0 hX x0 i0 hx => by
        refine ⟨U0, V, ?_, fun b hb _ => (hkp b hb).2, fun _ h => h, fun _ h => .inl h, fun b hb => by rw [putObj_size]; exact (hkp b hb).1, fun b hb => by rw [putObj_size]; exact bU' b ((i0 b).2 (.inl hb)), fun b hb hu => hap b (hup b (.inl (hfinV b hb).2)) ((i0 b).2 (.inl hu)), hx (hX _ _ _ _ (fun b => b = N) x0 hT (fun b e hu => nu ((i0 _).2 (.inl (e ▸ hu)))))⟩
        obtain ⟨ao', cap', e', hc⟩ := hSrH.out
        refine ⟨ao', cap', e', fun i hi => ?_⟩
        obtain ⟨b, off, q1, q2, q3, q4⟩ := hc i hi
        exact ⟨b, off, q1, q2, by rw [putObj_size]; exact (hkp b q2).1, (World.cell?_of_block (a := ⟨b, off + i, none⟩) (hkp b q2).2).trans q4⟩
      have hfinH : Hid (∃ U' V', FlR V' (W3.putObj N (.deferred none)) (.slice ao L cap) F ∧ (∀ b, V b → ¬ False → (W3.putObj N (.deferred none)).heap[b]? = W.heap[b]?) ∧ (∀ b, V b → V' b) ∧ (∀ b, V' b → V b ∨ W.heap.size ≤ b) ∧ Bd V' (W3.putObj N (.deferred none)) ∧ Bd U' (W3.putObj N (.deferred none)) ∧ Ap V' U' ∧ (J (XS.take 4096) U' (W3.putObj N (.deferred none)) ∨ ∃ pre, pre <+: XS.take 4096 ∧ Jx pre U' (W3.putObj N (.deferred none)))) := by
        rcases hor with ⟨hpp, k, U0, j1, j2, j3, j4, j5, j6⟩ | ⟨rfl, k, U0, j1, j2, j3, j4, j5, j6⟩
        · exact hE.out Jx _ U0 hJxH.out j1 j2 (fun h => .inr ⟨_, hpp, h⟩)
        · exact hE.out J _ U0 hJH.out j1 j2 .inl
      clear sr hsm hup hold bV' bU' hap nu nv hor hE hkp hT hfinV
      gi_wp2
      refine ⟨by simp, .inl ⟨_, _, rfl, run_takeDeferred hK, .tuple #[], by simp [results, Tryd.f60, go_sem], ⟨_, rfl⟩, hfinH.out⟩⟩
end Go.Proofs.YtoaccmblaifnmaaDoor
