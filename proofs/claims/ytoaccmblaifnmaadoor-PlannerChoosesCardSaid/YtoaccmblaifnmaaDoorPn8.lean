/-
  Package planner's tellProducts, '!yield(order.Times(a, b))' in a round: one region that draws its order.
-/
import Derived.Test.YtoaccmblaifnmaaDoorAb8
import Derived.Test.YtoaccmblaifnmaaDoorAb9
namespace Go.Proofs.YtoaccmblaifnmaaDoor
open Flo Go.RowKit Go.Shelf
/-- it goes on, in one of these frames -/
def qP (V1 V2 : Value → World → Prop) (mk : Value → Bool → Act) : Exit → Act → World → Prop
  | .normal, a, w => (∃ v, a = mk v true ∧ V1 v w) ∨ (∃ v, a = mk v false ∧ V2 v w)
  | _, _, _ => False
set_option maxRecDepth 100000 in
set_option maxHeartbeats 8000000 in
theorem tell_reg {n l l0 g B8 Bx al ac bl bc : Nat} {ak an bk bn : Int} {aa ba : Option Addr} {s0 s1 s2 s3 s4 s6 s7 s10 s11 s12 s13 s14 s15 s16 s17 s18 s19 s20 s21 s22 s23 s24 : Value} {W : World} {Q : Exit → Act → World → Prop} {Z V1 V2 : Value → World → Prop}
    (hS : (fun X : World => X.cell? ⟨g, 0, none⟩ = some (.func (.yield l0) #[] #[]) ∧ X.cell? ⟨B8, 0, none⟩ = some (.int .i64 ak) ∧ X.cell? ⟨B8, 1, none⟩ = some (.int .i64 an) ∧ X.cell? ⟨B8, 2, none⟩ = some (.slice aa al ac) ∧ X.cell? ⟨Bx, 0, none⟩ = some (.int .i64 bk) ∧ X.cell? ⟨Bx, 1, none⟩ = some (.int .i64 bn) ∧ X.cell? ⟨Bx, 2, none⟩ = some (.slice ba bl bc)) W.drew)
    (hc : Calls Tryd.prog 11 #[.agg #[.int .i64 ak, .int .i64 an, .slice aa al ac], .agg #[.int .i64 bk, .int .i64 bn, .slice ba bl bc]] W.drew fun e W1 => ∃ v, e = .returned v ∧ (fun X : World => X.cell? ⟨g, 0, none⟩ = some (.func (.yield l0) #[] #[]) ∧ X.cell? ⟨B8, 0, none⟩ = some (.int .i64 ak) ∧ X.cell? ⟨B8, 1, none⟩ = some (.int .i64 an) ∧ X.cell? ⟨B8, 2, none⟩ = some (.slice aa al ac) ∧ X.cell? ⟨Bx, 0, none⟩ = some (.int .i64 bk) ∧ X.cell? ⟨Bx, 1, none⟩ = some (.int .i64 bn) ∧ X.cell? ⟨Bx, 2, none⟩ = some (.slice ba bl bc)) W1 ∧ Z v W1)
    (hy : ∀ v W1, Z v W1 → YieldAt Fence.wide (n - 1) Tryd.prog l0 #[v] W1 fun e W' => ((e = .returned (.bool true) ∧ V1 v W') ∨ (e = .returned (.bool false) ∧ V2 v W')) ∧ (fun X : World => X.cell? ⟨g, 0, none⟩ = some (.func (.yield l0) #[] #[]) ∧ X.cell? ⟨B8, 0, none⟩ = some (.int .i64 ak) ∧ X.cell? ⟨B8, 1, none⟩ = some (.int .i64 an) ∧ X.cell? ⟨B8, 2, none⟩ = some (.slice aa al ac) ∧ X.cell? ⟨Bx, 0, none⟩ = some (.int .i64 bk) ∧ X.cell? ⟨Bx, 1, none⟩ = some (.int .i64 bn) ∧ X.cell? ⟨Bx, 2, none⟩ = some (.slice ba bl bc)) W')
    (hQ : ∀ v b W', (b = true ∧ V1 v W') ∨ (b = false ∧ V2 v W') → Q .normal { tmps := #[s0, s1, s2, s3, s4, .pointer (some ⟨g, 0, none⟩), s6, s7, .pointer (some ⟨B8, 0, none⟩), .pointer (some ⟨Bx, 0, none⟩), s10, s11, s12, s13, s14, s15, s16, s17, .func (.yield l0) #[] #[], .agg #[.int .i64 ak, .int .i64 an, .slice aa al ac], .agg #[.int .i64 bk, .int .i64 bn, .slice ba bl bc], v, .bool b, .bool (!b), s24], defers := [] } W') :
    (Code.region 6 #[{ dst := some 18, op := Go.Op.load 26 (Go.Operand.tmp 5), type := 26, pos := "search.go:83", after := #[], guard := none },
      { dst := some 19, op := Go.Op.load 24 (Go.Operand.tmp 8), type := 24, pos := "search.go:83", after := #[], guard := none },
      { dst := some 20, op := Go.Op.load 24 (Go.Operand.tmp 9), type := 24, pos := "search.go:83", after := #[], guard := none },
      { dst := some 21, op := Go.Op.call { callee := Go.Callee.value (Go.Operand.func 11), args := #[Go.Operand.tmp 19, Go.Operand.tmp 20], argTypes := #[24, 24] }, type := 24, pos := "search.go:83", after := #[{ on := 1, ground := Go.Ground.data }, { on := 2, ground := Go.Ground.data }], guard := none },
      { dst := some 22, op := Go.Op.call { callee := Go.Callee.value (Go.Operand.tmp 18), args := #[Go.Operand.tmp 21], argTypes := #[24] }, type := 4, pos := "search.go:83", after := #[{ on := 0, ground := Go.Ground.data }, { on := 3, ground := Go.Ground.data }, { on := 3, ground := Go.Ground.chain }], guard := none },
      { dst := some 23, op := Go.Op.unOp Go.UnOp.not 4 (Go.Operand.tmp 22), type := 4, pos := "search.go:83", after := #[{ on := 4, ground := Go.Ground.data }], guard := none }] true).wpIn (Fence.wide.inRound l) n Tryd.prog Q { tmps := #[s0, s1, s2, s3, s4, .pointer (some ⟨g, 0, none⟩), s6, s7, .pointer (some ⟨B8, 0, none⟩), .pointer (some ⟨Bx, 0, none⟩), s10, s11, s12, s13, s14, s15, s16, s17, s18, s19, s20, s21, s22, s23, s24], defers := [] } W := by
  have hmix : Tryd.prog.follows .mixedOrders = true := by kernel_rfl
  refine wpIn_mono (Q := qP V1 V2 fun v b => { tmps := #[s0, s1, s2, s3, s4, .pointer (some ⟨g, 0, none⟩), s6, s7, .pointer (some ⟨B8, 0, none⟩), .pointer (some ⟨Bx, 0, none⟩), s10, s11, s12, s13, s14, s15, s16, s17, .func (.yield l0) #[] #[], .agg #[.int .i64 ak, .int .i64 an, .slice aa al ac], .agg #[.int .i64 bk, .int .i64 bn, .slice ba bl bc], v, .bool b, .bool (!b), s24], defers := [] }) ?_ ?_
  · refine HIn.round (S := fun X : World => X.cell? ⟨g, 0, none⟩ = some (.func (.yield l0) #[] #[]) ∧ X.cell? ⟨B8, 0, none⟩ = some (.int .i64 ak) ∧ X.cell? ⟨B8, 1, none⟩ = some (.int .i64 an) ∧ X.cell? ⟨B8, 2, none⟩ = some (.slice aa al ac) ∧ X.cell? ⟨Bx, 0, none⟩ = some (.int .i64 bk) ∧ X.cell? ⟨Bx, 1, none⟩ = some (.int .i64 bn) ∧ X.cell? ⟨Bx, 2, none⟩ = some (.slice ba bl bc)) l rfl (by kernel_rfl) hmix ?_
    clear hQ
    refine HIn.take (i := 0) (v := .func (.yield l0) #[] #[]) rfl rfl (by kernel_rfl) (by kernel_rfl) (by kernel_rfl) (fun _ _ _ h => h) ⟨fun _ => rfl, Or.inl ⟨by rfl, fun w hw => by obtain ⟨e0, e1, e2, e3, e4, e5, e6⟩ := hw; go_simp⟩⟩ hS ?_
    refine HIn.take (i := 1) (v := .agg #[.int .i64 ak, .int .i64 an, .slice aa al ac]) rfl rfl (by kernel_rfl) (by kernel_rfl) (by kernel_rfl) (fun _ _ _ h => h) ⟨fun _ => rfl, Or.inl ⟨by rfl, fun w hw => by obtain ⟨e0, e1, e2, e3, e4, e5, e6⟩ := hw; go_simp⟩⟩ hS ?_
    refine HIn.take (i := 2) (v := .agg #[.int .i64 bk, .int .i64 bn, .slice ba bl bc]) rfl rfl (by kernel_rfl) (by kernel_rfl) (by kernel_rfl) (fun _ _ _ h => h) ⟨fun _ => rfl, Or.inl ⟨by rfl, fun w hw => by obtain ⟨e0, e1, e2, e3, e4, e5, e6⟩ := hw; go_simp⟩⟩ hS ?_
    refine HIn.one (i := 3) rfl (by kernel_rfl) (fun K hK => ?_)
    go_simp
    refine ⟨trivial, fun h => (by cases h), (callsIn_wide.2 hc).mono ?_⟩
    rintro e W1 ⟨v, rfl, hS1, z1⟩
    refine hK _ _ hS1 ?_
    clear hK K
    refine HIn.one (i := 4) rfl (by kernel_rfl) (fun K hK => ?_)
    obtain ⟨fn, tmps, assign, body, hyy, hR⟩ := hy v W1 z1
    go_simp
    refine ⟨fun h => (by cases h), hR.mono ?_⟩
    rintro e W3 ⟨(⟨rfl, h1⟩ | ⟨rfl, h1⟩), hS3⟩
    · refine hK _ _ hS3 ?_
      clear hK K
      refine HIn.take (i := 5) (v := .bool false) rfl rfl (by kernel_rfl) (by kernel_rfl) (by kernel_rfl) (fun _ _ _ h => h) ⟨fun _ => rfl, Or.inl ⟨by rfl, fun w _ => by go_simp⟩⟩ hS3 ?_
      refine HIn.done (by kernel_rfl) ?_ _
      exact .inl ⟨_, rfl, h1⟩
    · refine hK _ _ hS3 ?_
      clear hK K
      refine HIn.take (i := 5) (v := .bool true) rfl rfl (by kernel_rfl) (by kernel_rfl) (by kernel_rfl) (fun _ _ _ h => h) ⟨fun _ => rfl, Or.inl ⟨by rfl, fun w _ => by go_simp⟩⟩ hS3 ?_
      refine HIn.done (by kernel_rfl) ?_ _
      exact .inr ⟨_, rfl, h1⟩
  · intro e a w h
    cases e <;> first | exact h.elim | (rcases h with ⟨v, rfl, h⟩ | ⟨v, rfl, h⟩; exact hQ v true w (.inl ⟨rfl, h⟩); exact hQ v false w (.inr ⟨rfl, h⟩))
end Go.Proofs.YtoaccmblaifnmaaDoor
