/-
  Package perm's Cycles, '!yield(cycleFrom(own, first))' in a round: one region that draws its order.
-/
import Derived.Test.YtbhhbnhoknlonaaDoorCf6
namespace Go.Proofs.YtbhhbnhoknlonaaDoor
open Flo Go.RowKit Go.Shelf

/-- it goes on, in one of these frames -/
def qC (V1 V2 : Value → World → Prop) (mk : Value → Bool → Act) : Exit → Act → World → Prop
  | .normal, a, w => (∃ v, a = mk v true ∧ V1 v w) ∨ (∃ v, a = mk v false ∧ V2 v w)
  | _, _, _ => False
set_option maxRecDepth 100000 in
set_option maxHeartbeats 8000000 in
theorem cy_reg {n l l0 s Bo x : Nat} {ov a0 a4 a5 a6 a7 a8 a9 a10 a11 a12 : Value} {W : World} {Q : Exit → Act → World → Prop} {Z V1 V2 : Value → World → Prop}
    (cY : W.cell? ⟨s, 0, none⟩ = some (.func (.yield l0) #[] #[])) (cO : W.cell? ⟨Bo, 0, none⟩ = some ov) (hs : s < W.heap.size)
    (hc : Calls Tryd.prog 35 #[ov, .int .i64 (x : Int)] W.drew fun e W1 => ∃ v, e = .returned v ∧ Below W.heap.size W.drew W1 ∧ Z v W1)
    (hy : ∀ v W1, Z v W1 → YieldAt Fence.wide (n - 1) Tryd.prog l0 #[v] W1 fun e W' => (e = .returned (.bool true) ∧ V1 v W') ∨ (e = .returned (.bool false) ∧ V2 v W'))
    (hQ : ∀ v b W', (b = true ∧ V1 v W') ∨ (b = false ∧ V2 v W') → Q .normal { tmps := #[a0, .pointer (some ⟨Bo, 0, none⟩), .pointer (some ⟨s, 0, none⟩), .int .i64 (x : Int), a4, a5, a6, .func (.yield l0) #[] #[], ov, .int .i64 (x : Int), v, .bool b, .bool (!b)], defers := [] } W') :
    (Code.region 3 #[{ dst := some 7, op := Go.Op.load 47 (Go.Operand.tmp 2), type := 47, pos := "perm.go:97", after := #[], guard := none },
      { dst := some 8, op := Go.Op.load 22 (Go.Operand.tmp 1), type := 22, pos := "perm.go:97", after := #[], guard := none },
      { dst := some 9, op := Go.Op.move (Go.Operand.tmp 3), type := 3, pos := "perm.go:97", after := #[], guard := none },
      { dst := some 10, op := Go.Op.call { callee := Go.Callee.value (Go.Operand.func 35), args := #[Go.Operand.tmp 8, Go.Operand.tmp 9], argTypes := #[22, 3] }, type := 22, pos := "perm.go:97", after := #[{ on := 1, ground := Go.Ground.data }, { on := 2, ground := Go.Ground.data }], guard := none },
      { dst := some 11, op := Go.Op.call { callee := Go.Callee.value (Go.Operand.tmp 7), args := #[Go.Operand.tmp 10], argTypes := #[22] }, type := 4, pos := "perm.go:97", after := #[{ on := 0, ground := Go.Ground.data }, { on := 3, ground := Go.Ground.data }, { on := 3, ground := Go.Ground.chain }], guard := none },
      { dst := some 12, op := Go.Op.unOp Go.UnOp.not 4 (Go.Operand.tmp 11), type := 4, pos := "perm.go:97", after := #[{ on := 4, ground := Go.Ground.data }], guard := none }] true).wpIn (Fence.wide.inRound l) n Tryd.prog Q { tmps := #[a0, .pointer (some ⟨Bo, 0, none⟩), .pointer (some ⟨s, 0, none⟩), .int .i64 (x : Int), a4, a5, a6, a7, a8, a9, a10, a11, a12], defers := [] } W := by
  have hmix : Tryd.prog.follows .mixedOrders = true := by kernel_rfl
  refine wpIn_mono (Q := qC V1 V2 fun v b => { tmps := #[a0, .pointer (some ⟨Bo, 0, none⟩), .pointer (some ⟨s, 0, none⟩), .int .i64 (x : Int), a4, a5, a6, .func (.yield l0) #[] #[], ov, .int .i64 (x : Int), v, .bool b, .bool (!b)], defers := [] }) ?_ ?_
  · refine region_round l rfl (noDefer_iff (by kernel_rfl)) hmix ?_
    clear hQ
    refine wpAnyIn_take (i := 2) (v := .int .i64 (x : Int)) rfl rfl (by kernel_rfl) (by kernel_rfl) (by kernel_rfl) (fun _ _ _ h => h) ⟨Or.inl ⟨by rfl, fun w => by go_simp⟩, fun _ => rfl⟩ ?_
    refine wpAnyIn_ready (rs := [0, 1]) (by kernel_rfl) (by simp) ?_
    refine AllReadyIn.cons rfl (fun K hK => ?_) ?_
    · go_simp
      refine hK _ _ ?_
      clear hK K
      refine wpAnyIn_ready (rs := [1]) (by kernel_rfl) (by simp) ?_
      refine AllReadyIn.cons rfl (fun K hK => ?_) ?_
      · go_simp
        refine hK _ _ ?_
        clear hK K
        refine wpAnyIn_ready (rs := [3]) (by kernel_rfl) (by simp) ?_
        refine AllReadyIn.cons rfl (fun K hK => ?_) ?_
        · go_simp
          refine ⟨trivial, fun h => (by cases h), (callsIn_wide.2 hc).mono ?_⟩
          rintro e W1 ⟨v, rfl, b1, z1⟩
          have cY1 : W1.cell? ⟨s, 0, none⟩ = some (.func (.yield l0) #[] #[]) := (b1.cell (p := ⟨s, 0, none⟩) hs).trans cY
          refine hK _ _ ?_
          clear hK K
          refine wpAnyIn_ready (rs := [4]) (by kernel_rfl) (by simp) ?_
          refine AllReadyIn.cons rfl (fun K hK => ?_) ?_
          · obtain ⟨fn, tmps, assign, body, hyy, hR⟩ := hy v W1 z1
            go_simp
            refine ⟨fun h => (by cases h), hR.mono ?_⟩
            rintro e W3 (⟨rfl, h1⟩ | ⟨rfl, h1⟩)
            · refine hK _ _ ?_
              clear hK K
              refine wpAnyIn_take (i := 5) (v := .bool false) rfl rfl (by kernel_rfl) (by kernel_rfl) (by kernel_rfl) (fun _ _ _ h => h) ⟨Or.inl ⟨by rfl, fun w => by go_simp⟩, fun _ => rfl⟩ ?_
              refine wpAnyIn_done (by kernel_rfl) ?_ _
              exact .inl ⟨_, rfl, h1⟩
            · refine hK _ _ ?_
              clear hK K
              refine wpAnyIn_take (i := 5) (v := .bool true) rfl rfl (by kernel_rfl) (by kernel_rfl) (by kernel_rfl) (fun _ _ _ h => h) ⟨Or.inl ⟨by rfl, fun w => by go_simp⟩, fun _ => rfl⟩ ?_
              refine wpAnyIn_done (by kernel_rfl) ?_ _
              exact .inr ⟨_, rfl, h1⟩
          exact AllReadyIn.nil
        exact AllReadyIn.nil
      exact AllReadyIn.nil
    refine AllReadyIn.cons rfl (fun K hK => ?_) ?_
    · go_simp
      refine hK _ _ ?_
      clear hK K
      refine wpAnyIn_ready (rs := [0, 3]) (by kernel_rfl) (by simp) ?_
      refine AllReadyIn.cons rfl (fun K hK => ?_) ?_
      · go_simp
        refine hK _ _ ?_
        clear hK K
        refine wpAnyIn_ready (rs := [3]) (by kernel_rfl) (by simp) ?_
        refine AllReadyIn.cons rfl (fun K hK => ?_) ?_
        · go_simp
          refine ⟨trivial, fun h => (by cases h), (callsIn_wide.2 hc).mono ?_⟩
          rintro e W1 ⟨v, rfl, b1, z1⟩
          have cY1 : W1.cell? ⟨s, 0, none⟩ = some (.func (.yield l0) #[] #[]) := (b1.cell (p := ⟨s, 0, none⟩) hs).trans cY
          refine hK _ _ ?_
          clear hK K
          refine wpAnyIn_ready (rs := [4]) (by kernel_rfl) (by simp) ?_
          refine AllReadyIn.cons rfl (fun K hK => ?_) ?_
          · obtain ⟨fn, tmps, assign, body, hyy, hR⟩ := hy v W1 z1
            go_simp
            refine ⟨fun h => (by cases h), hR.mono ?_⟩
            rintro e W3 (⟨rfl, h1⟩ | ⟨rfl, h1⟩)
            · refine hK _ _ ?_
              clear hK K
              refine wpAnyIn_take (i := 5) (v := .bool false) rfl rfl (by kernel_rfl) (by kernel_rfl) (by kernel_rfl) (fun _ _ _ h => h) ⟨Or.inl ⟨by rfl, fun w => by go_simp⟩, fun _ => rfl⟩ ?_
              refine wpAnyIn_done (by kernel_rfl) ?_ _
              exact .inl ⟨_, rfl, h1⟩
            · refine hK _ _ ?_
              clear hK K
              refine wpAnyIn_take (i := 5) (v := .bool true) rfl rfl (by kernel_rfl) (by kernel_rfl) (by kernel_rfl) (fun _ _ _ h => h) ⟨Or.inl ⟨by rfl, fun w => by go_simp⟩, fun _ => rfl⟩ ?_
              refine wpAnyIn_done (by kernel_rfl) ?_ _
              exact .inr ⟨_, rfl, h1⟩
          exact AllReadyIn.nil
        exact AllReadyIn.nil
      refine AllReadyIn.cons rfl (fun K hK => ?_) ?_
      · go_simp
        refine ⟨trivial, fun h => (by cases h), (callsIn_wide.2 hc).mono ?_⟩
        rintro e W1 ⟨v, rfl, b1, z1⟩
        have cY1 : W1.cell? ⟨s, 0, none⟩ = some (.func (.yield l0) #[] #[]) := (b1.cell (p := ⟨s, 0, none⟩) hs).trans cY
        refine hK _ _ ?_
        clear hK K
        refine wpAnyIn_ready (rs := [0]) (by kernel_rfl) (by simp) ?_
        refine AllReadyIn.cons rfl (fun K hK => ?_) ?_
        · go_simp
          refine hK _ _ ?_
          clear hK K
          refine wpAnyIn_ready (rs := [4]) (by kernel_rfl) (by simp) ?_
          refine AllReadyIn.cons rfl (fun K hK => ?_) ?_
          · obtain ⟨fn, tmps, assign, body, hyy, hR⟩ := hy v W1 z1
            go_simp
            refine ⟨fun h => (by cases h), hR.mono ?_⟩
            rintro e W3 (⟨rfl, h1⟩ | ⟨rfl, h1⟩)
            · refine hK _ _ ?_
              clear hK K
              refine wpAnyIn_take (i := 5) (v := .bool false) rfl rfl (by kernel_rfl) (by kernel_rfl) (by kernel_rfl) (fun _ _ _ h => h) ⟨Or.inl ⟨by rfl, fun w => by go_simp⟩, fun _ => rfl⟩ ?_
              refine wpAnyIn_done (by kernel_rfl) ?_ _
              exact .inl ⟨_, rfl, h1⟩
            · refine hK _ _ ?_
              clear hK K
              refine wpAnyIn_take (i := 5) (v := .bool true) rfl rfl (by kernel_rfl) (by kernel_rfl) (by kernel_rfl) (fun _ _ _ h => h) ⟨Or.inl ⟨by rfl, fun w => by go_simp⟩, fun _ => rfl⟩ ?_
              refine wpAnyIn_done (by kernel_rfl) ?_ _
              exact .inr ⟨_, rfl, h1⟩
          exact AllReadyIn.nil
        exact AllReadyIn.nil
      exact AllReadyIn.nil
    exact AllReadyIn.nil
  · intro e a w h
    cases e <;> first | exact h.elim | (rcases h with ⟨v, rfl, h⟩ | ⟨v, rfl, h⟩; exact hQ v true w (.inl ⟨rfl, h⟩); exact hQ v false w (.inr ⟨rfl, h⟩))
end Go.Proofs.YtbhhbnhoknlonaaDoor
