/-
  The statement PackWrites, walked.
-/
import Derived.Test.YtjckgcjcpmnhhaaDoorVw4
import Derived.Test.YtjckgcjcpmnhhaaDoorPkl
import Derived.Test.YtjckgcjcpmnhhaaDoorLaid
import Derived.Deep.RegionWith
import Derived.Deep.RegionHeld3
import Derived.BigRegion
import Derived.Deep.DeepCutAuto
import Derived.Deep.CutBlock
import Derived.Deep.LoopGhost
namespace Go.Proofs.YtjckgcjcpmnhhaaDoor
open Flo Go.RowKit
theorem Wr.qt {F : Nat → Prop} {w w' : World} {g : Nat} {ys : List Nat} (h : Wr F w g ys) (hq : Qt w w') : Wr F w' g ys := h.under (hq.fr (fun _ => False)) fun _ _ h => h.elim
theorem OwB.qt {w w' : World} {v : Value} {ys : List Nat} (h : OwB w v ys) (hq : Qt w w') : OwB w' v ys := owns_block h fun b _ => by rw [hq.heap]
set_option maxRecDepth 100000 in
set_option maxHeartbeats 8000000 in
theorem writes_w (ao : Option Addr) (m cap : Nat) (al : List Addr) (w : World) (hV : InV w ao m) (hm : m ≤ 1048576) (he : E5 w al) :
    Calls Tryd.prog 3 #[.slice ao m cap] w fun e w' => e = .returned (.bool true) ∧ Below w.heap.size w w' := by
  have hVH : Hid (InV w ao m) := hV
  have heH : Hid (E5 w al) := he
  clear hV he
  go_enter Tryd.func3, Tryd.ntmps3
  go_wp2_with fail
  refine (plives_c w al heH.out).mono ?_
  rintro e w1 ⟨rfl, hb1⟩
  have hB1 : Hid (Below w.heap.size w w1) := hb1
  clear hb1
  go_wp2_with fail
  refine (wnew_c w1 (fun k => k = w1.heap.size) rfl).mono ?_
  rintro e w2 ⟨rfl, h1, h2, h3⟩
  obtain ⟨g, hg⟩ : ∃ g, w1.heap.size = g := ⟨_, rfl⟩
  rw [hg] at h1 h3 ⊢
  have hgw : Hid (w.heap.size ≤ g ∧ g < w2.heap.size) := by have := hB1.out.size; exact ⟨by omega, by omega⟩
  have hW2 : Hid (Wr (fun k => k = g) w2 g []) := h1
  have hB2 : Hid (Below w.heap.size w w2) := hB1.out.trans (h2.mono hB1.out.size)
  clear h1 h2 h3 hg hB1
  go_wp2
  go_loopg [4, 17] m (fun gk so si wr => ∃ i : Nat, ∃ ys : List Nat, ∃ F : Nat → Prop, si = .int .i64 (i : Int) ∧ gk + i = m ∧ Hid (Wr F wr g ys) ∧ Hid (OwB wr so ys) ∧ Hid (∀ b, so.ownBlock = some b → w.heap.size ≤ b ∧ ¬ F b) ∧ Hid (Below w.heap.size w wr) ∧ Hid (∀ k, F k → w.heap.size ≤ k) ∧ Hid (ys.length ≤ 8388618 * i) ∧ Hid (∀ b ∈ ys, b < 256))
  case atStart =>
    refine ⟨0, [], (fun k => k = g), rfl, rfl, hW2.out.under ((Fr.refl (fun _ => False) w2).alloc _) (fun _ _ hh => hh.elim), World.ownsRow_made w2 #[] 0 (Nat.zero_le _) (by decide) rfl, fun b hb => ?_, hB2.out.alloc hB2.out.size _, fun k hk => ?_, by show _ ≤ _; simp, fun b hb => by cases hb⟩
    · cases hb
      have := hgw.out
      exact ⟨by show _ ≤ w2.heap.size; omega, by show ¬ w2.heap.size = g; omega⟩
    · have := hgw.out; have h5 : k = g := hk; omega
  case round =>
    obtain ⟨i, ys, F, rfl, hi, hW, hO, hN, hB, hF, hL, hY⟩ := hrel
    clear hW2 hB2
    by_cases hlt : i < m
    · have hlt' : (i : Int) < (m : Int) := by omega
      obtain ⟨q, o, k, n, u, v, s, l, zs, rfl, hq, hva, hvo⟩ := hVH.out i hlt
      have hqH : Hid (q < w.heap.size) := hq
      have hvoH : Hid (Vok w u v s l zs) := hvo
      have c0 : wr.cell? ⟨q, o + i * 6, none⟩ = _ := (hB.out.cell (p := ⟨q, o + i * 6, none⟩) hq).trans hva.c0
      have c1 : wr.cell? ⟨q, o + i * 6 + 1, none⟩ = _ := (hB.out.cell (p := ⟨q, o + i * 6 + 1, none⟩) hq).trans hva.c1
      have c2 : wr.cell? ⟨q, o + i * 6 + 2, none⟩ = _ := (hB.out.cell (p := ⟨q, o + i * 6 + 2, none⟩) hq).trans hva.c2
      have c3 : wr.cell? ⟨q, o + i * 6 + 3, none⟩ = _ := (hB.out.cell (p := ⟨q, o + i * 6 + 3, none⟩) hq).trans hva.c3
      have c4 : wr.cell? ⟨q, o + i * 6 + 4, none⟩ = _ := (hB.out.cell (p := ⟨q, o + i * 6 + 4, none⟩) hq).trans hva.c4
      have c5 : wr.cell? ⟨q, o + i * 6 + 5, none⟩ = _ := (hB.out.cell (p := ⟨q, o + i * 6 + 5, none⟩) hq).trans hva.c5
      clear hva hvo hq
      obtain ⟨lo, ln, lc, rfl⟩ : ∃ lo ln lc, l = .slice lo ln lc := by obtain ⟨a, c, rfl, _⟩ := hvoH.out.hl; exact ⟨_, _, _, rfl⟩
      obtain ⟨wa, hwa⟩ : ∃ wa, Hid (wa = wr.alloc (.cells #[.int .i64 k, .int .u64 (u : Int), .int .u64 (v : Int), .string s, .slice lo ln lc, .int .i64 n] 30)) := ⟨_, rfl⟩
      have hba : Hid (Below wr.heap.size wr wa ∧ wa.heap.size = wr.heap.size + 1) := by rw [hwa.out]; exact ⟨(Below.refl _ _).alloc (Nat.le_refl _) _, by simp⟩
      have hbx : Hid (Bx wa wr.heap.size k u v s (.slice lo ln lc) n) := by rw [hwa.out]; exact box_bx wr k u v s _ n
      have hWa : Hid (Wr (fun j => F j ∧ j < wr.heap.size) wa g ys) := (hW.out.to fun j hj hf => ⟨hf, hj⟩).under (Fr.of_below (S := fun _ => False) hba.out.1 fun j hj hj2 => by omega) fun _ _ hh => hh.elim
      have hBa : Hid (Below w.heap.size w wa) := hB.out.trans (hba.out.1.mono hB.out.size)
      have hva : Hid (Vok wa u v s (.slice lo ln lc) zs) := ⟨hvoH.out.hu, hvoH.out.hv, hvoH.out.hs, hvoH.out.hl.below hBa.out, hvoH.out.hz, hvoH.out.hb⟩
      have hOa : Hid (OwB wa u4 ys) := owns_block hO.out fun b hb => hba.out.1.block b (World.ownsRow.lt hO.out b hb).2
      have hu4 : Hid (∀ b, u4.ownBlock = some b → b < wr.heap.size) := fun b hb => (World.ownsRow.lt hO.out b hb).2
      have hl1 : Hid (ys.length ≤ 140737400000000) := by show _ ≤ _; have := hL.out; omega
      have hbc := hbx.out
      have d0 := hbc.c0
      have d1 := hbc.c1
      have d2 := hbc.c2
      have d3 := hbc.c3
      have d4 := hbc.c4
      have d5 := hbc.c5
      clear hbc
      go_upto_region 10 with fail
      rw [← hwa.out]
      clear c0 c1 c2 c3 c4 c5
      go_wp2_with fail
      refine (write_c (fun j => F j ∧ j < wr.heap.size) g ys k n u v s (.slice lo ln lc) zs wa hWa.out hl1.out hva.out).mono ?_
      rintro e wb' ⟨v2, rfl, hwo⟩
      obtain ⟨wb, hwb⟩ : ∃ wb, Hid (wb = wbs k u v s zs) := ⟨_, rfl⟩
      rw [← hwb.out] at hwo
      have hwbl : Hid (wb.length ≤ 8388618) := by rw [hwb.out]; exact wbs_len hva.out k
      have hwbb : Hid (∀ b ∈ wb, b < 256) := by rw [hwb.out]; exact wbs_byte k u v s zs
      obtain ⟨⟨F2, hW2, hF2, hv2⟩, hfr, hO2, hn2⟩ := hwo
      have hbx2 := (hbx.out.under hfr (fun hh => absurd hh.2 (Nat.lt_irrefl _))).c0
      have hfrs : Hid (wa.heap.size ≤ wb'.heap.size) := hfr.size
      have hB2 : Hid (Below w.heap.size w wb') := hfr.below hBa.out hBa.out.size (fun j _ hj => hF.out j hj.1)
      have hOu : Hid (OwB wb' u4 ys) := Fr.owns hfr hOa.out fun b hb hh => (hN.out b hb).2 hh.1
      have hS2 : Hid (SrcB wb' v2 wb) := hO2.src
      have hW2H : Hid (Wr F2 wb' g (ys ++ wb)) := hW2
      have hF2H : Hid (∀ j, F2 j → (F j ∧ j < wr.heap.size) ∨ wa.heap.size ≤ j) := hF2
      have hal1 : Hid (ys.length + wb.length ≤ 140737488355328) := by show _ ≤ _; have := hl1.out; have := hwbl.out; omega
      clear hW2 hF2 hv2 hfr hO2 hn2 d0 d1 d2 d3 d4 d5 hOa hWa
      go_wp2_with (first | (at_builtin; refine appY _ rfl _ _ rfl ys wb u4 v2 rfl rfl hOu.out hS2.out hal1.out ?_) | fail)
      intro v3 w3 ho hg3 hn3
      have hun : Hid (∀ j, F2 j → u4.ownBlock ≠ some j) := fun j hj e => by
        have h1 := hN.out j e
        have h2 := hu4.out j e
        rcases hF2H.out j hj with h3 | h3
        · exact h1.2 h3.1
        · have := hba.out.2; omega
      obtain ⟨F3, hF3e⟩ : ∃ F3 : Nat → Prop, Hid (F3 = fun j => F2 j ∧ j < wb'.heap.size) := ⟨_, rfl⟩
      have hW3 : Hid (Wr F3 w3 g (ys ++ wb)) := by
        rw [hF3e.out]
        exact (hW2H.out.to fun j hj hf => ⟨hf, hj⟩).under ((Fr.refl (fun j => u4.ownBlock = some j) wb').grown hg3 fun j hj => hj) fun j _ hj hf => hun.out j hf.1 hj
      have hO3 : Hid (OwB w3 v3 (ys ++ wb)) := ho
      have hB3 : Hid (Below w.heap.size w w3) := hB2.out.grown hg3 hB2.out.size fun j hj => (hN.out j hj).1
      have hN3 : Hid (∀ b, v3.ownBlock = some b → w.heap.size ≤ b ∧ ¬ F3 b) := fun b hb => by
        rw [hF3e.out]
        rcases hn3 b hb with h1 | h1
        · exact ⟨(hN.out b h1).1, fun hf => hun.out b hf.1 h1⟩
        · exact ⟨by have := hB2.out.size; omega, fun hf => by have := hf.2; omega⟩
      have hF3 : Hid (∀ j, F3 j → w.heap.size ≤ j) := fun j hj => by
        rw [hF3e.out] at hj
        rcases hF2H.out j hj.1 with h1 | h1
        · exact hF.out j h1.1
        · have := hBa.out.size; omega
      have hL3 : Hid ((ys ++ wb).length ≤ 8388618 * (i + 1)) := by show _ ≤ _; rw [List.length_append]; have := hL.out; have := hwbl.out; omega
      have hL4 : Hid ((ys ++ wb).length ≤ 140737488355328) := by show _ ≤ _; rw [List.length_append]; exact hal1.out
      have hY3 : Hid (∀ b ∈ ys ++ wb, b < 256) := fun b hb => (List.mem_append.1 hb).elim (hY.out b) (hwbb.out b)
      have hcv : Hid (∀ W, Below w3.heap.size w3 W → (convert 26 9 v3).run Tryd.prog W = .ok (.string (mkS (ys ++ wb))) W) := fun W hW => conv_src (hO3.out.src.below hW) hY3.out
      have hb0 : w3.cell? ⟨wr.heap.size, 0, none⟩ = some (.int .i64 k) := hg3.cell hbx2 fun e => by
        have := hu4.out wr.heap.size e.symm; omega
      have hbl : Hid (wr.heap.size < w3.heap.size) := World.block_lt_of_cell? w3 _ hb0
      have hW3d : Hid (Wr F3 w3.drew g (ys ++ wb)) := hW3.out.qt (Qt.drew w3)
      obtain ⟨n3, ao3, cap3, rfl, hlen3⟩ := hO3.out.slice
      have hlen3' : Hid (((ys ++ wb).length : Int) = (n3 : Int)) := by show _ = _; rw [hlen3.out]
      clear ho hg3 hn3 hbx2 hOu hS2 hW2H hF2H hun hF3e hwb hwa hbx hba hBa hva hB2
      by_cases h9 : k = 9
      · have h9' : (k == 9) = true := beq_iff_eq.2 h9
        have h9H : Hid (k = 9) := h9
        clear h9
        go_wp2_with fail
        refine wp_region_held_drew (S := fun W => Hid (Below w3.heap.size w3 W)) (by kernel_rfl) ((Qt.drew w3).below _) (fun hHeld => ?_)
        refine wpAnyH_take (i := 0) (oi := { dst := some 30, op := Go.Op.move (Go.Operand.tmp 8), type := 4, pos := "law.go:130", after := #[], guard := none }) (v := .bool true) rfl (by kernel_rfl) (by kernel_rfl) (by kernel_rfl) (fun _ _ _ h => h) (Or.inl ⟨by kernel_rfl, ?_⟩) hHeld ?_
        · intro W hW
          clear hW
          go_simp
        simp only [Act.put, List.setIfInBounds_toArray, List.set_cons_zero, List.set_cons_succ]
        refine wpAnyH_take (i := 1) (oi := { dst := some 31, op := Go.Op.unOp Go.UnOp.not 4 (Go.Operand.tmp 30), type := 4, pos := "law.go:130", after := #[{ on := 0, ground := Go.Ground.data }], guard := none }) (v := .bool false) rfl (by kernel_rfl) (by kernel_rfl) (by kernel_rfl) (fun _ _ _ h => h) (Or.inl ⟨by kernel_rfl, ?_⟩) hHeld ?_
        · intro W hW
          clear hW
          go_simp
        simp only [Act.put, List.setIfInBounds_toArray, List.set_cons_zero, List.set_cons_succ]
        refine wpAnyH_take (i := 2) (oi := { dst := some 32, op := Go.Op.move (Go.Operand.tmp 31), type := 4, pos := "law.go:130", after := #[{ on := 1, ground := Go.Ground.data }], guard := none }) (v := .bool false) rfl (by kernel_rfl) (by kernel_rfl) (by kernel_rfl) (fun _ _ _ h => h) (Or.inl ⟨by kernel_rfl, ?_⟩) hHeld ?_
        · intro W hW
          clear hW
          go_simp
        simp only [Act.put, List.setIfInBounds_toArray, List.set_cons_zero, List.set_cons_succ]
        refine wpAnyH_take (i := 3) (oi := { dst := some 33, op := Go.Op.move (Go.Operand.tmp 3), type := 24, pos := "law.go:130", after := #[{ on := 2, ground := Go.Ground.guard }], guard := some (2, false) }) (v := .pointer (some ⟨g, 0, none⟩)) rfl (by kernel_rfl) (by kernel_rfl) (by kernel_rfl) (fun _ _ _ h => h) (Or.inl ⟨by kernel_rfl, ?_⟩) hHeld ?_
        · intro W hW
          clear hW
          go_simp
        simp only [Act.put, List.setIfInBounds_toArray, List.set_cons_zero, List.set_cons_succ]
        refine wpAnyH_take (i := 5) (oi := { dst := some 35, op := Go.Op.move (Go.Operand.tmp 4), type := 26, pos := "law.go:130", after := #[{ on := 2, ground := Go.Ground.guard }], guard := some (2, false) }) (v := .slice ao3 n3 cap3) rfl (by kernel_rfl) (by kernel_rfl) (by kernel_rfl) (fun _ _ _ h => h) (Or.inl ⟨by kernel_rfl, ?_⟩) hHeld ?_
        · intro W hW
          clear hW
          go_simp
        simp only [Act.put, List.setIfInBounds_toArray, List.set_cons_zero, List.set_cons_succ]
        refine wpAnyH_take (i := 6) (oi := { dst := some 36, op := Go.Op.call { callee := Go.Callee.builtin Go.Builtin.len, args := #[Go.Operand.tmp 35], argTypes := #[26] }, type := 3, pos := "law.go:130", after := #[{ on := 5, ground := Go.Ground.data }, { on := 2, ground := Go.Ground.guard }], guard := some (2, false) }) (v := .int .i64 (n3 : Int)) rfl (by kernel_rfl) (by kernel_rfl) (by kernel_rfl) (fun _ _ _ h => h) (Or.inl ⟨by kernel_rfl, ?_⟩) hHeld ?_
        · intro W hW
          clear hW
          go_simp
        simp only [Act.put, List.setIfInBounds_toArray, List.set_cons_zero, List.set_cons_succ]
        refine wpAnyH_ready (rs := [4]) (by kernel_rfl) (by simp) ?_
        refine AllReadyH.cons (o := { dst := some 34, op := Go.Op.call { callee := Go.Callee.value (Go.Operand.func 10), args := #[Go.Operand.tmp 33], argTypes := #[24] }, type := 3, pos := "law.go:130", after := #[{ on := 3, ground := Go.Ground.data }, { on := 2, ground := Go.Ground.chain }, { on := 2, ground := Go.Ground.guard }], guard := some (2, false) }) rfl (fun K0 hK0 => ?_) AllReadyH.nil
        rw [if_pos (by kernel_rfl)]
        go_wp2_with fail
        refine (wlen_c F3 g (ys ++ wb) w3.drew hW3d.out).mono ?_
        rintro e w' ⟨rfl, rfl⟩
        rw [hlen3'.out]
        refine hK0.out _ _ ((Qt.drew w3).below _) (fun hHeld => ?_)
        clear hK0 K0
        try simp only [Act.put, List.setIfInBounds_toArray, List.set_cons_zero, List.set_cons_succ]
        refine wpAnyH_take (i := 7) (oi := { dst := some 37, op := Go.Op.binOp Go.BinOp.neq 3 (Go.Operand.tmp 34) (Go.Operand.tmp 36) 3, type := 4, pos := "law.go:130", after := #[{ on := 4, ground := Go.Ground.data }, { on := 6, ground := Go.Ground.data }, { on := 2, ground := Go.Ground.guard }], guard := some (2, false) }) (v := .bool false) rfl (by kernel_rfl) (by kernel_rfl) (by kernel_rfl) (fun _ _ _ h => h) (Or.inl ⟨by kernel_rfl, ?_⟩) hHeld ?_
        · intro W hW
          clear hW
          go_simp
        simp only [Act.put, List.setIfInBounds_toArray, List.set_cons_zero, List.set_cons_succ]
        refine wpAnyH_take (i := 8) (oi := { dst := some 38, op := Go.Op.pick (Go.Operand.tmp 32) (Go.Operand.const (Go.Value.bool true)) (Go.Operand.tmp 37), type := 4, pos := "law.go:130", after := #[{ on := 2, ground := Go.Ground.data }, { on := 7, ground := Go.Ground.data }], guard := none }) (v := .bool false) rfl (by kernel_rfl) (by kernel_rfl) (by kernel_rfl) (fun _ _ _ h => h) (Or.inl ⟨by kernel_rfl, ?_⟩) hHeld ?_
        · intro W hW
          clear hW
          go_simp
        simp only [Act.put, List.setIfInBounds_toArray, List.set_cons_zero, List.set_cons_succ]
        refine wpAnyH_take (i := 9) (oi := { dst := some 39, op := Go.Op.move (Go.Operand.tmp 38), type := 4, pos := "law.go:130", after := #[{ on := 8, ground := Go.Ground.data }, { on := 4, ground := Go.Ground.chain }], guard := none }) (v := .bool false) rfl (by kernel_rfl) (by kernel_rfl) (by kernel_rfl) (fun _ _ _ h => h) (Or.inl ⟨by kernel_rfl, ?_⟩) hHeld ?_
        · intro W hW
          clear hW
          go_simp
        simp only [Act.put, List.setIfInBounds_toArray, List.set_cons_zero, List.set_cons_succ]
        refine wpAnyH_take (i := 10) (oi := { dst := some 40, op := Go.Op.fieldAddr 30 (Go.Operand.tmp 6) 0, type := 0, pos := "law.go:130", after := #[{ on := 9, ground := Go.Ground.guard }], guard := some (9, false) }) (v := .pointer (some ⟨wr.heap.size, 0, none⟩)) rfl (by kernel_rfl) (by kernel_rfl) (by kernel_rfl) (fun _ _ _ h => h) (Or.inl ⟨by kernel_rfl, ?_⟩) hHeld ?_
        · intro W hW
          clear hW
          go_simp
        simp only [Act.put, List.setIfInBounds_toArray, List.set_cons_zero, List.set_cons_succ]
        refine wpAnyH_take (i := 11) (oi := { dst := some 41, op := Go.Op.load 3 (Go.Operand.tmp 40), type := 3, pos := "law.go:130", after := #[{ on := 10, ground := Go.Ground.data }, { on := 9, ground := Go.Ground.guard }], guard := some (9, false) }) (v := .int .i64 k) rfl (by kernel_rfl) (by kernel_rfl) (by kernel_rfl) (fun _ _ _ h => h) (Or.inl ⟨by kernel_rfl, ?_⟩) hHeld ?_
        · intro W hW
          have c9 := (hW.out.cell (p := ⟨wr.heap.size, 0, none⟩) hbl.out).trans hb0
          clear hW
          go_simp
        simp only [Act.put, List.setIfInBounds_toArray, List.set_cons_zero, List.set_cons_succ]
        refine wpAnyH_take (i := 12) (oi := { dst := some 42, op := Go.Op.binOp Go.BinOp.eql 3 (Go.Operand.tmp 41) (Go.Operand.const (Go.Value.int Go.IntKind.i64 9)) 3, type := 4, pos := "law.go:130", after := #[{ on := 11, ground := Go.Ground.data }, { on := 9, ground := Go.Ground.guard }], guard := some (9, false) }) (v := .bool true) rfl (by kernel_rfl) (by kernel_rfl) (by kernel_rfl) (fun _ _ _ h => h) (Or.inl ⟨by kernel_rfl, ?_⟩) hHeld ?_
        · intro W hW
          clear hW
          go_simp
        simp only [Act.put, List.setIfInBounds_toArray, List.set_cons_zero, List.set_cons_succ]
        refine wpAnyH_take (i := 13) (oi := { dst := some 43, op := Go.Op.move (Go.Operand.tmp 42), type := 4, pos := "law.go:130", after := #[{ on := 12, ground := Go.Ground.data }, { on := 9, ground := Go.Ground.chain }, { on := 9, ground := Go.Ground.guard }], guard := some (9, false) }) (v := .bool true) rfl (by kernel_rfl) (by kernel_rfl) (by kernel_rfl) (fun _ _ _ h => h) (Or.inl ⟨by kernel_rfl, ?_⟩) hHeld ?_
        · intro W hW
          clear hW
          go_simp
        simp only [Act.put, List.setIfInBounds_toArray, List.set_cons_zero, List.set_cons_succ]
        refine wpAnyH_take (i := 14) (oi := { dst := some 44, op := Go.Op.move (Go.Operand.tmp 3), type := 24, pos := "law.go:130", after := #[{ on := 13, ground := Go.Ground.guard }], guard := some (13, true) }) (v := .pointer (some ⟨g, 0, none⟩)) rfl (by kernel_rfl) (by kernel_rfl) (by kernel_rfl) (fun _ _ _ h => h) (Or.inl ⟨by kernel_rfl, ?_⟩) hHeld ?_
        · intro W hW
          clear hW
          go_simp
        simp only [Act.put, List.setIfInBounds_toArray, List.set_cons_zero, List.set_cons_succ]
        refine wpAnyH_take (i := 17) (oi := { dst := some 47, op := Go.Op.move (Go.Operand.tmp 4), type := 26, pos := "law.go:130", after := #[{ on := 13, ground := Go.Ground.guard }], guard := some (13, true) }) (v := .slice ao3 n3 cap3) rfl (by kernel_rfl) (by kernel_rfl) (by kernel_rfl) (fun _ _ _ h => h) (Or.inl ⟨by kernel_rfl, ?_⟩) hHeld ?_
        · intro W hW
          clear hW
          go_simp
        simp only [Act.put, List.setIfInBounds_toArray, List.set_cons_zero, List.set_cons_succ]
        refine wpAnyH_take (i := 18) (oi := { dst := some 48, op := Go.Op.convert 26 9 (Go.Operand.tmp 47), type := 9, pos := "law.go:130", after := #[{ on := 17, ground := Go.Ground.data }, { on := 13, ground := Go.Ground.guard }], guard := some (13, true) }) (v := .string (mkS (ys ++ wb))) rfl (by kernel_rfl) (by kernel_rfl) (by kernel_rfl) (fun _ _ _ h => h) (Or.inl ⟨by kernel_rfl, ?_⟩) hHeld ?_
        · intro W hW
          have c9 := hcv.out W hW.out
          clear hW
          go_simp
        simp only [Act.put, List.setIfInBounds_toArray, List.set_cons_zero, List.set_cons_succ]
        refine wpAnyH_ready (rs := [15]) (by kernel_rfl) (by simp) ?_
        refine AllReadyH.cons (o := { dst := some 45, op := Go.Op.call { callee := Go.Callee.value (Go.Operand.func 11), args := #[Go.Operand.tmp 44], argTypes := #[24] }, type := 26, pos := "law.go:130", after := #[{ on := 14, ground := Go.Ground.data }, { on := 13, ground := Go.Ground.chain }, { on := 13, ground := Go.Ground.guard }], guard := some (13, true) }) rfl (fun K0 hK0 => ?_) AllReadyH.nil
        rw [if_pos (by kernel_rfl)]
        go_wp2_with fail
        refine (wout_c F3 g (ys ++ wb) w3.drew hW3d.out hL4.out).mono ?_
        rintro e w8 ⟨v8, rfl, hn8⟩
        have c8 := conv_src hn8.own.src hY3.out
        have b8 : Hid (Below w3.heap.size w3 w8) := ((Qt.drew w3).below _).trans hn8.below
        clear hn8
        refine hK0.out _ _ b8 (fun hHeld => ?_)
        clear hK0 K0
        try simp only [Act.put, List.setIfInBounds_toArray, List.set_cons_zero, List.set_cons_succ]
        refine wpAnyH_ready (rs := [16]) (by kernel_rfl) (by simp) ?_
        refine AllReadyH.cons (o := { dst := some 46, op := Go.Op.convert 26 9 (Go.Operand.tmp 45), type := 9, pos := "law.go:130", after := #[{ on := 15, ground := Go.Ground.data }, { on := 13, ground := Go.Ground.guard }], guard := some (13, true) }) rfl (fun K0 hK0 => ?_) AllReadyH.nil
        rw [if_pos (by kernel_rfl)]
        go_wp2_with fail
        refine hK0.out _ _ hHeld (fun hHeld => ?_)
        clear hK0 K0
        try simp only [Act.put, List.setIfInBounds_toArray, List.set_cons_zero, List.set_cons_succ]
        clear c8
        refine wpAnyH_take (i := 19) (oi := { dst := some 49, op := Go.Op.binOp Go.BinOp.neq 9 (Go.Operand.tmp 46) (Go.Operand.tmp 48) 9, type := 4, pos := "law.go:130", after := #[{ on := 16, ground := Go.Ground.data }, { on := 18, ground := Go.Ground.data }, { on := 13, ground := Go.Ground.guard }], guard := some (13, true) }) (v := .bool false) rfl (by kernel_rfl) (by kernel_rfl) (by kernel_rfl) (fun _ _ _ h => h) (Or.inl ⟨by kernel_rfl, ?_⟩) hHeld ?_
        · intro W hW
          clear hW
          go_simp
        simp only [Act.put, List.setIfInBounds_toArray, List.set_cons_zero, List.set_cons_succ]
        refine wpAnyH_take (i := 20) (oi := { dst := some 50, op := Go.Op.pick (Go.Operand.tmp 43) (Go.Operand.tmp 49) (Go.Operand.const (Go.Value.bool false)), type := 4, pos := "law.go:130", after := #[{ on := 13, ground := Go.Ground.data }, { on := 19, ground := Go.Ground.data }, { on := 9, ground := Go.Ground.guard }], guard := some (9, false) }) (v := .bool false) rfl (by kernel_rfl) (by kernel_rfl) (by kernel_rfl) (fun _ _ _ h => h) (Or.inl ⟨by kernel_rfl, ?_⟩) hHeld ?_
        · intro W hW
          clear hW
          go_simp
        simp only [Act.put, List.setIfInBounds_toArray, List.set_cons_zero, List.set_cons_succ]
        refine wpAnyH_take (i := 21) (oi := { dst := some 51, op := Go.Op.pick (Go.Operand.tmp 39) (Go.Operand.const (Go.Value.bool true)) (Go.Operand.tmp 50), type := 4, pos := "law.go:130", after := #[{ on := 9, ground := Go.Ground.data }, { on := 20, ground := Go.Ground.data }], guard := none }) (v := .bool false) rfl (by kernel_rfl) (by kernel_rfl) (by kernel_rfl) (fun _ _ _ h => h) (Or.inl ⟨by kernel_rfl, ?_⟩) hHeld ?_
        · intro W hW
          clear hW
          go_simp
        simp only [Act.put, List.setIfInBounds_toArray, List.set_cons_zero, List.set_cons_succ]
        refine wpAnyH_done (by kernel_rfl) ?_ _
        go_wp2_with fail
        go_roundg (gk - 1)
        case measure => omega
        case rel => exact ⟨i + 1, ys ++ wb, F3, by go_num, by omega, hW3.out.under (Fr.of_below (S := fun _ => False) b8.out fun j hj hj2 => by omega) fun _ _ h => h.elim, owns_block hO3.out fun b hb => b8.out.block b (World.ownsRow.lt hO3.out b hb).2, hN3, hB3.out.trans (b8.out.mono hB3.out.size), hF3, hL3, hY3⟩
      · have h9' : (k == 9) = false := beq_eq_false_iff_ne.2 h9
        clear h9
        go_wp2_with fail
        refine wp_region_held_drew (S := fun W => Hid (Below w3.heap.size w3 W)) (by kernel_rfl) ((Qt.drew w3).below _) (fun hHeld => ?_)
        refine wpAnyH_take (i := 0) (oi := { dst := some 30, op := Go.Op.move (Go.Operand.tmp 8), type := 4, pos := "law.go:130", after := #[], guard := none }) (v := .bool true) rfl (by kernel_rfl) (by kernel_rfl) (by kernel_rfl) (fun _ _ _ h => h) (Or.inl ⟨by kernel_rfl, ?_⟩) hHeld ?_
        · intro W hW
          clear hW
          go_simp
        simp only [Act.put, List.setIfInBounds_toArray, List.set_cons_zero, List.set_cons_succ]
        refine wpAnyH_take (i := 1) (oi := { dst := some 31, op := Go.Op.unOp Go.UnOp.not 4 (Go.Operand.tmp 30), type := 4, pos := "law.go:130", after := #[{ on := 0, ground := Go.Ground.data }], guard := none }) (v := .bool false) rfl (by kernel_rfl) (by kernel_rfl) (by kernel_rfl) (fun _ _ _ h => h) (Or.inl ⟨by kernel_rfl, ?_⟩) hHeld ?_
        · intro W hW
          clear hW
          go_simp
        simp only [Act.put, List.setIfInBounds_toArray, List.set_cons_zero, List.set_cons_succ]
        refine wpAnyH_take (i := 2) (oi := { dst := some 32, op := Go.Op.move (Go.Operand.tmp 31), type := 4, pos := "law.go:130", after := #[{ on := 1, ground := Go.Ground.data }], guard := none }) (v := .bool false) rfl (by kernel_rfl) (by kernel_rfl) (by kernel_rfl) (fun _ _ _ h => h) (Or.inl ⟨by kernel_rfl, ?_⟩) hHeld ?_
        · intro W hW
          clear hW
          go_simp
        simp only [Act.put, List.setIfInBounds_toArray, List.set_cons_zero, List.set_cons_succ]
        refine wpAnyH_take (i := 3) (oi := { dst := some 33, op := Go.Op.move (Go.Operand.tmp 3), type := 24, pos := "law.go:130", after := #[{ on := 2, ground := Go.Ground.guard }], guard := some (2, false) }) (v := .pointer (some ⟨g, 0, none⟩)) rfl (by kernel_rfl) (by kernel_rfl) (by kernel_rfl) (fun _ _ _ h => h) (Or.inl ⟨by kernel_rfl, ?_⟩) hHeld ?_
        · intro W hW
          clear hW
          go_simp
        simp only [Act.put, List.setIfInBounds_toArray, List.set_cons_zero, List.set_cons_succ]
        refine wpAnyH_take (i := 5) (oi := { dst := some 35, op := Go.Op.move (Go.Operand.tmp 4), type := 26, pos := "law.go:130", after := #[{ on := 2, ground := Go.Ground.guard }], guard := some (2, false) }) (v := .slice ao3 n3 cap3) rfl (by kernel_rfl) (by kernel_rfl) (by kernel_rfl) (fun _ _ _ h => h) (Or.inl ⟨by kernel_rfl, ?_⟩) hHeld ?_
        · intro W hW
          clear hW
          go_simp
        simp only [Act.put, List.setIfInBounds_toArray, List.set_cons_zero, List.set_cons_succ]
        refine wpAnyH_take (i := 6) (oi := { dst := some 36, op := Go.Op.call { callee := Go.Callee.builtin Go.Builtin.len, args := #[Go.Operand.tmp 35], argTypes := #[26] }, type := 3, pos := "law.go:130", after := #[{ on := 5, ground := Go.Ground.data }, { on := 2, ground := Go.Ground.guard }], guard := some (2, false) }) (v := .int .i64 (n3 : Int)) rfl (by kernel_rfl) (by kernel_rfl) (by kernel_rfl) (fun _ _ _ h => h) (Or.inl ⟨by kernel_rfl, ?_⟩) hHeld ?_
        · intro W hW
          clear hW
          go_simp
        simp only [Act.put, List.setIfInBounds_toArray, List.set_cons_zero, List.set_cons_succ]
        refine wpAnyH_ready (rs := [4]) (by kernel_rfl) (by simp) ?_
        refine AllReadyH.cons (o := { dst := some 34, op := Go.Op.call { callee := Go.Callee.value (Go.Operand.func 10), args := #[Go.Operand.tmp 33], argTypes := #[24] }, type := 3, pos := "law.go:130", after := #[{ on := 3, ground := Go.Ground.data }, { on := 2, ground := Go.Ground.chain }, { on := 2, ground := Go.Ground.guard }], guard := some (2, false) }) rfl (fun K0 hK0 => ?_) AllReadyH.nil
        rw [if_pos (by kernel_rfl)]
        go_wp2_with fail
        refine (wlen_c F3 g (ys ++ wb) w3.drew hW3d.out).mono ?_
        rintro e w' ⟨rfl, rfl⟩
        rw [hlen3'.out]
        refine hK0.out _ _ ((Qt.drew w3).below _) (fun hHeld => ?_)
        clear hK0 K0
        try simp only [Act.put, List.setIfInBounds_toArray, List.set_cons_zero, List.set_cons_succ]
        refine wpAnyH_take (i := 7) (oi := { dst := some 37, op := Go.Op.binOp Go.BinOp.neq 3 (Go.Operand.tmp 34) (Go.Operand.tmp 36) 3, type := 4, pos := "law.go:130", after := #[{ on := 4, ground := Go.Ground.data }, { on := 6, ground := Go.Ground.data }, { on := 2, ground := Go.Ground.guard }], guard := some (2, false) }) (v := .bool false) rfl (by kernel_rfl) (by kernel_rfl) (by kernel_rfl) (fun _ _ _ h => h) (Or.inl ⟨by kernel_rfl, ?_⟩) hHeld ?_
        · intro W hW
          clear hW
          go_simp
        simp only [Act.put, List.setIfInBounds_toArray, List.set_cons_zero, List.set_cons_succ]
        refine wpAnyH_take (i := 8) (oi := { dst := some 38, op := Go.Op.pick (Go.Operand.tmp 32) (Go.Operand.const (Go.Value.bool true)) (Go.Operand.tmp 37), type := 4, pos := "law.go:130", after := #[{ on := 2, ground := Go.Ground.data }, { on := 7, ground := Go.Ground.data }], guard := none }) (v := .bool false) rfl (by kernel_rfl) (by kernel_rfl) (by kernel_rfl) (fun _ _ _ h => h) (Or.inl ⟨by kernel_rfl, ?_⟩) hHeld ?_
        · intro W hW
          clear hW
          go_simp
        simp only [Act.put, List.setIfInBounds_toArray, List.set_cons_zero, List.set_cons_succ]
        refine wpAnyH_take (i := 9) (oi := { dst := some 39, op := Go.Op.move (Go.Operand.tmp 38), type := 4, pos := "law.go:130", after := #[{ on := 8, ground := Go.Ground.data }, { on := 4, ground := Go.Ground.chain }], guard := none }) (v := .bool false) rfl (by kernel_rfl) (by kernel_rfl) (by kernel_rfl) (fun _ _ _ h => h) (Or.inl ⟨by kernel_rfl, ?_⟩) hHeld ?_
        · intro W hW
          clear hW
          go_simp
        simp only [Act.put, List.setIfInBounds_toArray, List.set_cons_zero, List.set_cons_succ]
        refine wpAnyH_take (i := 10) (oi := { dst := some 40, op := Go.Op.fieldAddr 30 (Go.Operand.tmp 6) 0, type := 0, pos := "law.go:130", after := #[{ on := 9, ground := Go.Ground.guard }], guard := some (9, false) }) (v := .pointer (some ⟨wr.heap.size, 0, none⟩)) rfl (by kernel_rfl) (by kernel_rfl) (by kernel_rfl) (fun _ _ _ h => h) (Or.inl ⟨by kernel_rfl, ?_⟩) hHeld ?_
        · intro W hW
          clear hW
          go_simp
        simp only [Act.put, List.setIfInBounds_toArray, List.set_cons_zero, List.set_cons_succ]
        refine wpAnyH_take (i := 11) (oi := { dst := some 41, op := Go.Op.load 3 (Go.Operand.tmp 40), type := 3, pos := "law.go:130", after := #[{ on := 10, ground := Go.Ground.data }, { on := 9, ground := Go.Ground.guard }], guard := some (9, false) }) (v := .int .i64 k) rfl (by kernel_rfl) (by kernel_rfl) (by kernel_rfl) (fun _ _ _ h => h) (Or.inl ⟨by kernel_rfl, ?_⟩) hHeld ?_
        · intro W hW
          have c9 := (hW.out.cell (p := ⟨wr.heap.size, 0, none⟩) hbl.out).trans hb0
          clear hW
          go_simp
        simp only [Act.put, List.setIfInBounds_toArray, List.set_cons_zero, List.set_cons_succ]
        refine wpAnyH_take (i := 12) (oi := { dst := some 42, op := Go.Op.binOp Go.BinOp.eql 3 (Go.Operand.tmp 41) (Go.Operand.const (Go.Value.int Go.IntKind.i64 9)) 3, type := 4, pos := "law.go:130", after := #[{ on := 11, ground := Go.Ground.data }, { on := 9, ground := Go.Ground.guard }], guard := some (9, false) }) (v := .bool false) rfl (by kernel_rfl) (by kernel_rfl) (by kernel_rfl) (fun _ _ _ h => h) (Or.inl ⟨by kernel_rfl, ?_⟩) hHeld ?_
        · intro W hW
          clear hW
          go_simp
        simp only [Act.put, List.setIfInBounds_toArray, List.set_cons_zero, List.set_cons_succ]
        refine wpAnyH_take (i := 13) (oi := { dst := some 43, op := Go.Op.move (Go.Operand.tmp 42), type := 4, pos := "law.go:130", after := #[{ on := 12, ground := Go.Ground.data }, { on := 9, ground := Go.Ground.chain }, { on := 9, ground := Go.Ground.guard }], guard := some (9, false) }) (v := .bool false) rfl (by kernel_rfl) (by kernel_rfl) (by kernel_rfl) (fun _ _ _ h => h) (Or.inl ⟨by kernel_rfl, ?_⟩) hHeld ?_
        · intro W hW
          clear hW
          go_simp
        simp only [Act.put, List.setIfInBounds_toArray, List.set_cons_zero, List.set_cons_succ]
        refine wpAnyH_take (i := 14) (oi := { dst := some 44, op := Go.Op.move (Go.Operand.tmp 3), type := 24, pos := "law.go:130", after := #[{ on := 13, ground := Go.Ground.guard }], guard := some (13, true) }) (v := undef) rfl (by kernel_rfl) (by kernel_rfl) (by kernel_rfl) (fun _ _ _ h => h) (Or.inr ⟨by kernel_rfl, rfl⟩) hHeld ?_
        simp only [Act.put, List.setIfInBounds_toArray, List.set_cons_zero, List.set_cons_succ]
        refine wpAnyH_take (i := 15) (oi := { dst := some 45, op := Go.Op.call { callee := Go.Callee.value (Go.Operand.func 11), args := #[Go.Operand.tmp 44], argTypes := #[24] }, type := 26, pos := "law.go:130", after := #[{ on := 14, ground := Go.Ground.data }, { on := 13, ground := Go.Ground.chain }, { on := 13, ground := Go.Ground.guard }], guard := some (13, true) }) (v := undef) rfl (by kernel_rfl) (by kernel_rfl) (by kernel_rfl) (fun _ _ _ h => h) (Or.inr ⟨by kernel_rfl, rfl⟩) hHeld ?_
        simp only [Act.put, List.setIfInBounds_toArray, List.set_cons_zero, List.set_cons_succ]
        refine wpAnyH_take (i := 16) (oi := { dst := some 46, op := Go.Op.convert 26 9 (Go.Operand.tmp 45), type := 9, pos := "law.go:130", after := #[{ on := 15, ground := Go.Ground.data }, { on := 13, ground := Go.Ground.guard }], guard := some (13, true) }) (v := undef) rfl (by kernel_rfl) (by kernel_rfl) (by kernel_rfl) (fun _ _ _ h => h) (Or.inr ⟨by kernel_rfl, rfl⟩) hHeld ?_
        simp only [Act.put, List.setIfInBounds_toArray, List.set_cons_zero, List.set_cons_succ]
        refine wpAnyH_take (i := 17) (oi := { dst := some 47, op := Go.Op.move (Go.Operand.tmp 4), type := 26, pos := "law.go:130", after := #[{ on := 13, ground := Go.Ground.guard }], guard := some (13, true) }) (v := undef) rfl (by kernel_rfl) (by kernel_rfl) (by kernel_rfl) (fun _ _ _ h => h) (Or.inr ⟨by kernel_rfl, rfl⟩) hHeld ?_
        simp only [Act.put, List.setIfInBounds_toArray, List.set_cons_zero, List.set_cons_succ]
        refine wpAnyH_take (i := 18) (oi := { dst := some 48, op := Go.Op.convert 26 9 (Go.Operand.tmp 47), type := 9, pos := "law.go:130", after := #[{ on := 17, ground := Go.Ground.data }, { on := 13, ground := Go.Ground.guard }], guard := some (13, true) }) (v := undef) rfl (by kernel_rfl) (by kernel_rfl) (by kernel_rfl) (fun _ _ _ h => h) (Or.inr ⟨by kernel_rfl, rfl⟩) hHeld ?_
        simp only [Act.put, List.setIfInBounds_toArray, List.set_cons_zero, List.set_cons_succ]
        refine wpAnyH_take (i := 19) (oi := { dst := some 49, op := Go.Op.binOp Go.BinOp.neq 9 (Go.Operand.tmp 46) (Go.Operand.tmp 48) 9, type := 4, pos := "law.go:130", after := #[{ on := 16, ground := Go.Ground.data }, { on := 18, ground := Go.Ground.data }, { on := 13, ground := Go.Ground.guard }], guard := some (13, true) }) (v := undef) rfl (by kernel_rfl) (by kernel_rfl) (by kernel_rfl) (fun _ _ _ h => h) (Or.inr ⟨by kernel_rfl, rfl⟩) hHeld ?_
        simp only [Act.put, List.setIfInBounds_toArray, List.set_cons_zero, List.set_cons_succ]
        refine wpAnyH_take (i := 20) (oi := { dst := some 50, op := Go.Op.pick (Go.Operand.tmp 43) (Go.Operand.tmp 49) (Go.Operand.const (Go.Value.bool false)), type := 4, pos := "law.go:130", after := #[{ on := 13, ground := Go.Ground.data }, { on := 19, ground := Go.Ground.data }, { on := 9, ground := Go.Ground.guard }], guard := some (9, false) }) (v := .bool false) rfl (by kernel_rfl) (by kernel_rfl) (by kernel_rfl) (fun _ _ _ h => h) (Or.inl ⟨by kernel_rfl, ?_⟩) hHeld ?_
        · intro W hW
          clear hW
          go_simp
        simp only [Act.put, List.setIfInBounds_toArray, List.set_cons_zero, List.set_cons_succ]
        refine wpAnyH_take (i := 21) (oi := { dst := some 51, op := Go.Op.pick (Go.Operand.tmp 39) (Go.Operand.const (Go.Value.bool true)) (Go.Operand.tmp 50), type := 4, pos := "law.go:130", after := #[{ on := 9, ground := Go.Ground.data }, { on := 20, ground := Go.Ground.data }], guard := none }) (v := .bool false) rfl (by kernel_rfl) (by kernel_rfl) (by kernel_rfl) (fun _ _ _ h => h) (Or.inl ⟨by kernel_rfl, ?_⟩) hHeld ?_
        · intro W hW
          clear hW
          go_simp
        simp only [Act.put, List.setIfInBounds_toArray, List.set_cons_zero, List.set_cons_succ]
        refine wpAnyH_done (by kernel_rfl) ?_ _
        go_wp2_with fail
        go_roundg (gk - 1)
        case measure => omega
        case rel => exact ⟨i + 1, ys ++ wb, F3, by go_num, by omega, hW3d, OwB.qt hO3.out (Qt.drew w3), hN3, hB3.out.trans ((Qt.drew w3).below _), hF3, hL3, hY3⟩
    · have hlt' : decide ((i : Int) < (m : Int)) = false := decide_eq_false (by omega)
      have hcv : Hid (∀ W, Below wr.heap.size wr W → (convert 26 9 u4).run Tryd.prog W = .ok (.string (mkS ys)) W) := fun W hW => conv_src (hO.out.src.below hW) hY.out
      have hWd : Hid (Wr F wr.drew g ys) := hW.out.qt (Qt.drew wr)
      have hL4 : Hid (ys.length ≤ 140737488355328) := by show _ ≤ _; have := hL.out; omega
      obtain ⟨n3, ao3, cap3, rfl, hlen3⟩ := hO.out.slice
      go_wp2_with fail
      refine wp_region_held_drew (S := fun W => Hid (Below wr.heap.size wr W)) (by kernel_rfl) ((Qt.drew wr).below _) (fun hHeld => ?_)
      refine wpAnyH_take (i := 0) (oi := { dst := some 53, op := Go.Op.move (Go.Operand.tmp 3), type := 24, pos := "law.go:134", after := #[], guard := none }) (v := .pointer (some ⟨g, 0, none⟩)) rfl (by kernel_rfl) (by kernel_rfl) (by kernel_rfl) (fun _ _ _ h => h) (Or.inl ⟨by kernel_rfl, ?_⟩) hHeld ?_
      · intro W hW
        clear hW
        go_simp
      simp only [Act.put, List.setIfInBounds_toArray, List.set_cons_zero, List.set_cons_succ]
      refine wpAnyH_take (i := 3) (oi := { dst := some 56, op := Go.Op.move (Go.Operand.tmp 4), type := 26, pos := "law.go:134", after := #[], guard := none }) (v := .slice ao3 n3 cap3) rfl (by kernel_rfl) (by kernel_rfl) (by kernel_rfl) (fun _ _ _ h => h) (Or.inl ⟨by kernel_rfl, ?_⟩) hHeld ?_
      · intro W hW
        clear hW
        go_simp
      simp only [Act.put, List.setIfInBounds_toArray, List.set_cons_zero, List.set_cons_succ]
      refine wpAnyH_take (i := 4) (oi := { dst := some 57, op := Go.Op.convert 26 9 (Go.Operand.tmp 56), type := 9, pos := "law.go:134", after := #[{ on := 3, ground := Go.Ground.data }], guard := none }) (v := .string (mkS ys)) rfl (by kernel_rfl) (by kernel_rfl) (by kernel_rfl) (fun _ _ _ h => h) (Or.inl ⟨by kernel_rfl, ?_⟩) hHeld ?_
      · intro W hW
        have c9 := hcv.out W hW.out
        clear hW
        go_simp
      simp only [Act.put, List.setIfInBounds_toArray, List.set_cons_zero, List.set_cons_succ]
      refine wpAnyH_ready (rs := [1]) (by kernel_rfl) (by simp) ?_
      refine AllReadyH.cons (o := { dst := some 54, op := Go.Op.call { callee := Go.Callee.value (Go.Operand.func 11), args := #[Go.Operand.tmp 53], argTypes := #[24] }, type := 26, pos := "law.go:134", after := #[{ on := 0, ground := Go.Ground.data }], guard := none }) rfl (fun K0 hK0 => ?_) AllReadyH.nil
      rw [if_pos (by kernel_rfl)]
      go_wp2_with fail
      refine (wout_c F g ys wr.drew hWd.out hL4.out).mono ?_
      rintro e w8 ⟨v8, rfl, hn8⟩
      have c8 := conv_src hn8.own.src hY.out
      have b8 : Hid (Below wr.heap.size wr w8) := ((Qt.drew wr).below _).trans hn8.below
      clear hn8
      refine hK0.out _ _ b8 (fun hHeld => ?_)
      clear hK0 K0
      try simp only [Act.put, List.setIfInBounds_toArray, List.set_cons_zero, List.set_cons_succ]
      refine wpAnyH_ready (rs := [2]) (by kernel_rfl) (by simp) ?_
      refine AllReadyH.cons (o := { dst := some 55, op := Go.Op.convert 26 9 (Go.Operand.tmp 54), type := 9, pos := "law.go:134", after := #[{ on := 1, ground := Go.Ground.data }], guard := none }) rfl (fun K0 hK0 => ?_) AllReadyH.nil
      rw [if_pos (by kernel_rfl)]
      go_wp2_with fail
      refine hK0.out _ _ hHeld (fun hHeld => ?_)
      clear hK0 K0
      try simp only [Act.put, List.setIfInBounds_toArray, List.set_cons_zero, List.set_cons_succ]
      clear c8
      refine wpAnyH_take (i := 5) (oi := { dst := some 58, op := Go.Op.binOp Go.BinOp.eql 9 (Go.Operand.tmp 55) (Go.Operand.tmp 57) 9, type := 4, pos := "law.go:134", after := #[{ on := 2, ground := Go.Ground.data }, { on := 4, ground := Go.Ground.data }], guard := none }) (v := .bool true) rfl (by kernel_rfl) (by kernel_rfl) (by kernel_rfl) (fun _ _ _ h => h) (Or.inl ⟨by kernel_rfl, ?_⟩) hHeld ?_
      · intro W hW
        clear hW
        go_simp
      simp only [Act.put, List.setIfInBounds_toArray, List.set_cons_zero, List.set_cons_succ]
      refine wpAnyH_take (i := 6) (oi := { dst := some 2, op := Go.Op.assign (Go.Operand.tmp 58), type := 4, pos := "law.go:134", after := #[{ on := 5, ground := Go.Ground.data }, { on := 1, ground := Go.Ground.chain }, { on := 0, ground := Go.Ground.phase }, { on := 1, ground := Go.Ground.phase }, { on := 2, ground := Go.Ground.phase }, { on := 3, ground := Go.Ground.phase }, { on := 4, ground := Go.Ground.phase }, { on := 5, ground := Go.Ground.phase }], guard := none }) (v := .bool true) rfl (by kernel_rfl) (by kernel_rfl) (by kernel_rfl) (fun _ _ _ h => h) (Or.inl ⟨by kernel_rfl, ?_⟩) hHeld ?_
      · intro W hW
        clear hW
        go_simp
      simp only [Act.put, List.setIfInBounds_toArray, List.set_cons_zero, List.set_cons_succ]
      refine wpAnyH_done (by kernel_rfl) ?_ _
      go_wp2_with fail
      go_ret
      exact ⟨rfl, hB.out.trans (b8.out.mono hB.out.size)⟩
end Go.Proofs.YtjckgcjcpmnhhaaDoor
