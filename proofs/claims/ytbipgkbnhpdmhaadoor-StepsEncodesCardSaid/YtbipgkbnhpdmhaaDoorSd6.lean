/-
  timbreref15: fields.
-/
import Derived.Test.YtbipgkbnhpdmhaaDoorSd3
import Derived.Test.YtbipgkbnhpdmhaaDoorIln
import Derived.Test.YtbipgkbnhpdmhaaDoorApf
import Derived.Test.YtbipgkbnhpdmhaaDoorSp8
namespace Go.Proofs.YtbipgkbnhpdmhaaDoor
open Flo Go.RowKit
/-- one number more -/
theorem appI1 {ops : Array Oper} {rest : List Oper} {o : Oper} {a : Act} {Q : Exit → Act → World → Prop} (w : World) (hgd : o.guard = none) (sl x : Operand)
    (ho : o.op = .call { callee := .builtin .append, args := #[sl, x], argTypes := #[81, 81] })
    (B : Nat) (zs : List Nat) (z q : Nat) (v : Value) (hs : a.eval sl = v) (hx : a.eval x = .slice (some ⟨q, 0, none⟩) 1 1) (hrow : w.ownsRow B 3 1 v zs.length (il zs))
    (hcell : w.cell? ⟨q, 0, none⟩ = some (.int .i64 (z : Int))) (hk : zs.length ≤ 1000) (hB : B ≤ w.heap.size)
    (h : ∀ v' w', w'.ownsRow B 3 1 v' (zs ++ [z]).length (il (zs ++ [z])) → w.grownBy w' v.ownBlock → (∀ b, v'.ownBlock = some b → v.ownBlock = some b ∨ w.heap.size ≤ b) → wpList Tryd.prog ops Q rest (a.put o.dst v') w') : wpList Tryd.prog ops Q (o :: rest) a w := by
  obtain ⟨i0, hi0, hz0, hz1, hz2⟩ := info_parts infoInt
  refine wpList_append_fr w hgd sl x 81 ho B 3 i0 (.int .i64 0) 1 8 Tryd.underlying81 hi0 hz0 hz1 hz2 rfl (by decide) v zs.length _ hs hrow ⟨q, 0, none⟩ 1 1 [.int .i64 (z : Int)] hx rfl ?_ ?_ ?_ ?_ hB ?_
  · intro j u hj
    match j, hj with
    | 0, hj => simp at hj; subst hj; simpa [Addr.add] using hcell
  · intro u hu; simp at hu; subst hu; rfl
  · unfold maxLen; omega
  · omega
  · intro v' w1 hown' hgrow hfr
    refine h v' w1 ?_ hgrow hfr
    rw [il_snoc, List.length_append]
    exact hown'
theorem CutF.fr {S : Nat → Prop} {w wx wy : World} {g o : Nat} {op dst src jump count n k : Int} (h : CutF w wx g o op dst src jump count n k) (hf : Fr S wx wy) (h1 : ¬ S w.heap.size) (h2 : ¬ S g) (hS : ∀ k, S k → w.heap.size ≤ k) : CutF w wy g o op dst src jump count n k :=
  ⟨⟨hf.cell h.st.c0 h1, hf.cell h.st.c1 h1, hf.cell h.st.c2 h1, hf.cell h.st.c3 h1, hf.cell h.st.c4 h1, hf.cell h.st.c5 h1, hf.cell h.st.c6 h1⟩, hf.cell h.c1 h2, hf.cell h.c2 h2, hf.cell h.c3 h2, hf.cell h.c4 h2, hf.below h.be h.be.size fun k _ hk => hS k hk⟩
/-- the memory of fields -/
structure FSt (w wx : World) (g B o : Nat) (op dst src jump count n k : Int) (v : Value) (zs : List Nat) : Prop where
  cf : CutF w wx g o op dst src jump count n k
  ow : wx.ownsRow B 3 1 v zs.length (il zs)
  gb : g < B ∧ w.heap.size < B ∧ B ≤ wx.heap.size
section
variable {w wx wy : World} {g B o : Nat} {op dst src jump count n k : Int} {v : Value} {zs : List Nat}
theorem FSt.new (h : FSt w wx g B o op dst src jump count n k v zs) (ob : Obj) : FSt w (wx.alloc ob) g B o op dst src jump count n k v zs :=
  ⟨h.cf.fr (S := fun _ => False) ((Fr.refl _ wx).alloc ob) id id fun _ h => h.elim, World.ownsRow.alloc h.ow ob, ⟨h.gb.1, h.gb.2.1, by simp; have := h.gb.2.2; omega⟩⟩
theorem FSt.push (h : FSt w wx g B o op dst src jump count n k v zs) {v' : Value} {zs' : List Nat} (ho : wy.ownsRow B 3 1 v' zs'.length (il zs')) (hg : wx.grownBy wy v.ownBlock) : FSt w wy g B o op dst src jump count n k v' zs' := by
  have f1 : Fr (fun k => v.ownBlock = some k) wx wy := (Fr.refl _ wx).grown hg fun _ hk => hk
  have hr : ∀ b, v.ownBlock = some b → B ≤ b := fun b hb => (World.ownsRow.lt h.ow b hb).1
  have hb := h.gb
  exact ⟨h.cf.fr f1 (fun e => by have := hr _ e; omega) (fun e => by have := hr _ e; omega) fun k hk => by have := hr k hk; omega, ho, ⟨hb.1, hb.2.1, Nat.le_trans hb.2.2 hg.size⟩⟩
end
/-- what fields gives -/
def FiE (zs : List Nat) (w : World) (e : Ending) (w' : World) : Prop := ∃ v, e = .returned v ∧ w'.ownsRow w.heap.size 3 1 v zs.length (il zs) ∧ Below w.heap.size w w'
theorem fl_eq (O D S J C N K : Nat) : Sp.fl ⟨O, D, S, J, C, N, K⟩ = ((([O, D] ++ (bif Sp.hs O then [S] else [])) ++ (bif Sp.hj O then [J] else [])) ++ [C]) ++ (bif Sp.hn O then [N] else []) ++ (bif Sp.hk O then [K] else []) := by
  simp [Sp.fl, Sp.hl, Sp.nl, Sp.pr]
set_option maxHeartbeats 16000000 in
set_option maxRecDepth 100000 in
theorem dfields_c (o D S J C N K : Nat) (ho : o < 12) (w : World) :
    Calls Tryd.prog 41 #[sva o D S J C N K] w fun e w' => FiE (Sp.fl ⟨o, D, S, J, C, N, K⟩) w e w' := by
  obtain ⟨dst, hdst⟩ : ∃ z : Int, Hid ((D : Int) = z) := ⟨_, (rfl : _ = _)⟩
  obtain ⟨src, hsrc⟩ : ∃ z : Int, Hid ((S : Int) = z) := ⟨_, (rfl : _ = _)⟩
  obtain ⟨jump, hjump⟩ : ∃ z : Int, Hid ((J : Int) = z) := ⟨_, (rfl : _ = _)⟩
  obtain ⟨count, hcount⟩ : ∃ z : Int, Hid ((C : Int) = z) := ⟨_, (rfl : _ = _)⟩
  obtain ⟨n, hnn⟩ : ∃ z : Int, Hid ((N : Int) = z) := ⟨_, (rfl : _ = _)⟩
  obtain ⟨k, hkk⟩ : ∃ z : Int, Hid ((K : Int) = z) := ⟨_, (rfl : _ = _)⟩
  obtain ⟨zs, hzs⟩ : ∃ zs, Hid (Sp.fl ⟨o, D, S, J, C, N, K⟩ = zs) := ⟨_, (rfl : _ = _)⟩
  rw [hzs.out, hdst.out, hsrc.out, hjump.out, hcount.out, hnn.out, hkk.out]
  obtain ⟨w1, ewa⟩ : ∃ wa, Hid (w.alloc (.cells #[.int .i64 (o : Int), .int .i64 dst, .int .i64 src, .int .i64 jump, .int .i64 count, .int .i64 n, .int .i64 k] 30) = wa) := ⟨_, (rfl : _ = _)⟩
  have hB1 : Hid (Below w.heap.size w w1) := by rw [← ewa.out]; exact (Below.refl _ _).alloc (Nat.le_refl _) _
  have XH : Hid (Bst w1 w.heap.size o dst src jump count n k) := by show Bst _ _ _ _ _ _ _ _ _; rw [← ewa.out]; exact Bst.new w o dst src jump count n k
  have q4 : o < 12 := ho
  have q3 : (o : Int) < 12 := by omega
  unfold sva
  go_enter Tryd.func41, Tryd.ntmps41
  go_upto_region 1 with fail
  rw [ewa.out]
  obtain ⟨y0, y1, y2, y3, y4, y5, y6⟩ := XH.out
  go_cut [3] (fun r wx => ∃ g : Nat, r = .pointer (some ⟨g, 0, none⟩) ∧ w.heap.size ≤ g ∧ g < wx.heap.size ∧ Hid (CutF w wx g o o dst src jump count n k))
  case first =>
    have yd0 : ∀ X, (w1.alloc X).cell? ⟨w.heap.size, 0, none⟩ = some (.int .i64 (o : Int)) := fun X => cell_alloc y0 X
    first
    | (go_region_with (first
        | (go_at_call 28
           refine (rows2_c w1.drew).mono ?_
           rintro e w5 ⟨rfl, R5, B5⟩
           have R6 : Rws w5 w1.heap.size := R5
           obtain ⟨z0, z1, z2, z3, z4⟩ := R6 o q4
           clear R6
           have zz0 := fun X => cell_alloc z0 X
           have zz1 := fun X => cell_alloc z1 X
           have zz2 := fun X => cell_alloc z2 X
           have zz3 := fun X => cell_alloc z3 X
           have zz4 := fun X => cell_alloc z4 X
           have B6 : Below w1.heap.size w1 w5 := (Below.refl _ _).drew.trans B5
           have B7 : Hid (Below w1.heap.size w1 w5) := B6
           obtain ⟨y0, y1, y2, y3, y4, y5, y6⟩ := XH.out.below B6
           have yy0 := fun X => cell_alloc y0 X
           clear B5 B6 R5)
        | (go_at_call 28
           refine (rows2_c (w1.alloc (.cells #[.string ⟨#[]⟩, .bool false, .bool false, .bool false, .bool false] 65)).drew).mono ?_
           rintro e w5 ⟨rfl, R5, B5⟩
           have R6 : Rws w5 (w1.heap.size + 1) := by simpa [World.drew] using R5
           obtain ⟨z0, z1, z2, z3, z4⟩ := R6 o q4
           clear R6
           have B6 : Below w1.heap.size w1 w5 := ((Below.refl _ _).alloc (Nat.le_refl _) _).drew.trans (B5.mono (by simp [World.drew]))
           have B7 : Hid (Below w1.heap.size w1 w5) := B6
           obtain ⟨y0, y1, y2, y3, y4, y5, y6⟩ := XH.out.below B6
           have B8 : Hid (Below (w1.alloc (.cells #[.string ⟨#[]⟩, .bool false, .bool false, .bool false, .bool false] 65)).drew.heap.size (w1.alloc (.cells #[.string ⟨#[]⟩, .bool false, .bool false, .bool false, .bool false] 65)).drew w5) := B5
           have x0 := (B5.cell (p := ⟨w1.heap.size, 0, none⟩) (by simp [World.drew])).trans (by simp : (w1.alloc (.cells #[.string ⟨#[]⟩, .bool false, .bool false, .bool false, .bool false] 65)).drew.cell? ⟨w1.heap.size, 0, none⟩ = some (.string ⟨#[]⟩))
           have x1 := (B5.cell (p := ⟨w1.heap.size, 1, none⟩) (by simp [World.drew])).trans (by simp : (w1.alloc (.cells #[.string ⟨#[]⟩, .bool false, .bool false, .bool false, .bool false] 65)).drew.cell? ⟨w1.heap.size, 1, none⟩ = some (.bool false))
           have x2 := (B5.cell (p := ⟨w1.heap.size, 2, none⟩) (by simp [World.drew])).trans (by simp : (w1.alloc (.cells #[.string ⟨#[]⟩, .bool false, .bool false, .bool false, .bool false] 65)).drew.cell? ⟨w1.heap.size, 2, none⟩ = some (.bool false))
           have x3 := (B5.cell (p := ⟨w1.heap.size, 3, none⟩) (by simp [World.drew])).trans (by simp : (w1.alloc (.cells #[.string ⟨#[]⟩, .bool false, .bool false, .bool false, .bool false] 65)).drew.cell? ⟨w1.heap.size, 3, none⟩ = some (.bool false))
           have x4 := (B5.cell (p := ⟨w1.heap.size, 4, none⟩) (by simp [World.drew])).trans (by simp : (w1.alloc (.cells #[.string ⟨#[]⟩, .bool false, .bool false, .bool false, .bool false] 65)).drew.cell? ⟨w1.heap.size, 4, none⟩ = some (.bool false))
           have f0 : w5.frozen? ⟨w1.heap.size, 0, none⟩ = false := (World.frozen?_of_block (a := ⟨w1.heap.size, 0, none⟩) (B5.block w1.heap.size (by simp [World.drew]))).trans (by simp : (w1.alloc (.cells #[.string ⟨#[]⟩, .bool false, .bool false, .bool false, .bool false] 65)).drew.frozen? ⟨w1.heap.size, 0, none⟩ = false)
           have f1 : w5.frozen? ⟨w1.heap.size, 1, none⟩ = false := (World.frozen?_of_block (a := ⟨w1.heap.size, 1, none⟩) (B5.block w1.heap.size (by simp [World.drew]))).trans (by simp : (w1.alloc (.cells #[.string ⟨#[]⟩, .bool false, .bool false, .bool false, .bool false] 65)).drew.frozen? ⟨w1.heap.size, 1, none⟩ = false)
           have f2 : w5.frozen? ⟨w1.heap.size, 2, none⟩ = false := (World.frozen?_of_block (a := ⟨w1.heap.size, 2, none⟩) (B5.block w1.heap.size (by simp [World.drew]))).trans (by simp : (w1.alloc (.cells #[.string ⟨#[]⟩, .bool false, .bool false, .bool false, .bool false] 65)).drew.frozen? ⟨w1.heap.size, 2, none⟩ = false)
           have f3 : w5.frozen? ⟨w1.heap.size, 3, none⟩ = false := (World.frozen?_of_block (a := ⟨w1.heap.size, 3, none⟩) (B5.block w1.heap.size (by simp [World.drew]))).trans (by simp : (w1.alloc (.cells #[.string ⟨#[]⟩, .bool false, .bool false, .bool false, .bool false] 65)).drew.frozen? ⟨w1.heap.size, 3, none⟩ = false)
           have f4 : w5.frozen? ⟨w1.heap.size, 4, none⟩ = false := (World.frozen?_of_block (a := ⟨w1.heap.size, 4, none⟩) (B5.block w1.heap.size (by simp [World.drew]))).trans (by simp : (w1.alloc (.cells #[.string ⟨#[]⟩, .bool false, .bool false, .bool false, .bool false] 65)).drew.frozen? ⟨w1.heap.size, 4, none⟩ = false)
           clear B5 B6 R5)))
    | fail
    all_goals (
      go_wp2_with fail
      go_meet
      case rel =>
        refine ⟨_, rfl, ?_, ?_, ?_⟩
        rotate_left 2
        first
        | with_reducible exact cutF_new XH B7 hB1
        | with_reducible exact cutF_set XH B7 hB1 x1 x2 x3 x4
        · have h1 := hB1.out.size
          have h2 := B7.out.size
          omega
        · first
          | (simp; done)
          | (have h1 := cell_lt x1; simp only at h1; simpa using h1))
  case rest =>
    obtain ⟨g, rfl, hgw, hgx, hC⟩ := hcut
    clear y0 y1 y2 y3 y4 y5 y6 hB1 XH ewa
    obtain ⟨B, hBB⟩ : ∃ B, Hid (wc.heap.size = B) := ⟨_, (rfl : _ = _)⟩
    obtain ⟨wd, ewd⟩ : ∃ wd, Hid (wc.alloc (.cells #[.int .i64 (o : Int), .int .i64 dst] 3) = wd) := ⟨_, (rfl : _ = _)⟩
    have hS0 : Hid (FSt w wd g B o o dst src jump count n k (.slice (some ⟨B, 0, none⟩) 2 2) [o, D]) := by
      show FSt _ _ _ _ _ _ _ _ _ _ _ _ _ _
      rw [← ewd.out]
      refine ⟨hC.out.fr (S := fun _ => False) ((Fr.refl _ wc).alloc _) id id fun _ h => h.elim, ?_, ⟨by rw [← hBB.out]; exact hgx, ?_, by rw [← hBB.out]; simp⟩⟩
      · rw [← hBB.out, ← hdst.out]
        exact ⟨rfl, .inr ⟨wc.heap.size, 2, #[.int .i64 (o : Int), .int .i64 (D : Int)], rfl, Nat.le_refl _, heap_alloc_new wc _, Nat.le_refl _, by decide, rfl, rfl⟩⟩
      · rw [← hBB.out]; exact Nat.lt_of_le_of_lt hgw hgx
    obtain ⟨y0, y1, y2, y3, y4, y5, y6⟩ := hC.out.st
    go_upto_region 3 with fail
    rw [ewd.out, hBB.out]
    clear y0 y1 y2 y3 y4 y5 y6 hC
    obtain ⟨v0, hv0⟩ : ∃ v0, Hid (Value.slice (some ⟨B, 0, none⟩) 2 2 = v0) := ⟨_, (rfl : _ = _)⟩
    rw [hv0.out] at hS0 ⊢
    have hl0 : Hid (([o, D]).length ≤ 2) := Nat.le_refl 2
    obtain ⟨L0, hL0⟩ : ∃ L, Hid ([o, D] = L) := ⟨_, (rfl : _ = _)⟩
    rw [hL0.out] at hS0 hl0
    obtain ⟨f1, hf1⟩ : ∃ f, Hid (Sp.hs o = f) := ⟨_, (rfl : _ = _)⟩
    have zc1 := hS0.out.cf.c1
    rw [hf1.out] at zc1
    obtain ⟨y0, y1, y2, y3, y4, y5, y6⟩ := hS0.out.cf.st
    skip
    go_cut [16] (fun r wx => r = .bool f1 ∧ wx = wd)
    case first =>
      go_wp2_with fail
      go_meet
      case rel => exact ⟨rfl, rfl⟩
    case rest =>
      obtain ⟨rfl, rfl⟩ := hcut
      go_upto_if 16 with fail
      obtain ⟨L1, hL1⟩ : ∃ L, Hid (L0 ++ (bif f1 then [S] else []) = L) := ⟨_, (rfl : _ = _)⟩
      have hl1 : Hid (L1.length ≤ 3) := by
        have h9 := hl0.out
        show L1.length ≤ _
        rw [← hL1.out]
        cases f1 <;> simp <;> omega
      go_cut [4] (fun u wx => Hid (FSt w wx g B o o dst src jump count n k u L1))
      case first =>
        cases f1 with
        | false =>
          have e9 : L0 = L1 := by have := hL1.out; simpa using this
          rw [e9] at hS0
          clear e9
          go_wp2_with fail
          go_meet
          case rel => exact hS0
        | true =>
          have e9 : L0 ++ [S] = L1 := hL1.out
          have hN : Hid (∀ ob, FSt w (wc.alloc ob) g B o o dst src jump count n k v0 L0) := fun ob => hS0.out.new ob
          have hcl : Hid ((wc.alloc (.cells #[.int .i64 src] 3)).cell? ⟨wc.heap.size, 0, none⟩ = some (.int .i64 (S : Int))) := by rw [hsrc.out]; simp [Hid]
          have hkl : Hid (L0.length ≤ 1000) := Nat.le_trans hl0.out (by decide)
          go_wp2_with (first | (at_builtin; refine appI1 _ rfl _ _ rfl B L0 S wc.heap.size v0 rfl rfl (hN.out _).ow hcl.out hkl.out (hN.out _).gb.2.2 ?_) | fail)
          intro v' w' ho' hg' _
          have hS' := (hN.out _).push ho' hg'
          try rw [e9] at hS'
          have hSH : Hid (FSt w w' g B o o dst src jump count n k v' L1) := hS'
          clear ho' hg' hS'
          go_wp2_with fail
          go_meet
          case rel => exact hSH
      case rest =>
        clear zc1 y0 y1 y2 y3 y4 y5 y6 hS0
        have hS1 := hcut
        clear hcut
        skip
        obtain ⟨f2, hf2⟩ : ∃ f, Hid (Sp.hj o = f) := ⟨_, (rfl : _ = _)⟩
        have zc2 := hS1.out.cf.c2
        rw [hf2.out] at zc2
        obtain ⟨y0, y1, y2, y3, y4, y5, y6⟩ := hS1.out.cf.st
        go_upto_region 5 with fail
        go_cut [23] (fun r wx => r = .bool f2 ∧ wx = wc)
        case first =>
          go_wp2_with fail
          go_meet
          case rel => exact ⟨rfl, rfl⟩
        case rest =>
          obtain ⟨rfl, rfl⟩ := hcut
          go_upto_if 23 with fail
          obtain ⟨L2, hL2⟩ : ∃ L, Hid (L1 ++ (bif f2 then [J] else []) = L) := ⟨_, (rfl : _ = _)⟩
          have hl2 : Hid (L2.length ≤ 4) := by
            have h9 := hl1.out
            show L2.length ≤ _
            rw [← hL2.out]
            cases f2 <;> simp <;> omega
          go_cut [4] (fun u wx => Hid (FSt w wx g B o o dst src jump count n k u L2))
          case first =>
            cases f2 with
            | false =>
              have e9 : L1 = L2 := by have := hL2.out; simpa using this
              rw [e9] at hS1
              clear e9
              go_wp2_with fail
              go_meet
              case rel => exact hS1
            | true =>
              have e9 : L1 ++ [J] = L2 := hL2.out
              have hN : Hid (∀ ob, FSt w (wc.alloc ob) g B o o dst src jump count n k u4 L1) := fun ob => hS1.out.new ob
              have hcl : Hid ((wc.alloc (.cells #[.int .i64 jump] 3)).cell? ⟨wc.heap.size, 0, none⟩ = some (.int .i64 (J : Int))) := by rw [hjump.out]; simp [Hid]
              have hkl : Hid (L1.length ≤ 1000) := Nat.le_trans hl1.out (by decide)
              go_wp2_with (first | (at_builtin; refine appI1 _ rfl _ _ rfl B L1 J wc.heap.size u4 rfl rfl (hN.out _).ow hcl.out hkl.out (hN.out _).gb.2.2 ?_) | fail)
              intro v' w' ho' hg' _
              have hS' := (hN.out _).push ho' hg'
              try rw [e9] at hS'
              have hSH : Hid (FSt w w' g B o o dst src jump count n k v' L2) := hS'
              clear ho' hg' hS'
              go_wp2_with fail
              go_meet
              case rel => exact hSH
          case rest =>
            clear zc2 y0 y1 y2 y3 y4 y5 y6 hS1
            have hS2 := hcut
            clear hcut
            skip
            obtain ⟨y0, y1, y2, y3, y4, y5, y6⟩ := hS2.out.cf.st
            go_upto_region 7 with fail
            obtain ⟨L3, hL3⟩ : ∃ L, Hid (L2 ++ [C] = L) := ⟨_, (rfl : _ = _)⟩
            have hl3 : Hid (L3.length ≤ 5) := by
              have h9 := hl2.out
              show L3.length ≤ _
              rw [← hL3.out]
              simp; omega
            go_cut [4] (fun u wx => Hid (FSt w wx g B o o dst src jump count n k u L3))
            case first =>
              have e9 : L2 ++ [C] = L3 := hL3.out
              have hN : Hid (∀ ob, FSt w (wc.alloc ob) g B o o dst src jump count n k u4 L2) := fun ob => hS2.out.new ob
              have hcl : Hid ((wc.alloc (.cells #[.int .i64 count] 3)).cell? ⟨wc.heap.size, 0, none⟩ = some (.int .i64 (C : Int))) := by rw [hcount.out]; simp [Hid]
              have hkl : Hid (L2.length ≤ 1000) := Nat.le_trans hl2.out (by decide)
              go_wp2_with (first | (at_builtin; refine appI1 _ rfl _ _ rfl B L2 C wc.heap.size u4 rfl rfl (hN.out _).ow hcl.out hkl.out (hN.out _).gb.2.2 ?_) | fail)
              intro v' w' ho' hg' _
              have hS' := (hN.out _).push ho' hg'
              try rw [e9] at hS'
              have hSH : Hid (FSt w w' g B o o dst src jump count n k v' L3) := hS'
              clear ho' hg' hS'
              go_wp2_with fail
              go_meet
              case rel => exact hSH
            case rest =>
              clear y0 y1 y2 y3 y4 y5 y6 hS2
              have hS3 := hcut
              clear hcut
              skip
              obtain ⟨f4, hf4⟩ : ∃ f, Hid (Sp.hn o = f) := ⟨_, (rfl : _ = _)⟩
              have zc3 := hS3.out.cf.c3
              rw [hf4.out] at zc3
              obtain ⟨y0, y1, y2, y3, y4, y5, y6⟩ := hS3.out.cf.st
              go_upto_region 8 with fail
              go_cut [35] (fun r wx => r = .bool f4 ∧ wx = wc)
              case first =>
                go_wp2_with fail
                go_meet
                case rel => exact ⟨rfl, rfl⟩
              case rest =>
                obtain ⟨rfl, rfl⟩ := hcut
                go_upto_if 35 with fail
                obtain ⟨L4, hL4⟩ : ∃ L, Hid (L3 ++ (bif f4 then [N] else []) = L) := ⟨_, (rfl : _ = _)⟩
                have hl4 : Hid (L4.length ≤ 6) := by
                  have h9 := hl3.out
                  show L4.length ≤ _
                  rw [← hL4.out]
                  cases f4 <;> simp <;> omega
                go_cut [4] (fun u wx => Hid (FSt w wx g B o o dst src jump count n k u L4))
                case first =>
                  cases f4 with
                  | false =>
                    have e9 : L3 = L4 := by have := hL4.out; simpa using this
                    rw [e9] at hS3
                    clear e9
                    go_wp2_with fail
                    go_meet
                    case rel => exact hS3
                  | true =>
                    have e9 : L3 ++ [N] = L4 := hL4.out
                    have hN : Hid (∀ ob, FSt w (wc.alloc ob) g B o o dst src jump count n k u4 L3) := fun ob => hS3.out.new ob
                    have hcl : Hid ((wc.alloc (.cells #[.int .i64 n] 3)).cell? ⟨wc.heap.size, 0, none⟩ = some (.int .i64 (N : Int))) := by rw [hnn.out]; simp [Hid]
                    have hkl : Hid (L3.length ≤ 1000) := Nat.le_trans hl3.out (by decide)
                    go_wp2_with (first | (at_builtin; refine appI1 _ rfl _ _ rfl B L3 N wc.heap.size u4 rfl rfl (hN.out _).ow hcl.out hkl.out (hN.out _).gb.2.2 ?_) | fail)
                    intro v' w' ho' hg' _
                    have hS' := (hN.out _).push ho' hg'
                    try rw [e9] at hS'
                    have hSH : Hid (FSt w w' g B o o dst src jump count n k v' L4) := hS'
                    clear ho' hg' hS'
                    go_wp2_with fail
                    go_meet
                    case rel => exact hSH
                case rest =>
                  clear zc3 y0 y1 y2 y3 y4 y5 y6 hS3
                  have hS4 := hcut
                  clear hcut
                  skip
                  obtain ⟨f5, hf5⟩ : ∃ f, Hid (Sp.hk o = f) := ⟨_, (rfl : _ = _)⟩
                  have zc4 := hS4.out.cf.c4
                  rw [hf5.out] at zc4
                  obtain ⟨y0, y1, y2, y3, y4, y5, y6⟩ := hS4.out.cf.st
                  go_upto_region 10 with fail
                  go_cut [42] (fun r wx => r = .bool f5 ∧ wx = wc)
                  case first =>
                    go_wp2_with fail
                    go_meet
                    case rel => exact ⟨rfl, rfl⟩
                  case rest =>
                    obtain ⟨rfl, rfl⟩ := hcut
                    go_upto_if 42 with fail
                    obtain ⟨L5, hL5⟩ : ∃ L, Hid (L4 ++ (bif f5 then [K] else []) = L) := ⟨_, (rfl : _ = _)⟩
                    have hl5 : Hid (L5.length ≤ 7) := by
                      have h9 := hl4.out
                      show L5.length ≤ _
                      rw [← hL5.out]
                      cases f5 <;> simp <;> omega
                    go_cut [4] (fun u wx => Hid (FSt w wx g B o o dst src jump count n k u L5))
                    case first =>
                      cases f5 with
                      | false =>
                        have e9 : L4 = L5 := by have := hL5.out; simpa using this
                        rw [e9] at hS4
                        clear e9
                        go_wp2_with fail
                        go_meet
                        case rel => exact hS4
                      | true =>
                        have e9 : L4 ++ [K] = L5 := hL5.out
                        have hN : Hid (∀ ob, FSt w (wc.alloc ob) g B o o dst src jump count n k u4 L4) := fun ob => hS4.out.new ob
                        have hcl : Hid ((wc.alloc (.cells #[.int .i64 k] 3)).cell? ⟨wc.heap.size, 0, none⟩ = some (.int .i64 (K : Int))) := by rw [hkk.out]; simp [Hid]
                        have hkl : Hid (L4.length ≤ 1000) := Nat.le_trans hl4.out (by decide)
                        go_wp2_with (first | (at_builtin; refine appI1 _ rfl _ _ rfl B L4 K wc.heap.size u4 rfl rfl (hN.out _).ow hcl.out hkl.out (hN.out _).gb.2.2 ?_) | fail)
                        intro v' w' ho' hg' _
                        have hS' := (hN.out _).push ho' hg'
                        try rw [e9] at hS'
                        have hSH : Hid (FSt w w' g B o o dst src jump count n k v' L5) := hS'
                        clear ho' hg' hS'
                        go_wp2_with fail
                        go_meet
                        case rel => exact hSH
                    case rest =>
                      clear zc4 y0 y1 y2 y3 y4 y5 y6 hS4
                      have hS5 := hcut
                      clear hcut
                      skip
                      have hz : Hid (L5 = zs) := by
                        show _ = _
                        rw [← hzs.out, fl_eq, hf1.out, hf2.out, hf4.out, hf5.out, hL0.out, hL1.out, hL2.out, hL3.out, hL4.out, hL5.out]
                      go_wp2_with fail
                      go_ret
                      have h5 := hS5.out
                      rw [hz.out] at h5
                      exact ⟨_, rfl, owns_base h5.ow (fun b hb => by have h6 := (World.ownsRow.lt h5.ow b hb).1; have h7 := h5.gb; omega), h5.cf.be⟩
end Go.Proofs.YtbipgkbnhpdmhaaDoor
