/-
  The statement CheckTouched: the walk.
-/
import Derived.Test.YtmnbpmmilfkjiaaDoorKt2
import Derived.Test.YtmnbpmmilfkjiaaDoorKtt
import Derived.Test.YtmnbpmmilfkjiaaDoorApf
namespace Go.Proofs.YtmnbpmmilfkjiaaDoor
open Flo Go.RowKit
theorem own_one18 {w : World} {B n c : Nat} {ao : Option Addr} {xs : List Value} (h : w.ownsRow B 3 1 (.slice ao n c) n xs) (hn : 0 < n) : ∃ g, ao = some ⟨g, 0, none⟩ := by
  rcases h.2 with ⟨h1, h2⟩ | ⟨g, cap, cur, h1, _⟩
  · omega
  · injection h1 with h1
    exact ⟨g, h1⟩
theorem own_set18 {w : World} {B n c g i : Nat} {xs : List Value} (h : w.ownsRow B 3 1 (.slice (some ⟨g, 0, none⟩) n c) n xs) (hi : i < n) (v : Value) :
    (w.setCell ⟨g, i, none⟩ v).ownsRow B 3 1 (.slice (some ⟨g, 0, none⟩) n c) n (xs.set i v) ∧ w.frozen? ⟨g, i, none⟩ = false ∧ ∃ u, w.cell? ⟨g, i, none⟩ = some u := by
  refine ⟨(World.ownsRow.stored h i v).1, World.ownsRow.frozenAt h i, ?_⟩
  rcases h.2 with ⟨h1, h2⟩ | ⟨g', cap, cur, h1, h2, h3, h4, h5, h6, h7⟩
  · cases h1
  · injection h1 with h1
    injection h1 with h1
    injection h1 with h1
    subst h1
    refine ⟨cur[i]'(by omega), ?_⟩
    unfold World.cell?
    rw [h3]
    simp
theorem appV18 {ops : Array Oper} {rest : List Oper} {o : Oper} {a : Act} {Q : Exit → Act → World → Prop} (w : World) (hgd : o.guard = none) (sl x : Operand)
    (ho : o.op = .call { callee := .builtin .append, args := #[sl, x], argTypes := #[43, 43] })
    (B n : Nat) (xs : List Value) (u : Value) (q : Nat) (v : Value) (hu : u.oneCell' = true) (hs : a.eval sl = v) (hx : a.eval x = .slice (some ⟨q, 0, none⟩) 1 1) (hrow : w.ownsRow B 3 1 v n xs)
    (hcell : w.cell? ⟨q, 0, none⟩ = some u) (hk : (n + 1) * 8 ≤ 140737488355328) (hB : B ≤ w.heap.size)
    (h : ∀ v' w', w'.ownsRow B 3 1 v' (n + 1) (xs ++ [u]) → w.grownBy w' v.ownBlock → (∀ b, v'.ownBlock = some b → v.ownBlock = some b ∨ w.heap.size ≤ b) → wpList Tryd.prog ops Q rest (a.put o.dst v') w') : wpList Tryd.prog ops Q (o :: rest) a w := by
  obtain ⟨i0, hi0, hz0, hz1, hz2⟩ := info_parts infoI9
  refine wpList_append_fr w hgd sl x 43 ho B 3 i0 (.int .i64 0) 1 8 Tryd.underlying43 hi0 hz0 hz1 hz2 rfl (by decide) v n xs hs hrow ⟨q, 0, none⟩ 1 1 [u] hx rfl ?_ ?_ ?_ ?_ hB ?_
  · intro j u' hj
    match j, hj with
    | 0, hj => simp at hj; subst hj; simpa [Addr.add] using hcell
  · intro u' hu'; simp at hu'; subst hu'; exact hu
  · unfold maxLen; omega
  · omega
  · intro v' w1 hown' hgrow hb
    exact h v' w1 hown' hgrow hb
theorem own_last18 {w : World} {B n : Nat} {v u : Value} {xs : List Value} (h : w.ownsRow B 3 1 v (n + 1) (xs ++ [u])) (hl : xs.length = n) : ∃ g c, v = .slice (some ⟨g, 0, none⟩) (n + 1) c ∧ w.cell? ⟨g, n, none⟩ = some u := by
  rcases h.2 with ⟨h1, h2⟩ | ⟨g, cap, cur, h1, h2, h3, h4, h5, h6, h7⟩
  · omega
  · refine ⟨g, cap, h1, ?_⟩
    have e1 : w.cell? ⟨g, n, none⟩ = cur[n]? := by unfold World.cell?; rw [h3]; rfl
    have e2 : (xs ++ [u])[n]? = some u := by subst hl; simp
    rw [e1, ← e2, ← h7]
    simp
theorem kept18 {w w' : World} {B n : Nat} {v : Value} {xs : List Value} {row : Option Nat} (h : w.ownsRow B 3 1 v n xs) (hg : w.grownBy w' row) (hd : ∀ b, v.ownBlock = some b → row ≠ some b) : w'.ownsRow B 3 1 v n xs := h.kept hg (by
  cases e : v.ownBlock with
  | none => exact .inl rfl
  | some b => exact .inr (fun e2 => hd b e e2.symm))
theorem same18_b (v u : Value) (Z : List Nat) (w5 W : World) (h1 : RdI w5 v Z) (h2 : RdI w5 u Z) (hl : Z.length ≤ 16777216) (hW : Below w5.heap.size w5 W) :
    Calls Tryd.prog 21 #[v, u] W fun e w' => e = .returned (.bool true) ∧ Below w5.heap.size w5 w' := by
  refine (same18_c v u Z Z W (h1.below hW) (h2.below hW) (by omega)).mono ?_
  rintro e w' ⟨rfl, q, rfl⟩
  refine ⟨by rw [decide_eq_true rfl], ?_⟩
  exact ⟨hW.os, hW.tape, hW.output, hW.size, hW.block⟩
set_option maxHeartbeats 8000000 in
set_option maxRecDepth 100000 in
theorem checkTouched.walk (s : Sp.St) (al : List Addr) (w : World) (hE : Errs w al) (hO : Ops w) (he : Pe w al) :
    Calls Tryd.prog 5 #[sv s] w fun e w' => e = .returned (.bool true) ∧ Below w.heap.size w w' := by
  obtain ⟨g, hg⟩ : ∃ g, Hid (w.heap.size = g) := ⟨_, (rfl : _ = _)⟩
  obtain ⟨wa, ewa⟩ : ∃ wa, Hid (w.alloc (.cells #[.int .i64 s.op, .int .i64 s.dst, .int .i64 s.src, .int .i64 s.jump, .int .i64 s.count, .int .i64 s.n, .int .i64 s.k] 39) = wa) := ⟨_, (rfl : _ = _)⟩
  have Ba : Hid (Below w.heap.size w wa) := by rw [← ewa.out]; exact (Below.refl _ _).alloc (Nat.le_refl _) _
  have X1 : Hid (Bst wa g s.op s.dst s.src s.jump s.count s.n s.k) := by show Bst _ _ _ _ _ _ _ _ _; rw [← ewa.out, ← hg.out]; exact Bst.new w _ _ _ _ _ _ _
  have EH : Hid (Errs w al) := hE
  have OH : Hid (Ops w) := hO
  have PH : Hid (Pe w al) := he
  have hlv : Hid (Calls Tryd.prog 8 #[] wa fun e w' => e = .returned (.bool true) ∧ Below wa.heap.size wa w') := lives18_c al wa (hE.below Ba.out) (hO.below (Ba.out.mono (Nat.le_refl _))) (he.below Ba.out)
  clear hE hO he
  unfold sv sva
  go_enter Tryd.func5, Tryd.ntmps5
  go_upto_region 1 with fail
  rw [ewa.out, hg.out]
  go_wp2_with fail
  refine hlv.out.mono ?_
  rintro e w1 ⟨rfl, B1⟩
  have hB1 : Hid (Below w.heap.size w w1) := Ba.out.trans (B1.mono Ba.out.size)
  have X2 : Hid (Bst w1 g s.op s.dst s.src s.jump s.count s.n s.k) := X1.out.below B1
  clear hlv B1
  obtain ⟨y0, y1, y2, y3, y4, y5, y6⟩ := X2.out
  go_upto_region 3 with fail
  by_cases h1 : 16384 < s.count
  · go_wp2
    go_ret
    exact ⟨rfl, hB1.out⟩
  have h1' : decide (16384 < s.count) = false := decide_eq_false h1
  by_cases h2 : 0 < s.n
  · by_cases h3 : 0 < s.count
    · by_cases h4 : 262144 < wrap64 (s.count * (s.n % 65))
      · go_wp2
        go_ret
        exact ⟨rfl, hB1.out⟩
      · have h4' : decide (262144 < wrap64 (s.count * (s.n % 65))) = false := decide_eq_false h4
        have Bx : Hid (Below w.heap.size w w1) := hB1.out
        have Xx : Hid (Bst w1 g s.op s.dst s.src s.jump s.count s.n s.k) := X2.out
        have hk : Hid (∀ W, Below w.heap.size w W → Calls Tryd.prog 19 #[.agg #[.int .i64 s.op, .int .i64 s.dst, .int .i64 s.src, .int .i64 s.jump, .int .i64 s.count, .int .i64 s.n, .int .i64 s.k]] W fun e w' => ∃ va vb, e = .returned (.tuple #[va, vb, fev al (Sp.fm s)]) ∧ TwoL w' W.heap.size va (lx s) vb (ly s) ∧ Below W.heap.size W w') := fun W hW => kt_c s al W (OH.out.below (hW.mono (Nat.le_refl _))) (PH.out.below hW)
        have hd : Hid (∀ W, Calls Tryd.prog 20 #[.agg #[.int .i64 s.op, .int .i64 s.dst, .int .i64 s.src, .int .i64 s.jump, .int .i64 s.count, .int .i64 s.n, .int .i64 s.k]] W fun e w' => ∃ va vb, e = .returned (.tuple #[va, vb, .int .i64 (fnn (Sp.fm s))]) ∧ w'.ownsRow W.heap.size 3 1 va (lx s).length (il (lx s)) ∧ w'.ownsRow W.heap.size 3 1 vb (ly s).length (il (ly s)) ∧ Below W.heap.size W w') := fun W => dt_c s W
        have hnu : Hid (∀ W, Below w.heap.size w W → Calls Tryd.prog 13 #[fev al (Sp.fm s)] W fun e w' => e = .returned (.int .i64 (fnn (Sp.fm s))) ∧ Below W.heap.size W w') := fun W hW => num_fe8 al _ W (EH.out.below hW)
        obtain ⟨X, hX⟩ : ∃ z, Hid (lx s = z) := ⟨_, (rfl : _ = _)⟩
        obtain ⟨Y, hY⟩ : ∃ z, Hid (ly s = z) := ⟨_, (rfl : _ = _)⟩
        obtain ⟨E, hE⟩ : ∃ z, Hid (fev al (Sp.fm s) = z) := ⟨_, (rfl : _ = _)⟩
        obtain ⟨N, hN⟩ : ∃ z, Hid (fnn (Sp.fm s) = z) := ⟨_, (rfl : _ = _)⟩
        have hXl : Hid (X.length ≤ 16777216 ∧ Y.length ≤ 16777216) := by rw [← hX.out, ← hY.out]; exact lx_len s
        rw [hX.out, hY.out, hE.out] at hk
        rw [hX.out, hY.out, hN.out] at hd
        rw [hE.out, hN.out] at hnu
        clear hX hY hE hN
        go_wp2_with fail
        refine (hk.out w1 Bx.out).mono ?_
        rintro e w3 ⟨va, vb, rfl, T1, B3⟩
        have Bx3 : Hid (Below w.heap.size w w3) := Bx.out.trans (B3.mono Bx.out.size)
        have X3 : Hid (Bst w3 g s.op s.dst s.src s.jump s.count s.n s.k) := Xx.out.below B3
        have T1H : Hid (TwoL w3 w1.heap.size va X vb Y) := T1
        have w13 : Hid (w1.heap.size ≤ w3.heap.size) := B3.size
        clear y0 y1 y2 y3 y4 y5 y6 B3 T1
        obtain ⟨y0, y1, y2, y3, y4, y5, y6⟩ := X3.out
        go_wp2_with fail
        refine (hk.out w3 Bx3.out).mono ?_
        rintro e w4 ⟨vc, vd, rfl, T2, B4⟩
        have Bx4 : Hid (Below w.heap.size w w4) := Bx3.out.trans (B4.mono Bx3.out.size)
        have X4 : Hid (Bst w4 g s.op s.dst s.src s.jump s.count s.n s.k) := X3.out.below B4
        have T2H : Hid (TwoL w4 w3.heap.size vc X vd Y) := T2
        have T1a : Hid (TwoL w4 w1.heap.size va X vb Y) := ⟨ow8 T1H.out.o1 B4, ow8 T1H.out.o2 B4, T1H.out.ap⟩
        have lt1 : Hid ((∀ b, va.ownBlock = some b → b < w3.heap.size) ∧ ∀ b, vb.ownBlock = some b → b < w3.heap.size) := ⟨fun b h => (T1H.out.o1.lt b h).2, fun b h => (T1H.out.o2.lt b h).2⟩
        have hw34 : Hid (w3.heap.size ≤ w4.heap.size) := B4.size
        clear y0 y1 y2 y3 y4 y5 y6 B4 T2 T1H
        obtain ⟨y0, y1, y2, y3, y4, y5, y6⟩ := X4.out
        go_wp2_with fail
        refine (hd.out w4).mono ?_
        rintro e w5 ⟨vx, vy, rfl, ox, oy, B5⟩
        have Bx5 : Hid (Below w.heap.size w w5) := Bx4.out.trans (B5.mono Bx4.out.size)
        have oxH : Hid (w5.ownsRow w4.heap.size 3 1 vx X.length (il X)) := ox
        have oyH : Hid (w5.ownsRow w4.heap.size 3 1 vy Y.length (il Y)) := oy
        have T1b : Hid (TwoL w5 w1.heap.size va X vb Y) := ⟨ow8 T1a.out.o1 B5, ow8 T1a.out.o2 B5, T1a.out.ap⟩
        have T2b : Hid (TwoL w5 w3.heap.size vc X vd Y) := ⟨ow8 T2H.out.o1 B5, ow8 T2H.out.o2 B5, T2H.out.ap⟩
        have hw45 : Hid (w4.heap.size ≤ w5.heap.size) := B5.size
        clear y0 y1 y2 y3 y4 y5 y6 B5 ox oy T1a T2H
        have hn5 : Hid (∀ W, Below w5.heap.size w5 W → Calls Tryd.prog 13 #[E] W fun e w' => e = .returned (.int .i64 N) ∧ Below w5.heap.size w5 w') := fun W hW => (hnu.out W (Bx5.out.trans (hW.mono Bx5.out.size))).mono fun e w' ⟨h1, h2⟩ => ⟨h1, hW.trans (h2.mono hW.size)⟩
        have sax : Hid (∀ W, Below w5.heap.size w5 W → Calls Tryd.prog 21 #[va, vx] W fun e w' => e = .returned (.bool true) ∧ Below w5.heap.size w5 w') := fun W hW => same18_b va vx X w5 W (RdI.of_own T1b.out.o1) (RdI.of_own oxH.out) hXl.out.1 hW
        have sby : Hid (∀ W, Below w5.heap.size w5 W → Calls Tryd.prog 21 #[vb, vy] W fun e w' => e = .returned (.bool true) ∧ Below w5.heap.size w5 w') := fun W hW => same18_b vb vy Y w5 W (RdI.of_own T1b.out.o2) (RdI.of_own oyH.out) hXl.out.2 hW
        have scx : Hid (∀ W, Below w5.heap.size w5 W → Calls Tryd.prog 21 #[vc, vx] W fun e w' => e = .returned (.bool true) ∧ Below w5.heap.size w5 w') := fun W hW => same18_b vc vx X w5 W (RdI.of_own T2b.out.o1) (RdI.of_own oxH.out) hXl.out.1 hW
        have sdy : Hid (∀ W, Below w5.heap.size w5 W → Calls Tryd.prog 21 #[vd, vy] W fun e w' => e = .returned (.bool true) ∧ Below w5.heap.size w5 w') := fun W hW => same18_b vd vy Y w5 W (RdI.of_own T2b.out.o2) (RdI.of_own oyH.out) hXl.out.2 hW
        clear hk hd hnu
        go_wp2_with fail
        refine (hn5.out w5 (Below.refl _ _)).mono ?_
        rintro e w6 ⟨rfl, B'⟩
        have D6 : Hid (Below w5.heap.size w5 w6) := B'
        clear B'
        go_wp2_with fail
        refine (hn5.out w6 D6.out).mono ?_
        rintro e w7 ⟨rfl, B'⟩
        have D7 : Hid (Below w5.heap.size w5 w7) := B'
        clear B'
        go_wp2_with fail
        refine (sax.out w7 D7.out).mono ?_
        rintro e w8 ⟨rfl, B'⟩
        have D8 : Hid (Below w5.heap.size w5 w8) := B'
        clear B'
        go_wp2_with fail
        refine (sby.out w8 D8.out).mono ?_
        rintro e w9 ⟨rfl, B'⟩
        have D9 : Hid (Below w5.heap.size w5 w9) := B'
        clear B'
        go_wp2_with fail
        refine (scx.out w9 D9.out).mono ?_
        rintro e w10 ⟨rfl, B'⟩
        have D10 : Hid (Below w5.heap.size w5 w10) := B'
        clear B'
        go_wp2_with fail
        refine (sdy.out w10 D10.out).mono ?_
        rintro e w11 ⟨rfl, B'⟩
        have D11 : Hid (Below w5.heap.size w5 w11) := B'
        clear B'
        obtain ⟨aoa, ca, rfl, hra⟩ := RdI.of_own T1b.out.o1
        have oa11 : Hid (w11.ownsRow w1.heap.size 3 1 (.slice aoa X.length ca) X.length (il X)) := ow8 T1b.out.o1 D11.out
        clear hn5 sax sby scx sdy hra
        obtain ⟨n, hn⟩ : ∃ z, Hid (X.length = z) := ⟨_, (rfl : _ = _)⟩
        rw [hn.out] at oa11 T1b lt1 ⊢
        have hnb : n ≤ 16777216 := by rw [← hn.out]; exact hXl.out.1
        go_wp2
        go_loopw [12, 92] (fun _ i wr => ∃ k : Nat, k ≤ n ∧ i = .int .i64 k ∧ Hid (Fr (fun b => (Value.slice aoa n ca).ownBlock = some b) w11 wr) ∧ Hid (∃ xs, wr.ownsRow w1.heap.size 3 1 (.slice aoa n ca) n xs)) (fun _ i _ => n - (intOf i).toNat)
        case atStart => exact ⟨0, Nat.zero_le _, rfl, Fr.refl _ _, ⟨_, oa11.out⟩⟩
        case round =>
          obtain ⟨k, hk, rfl, F1, O1⟩ := hrel
          by_cases hlt : k < n
          · have hlt' : (k : Int) < (n : Int) := by omega
            obtain ⟨xs, O1'⟩ := O1.out
            obtain ⟨ga, rfl⟩ := own_one18 O1' (by omega)
            obtain ⟨O2', fz, u, hu⟩ := own_set18 O1' hlt (.int .i64 (-5))
            have hF2 : Hid (Fr (fun b => (Value.slice (some ⟨ga, 0, none⟩) n ca).ownBlock = some b) w11 (wr.setCell ⟨ga, k, none⟩ (.int .i64 (-5)))) := Fr.setCell (p := ⟨ga, k, none⟩) F1.out rfl _
            have hO2 : Hid (∃ xs, (wr.setCell ⟨ga, k, none⟩ (.int .i64 (-5))).ownsRow w1.heap.size 3 1 (.slice (some ⟨ga, 0, none⟩) n ca) n xs) := ⟨_, O2'⟩
            clear O1' O2' O1 F1
            go_wp2
            go_roundw
            case rel => exact ⟨k + 1, by omega, by go_num, hF2, hO2⟩
            case measure => simp [intOf]; omega
          · have hlt' : decide ((k : Int) < (n : Int)) = false := decide_eq_false (by omega)
            have wB : w.heap.size ≤ w1.heap.size := Bx.out.size
            have ltA : ∀ b, (Value.slice aoa n ca).ownBlock = some b → w1.heap.size ≤ b ∧ b < w3.heap.size := fun b h => ⟨(oa11.out.lt b h).1, lt1.out.1 b h⟩
            have ap1 : ∀ b, vb.ownBlock = some b → ¬ (Value.slice aoa n ca).ownBlock = some b := fun b h h2 => T1b.out.ap b h2 h
            have ob1 : wr.ownsRow w1.heap.size 3 1 vb Y.length (il Y) := Fr.owns F1.out (ow8 T1b.out.o2 D11.out) ap1
            have oy1 : wr.ownsRow w4.heap.size 3 1 vy Y.length (il Y) := Fr.owns F1.out (ow8 oyH.out D11.out) fun b h h2 => by have := (oyH.out.lt b h).1; have := (ltA b h2).2; have := hw34.out; omega
            have ox1 : wr.ownsRow w4.heap.size 3 1 vx X.length (il X) := Fr.owns F1.out (ow8 oxH.out D11.out) fun b h h2 => by have := (oxH.out.lt b h).1; have := (ltA b h2).2; have := hw34.out; omega
            have oc1 : wr.ownsRow w3.heap.size 3 1 vc X.length (il X) := Fr.owns F1.out (ow8 T2b.out.o1 D11.out) fun b h h2 => by have := (T2b.out.o1.lt b h).1; have := (ltA b h2).2; omega
            have od1 : wr.ownsRow w3.heap.size 3 1 vd Y.length (il Y) := Fr.owns F1.out (ow8 T2b.out.o2 D11.out) fun b h h2 => by have := (T2b.out.o2.lt b h).1; have := (ltA b h2).2; omega
            have B11 : Below w.heap.size w w11 := Bx5.out.trans (D11.out.mono Bx5.out.size)
            have Bw : Below w.heap.size w wr := F1.out.below B11 B11.size fun k _ hk => Nat.le_trans wB (ltA k hk).1
            have sz1 : w3.heap.size ≤ wr.heap.size := by have h1 := Bx5.out; have := F1.out.size; have := D11.out.size; have := hw45.out; have := hw34.out; omega
            have sbb : Hid (Calls Tryd.prog 21 #[vb, vy] wr fun e w' => e = .returned (.bool true) ∧ Below wr.heap.size wr w') := same18_b vb vy Y wr wr (RdI.of_own ob1) (RdI.of_own oy1) hXl.out.2 (Below.refl _ _)
            obtain ⟨xa, oa1⟩ := O1.out
            go_wp2_with fail
            refine sbb.out.mono ?_
            rintro e w12 ⟨rfl, D12⟩
            have OA : Hid (w12.ownsRow w1.heap.size 3 1 (.slice aoa n ca) n xa) := ow8 oa1 D12
            have OY : Hid (w12.ownsRow w4.heap.size 3 1 vy Y.length (il Y)) := ow8 oy1 D12
            have OX : Hid (w12.ownsRow w4.heap.size 3 1 vx X.length (il X)) := ow8 ox1 D12
            have OC : Hid (w12.ownsRow w3.heap.size 3 1 vc X.length (il X)) := ow8 oc1 D12
            have OD : Hid (w12.ownsRow w3.heap.size 3 1 vd Y.length (il Y)) := ow8 od1 D12
            have BW : Hid (Below w.heap.size w w12) := Bw.trans (D12.mono Bw.size)
            have SZ : Hid (w3.heap.size ≤ w12.heap.size) := Nat.le_trans sz1 D12.size
            have OB0 := ow8 ob1 D12
            obtain ⟨aob, cb, rfl, -⟩ := RdI.of_own OB0
            obtain ⟨m, hm⟩ : ∃ z, Hid (Y.length = z) := ⟨_, (rfl : _ = _)⟩
            have hmb : m ≤ 16777216 := by rw [← hm.out]; exact hXl.out.2
            have AP : Hid (∀ b, (Value.slice aob m cb).ownBlock = some b → ¬ (Value.slice aoa n ca).ownBlock = some b) := by rw [hm.out] at ap1; exact ap1
            have LB : Hid (∀ b, (Value.slice aob m cb).ownBlock = some b → b < w3.heap.size) := by have := lt1.out.2; rw [hm.out] at this; exact this
            have OB : Hid (w12.ownsRow w1.heap.size 3 1 (.slice aob m cb) m (il Y)) := by rw [hm.out] at OB0; exact OB0
            have LA : Hid (∀ b, (Value.slice aoa n ca).ownBlock = some b → w1.heap.size ≤ b ∧ b < w3.heap.size) := ltA
            rw [hm.out]
            clear OB0 D12 oa1 sbb sz1 Bw B11 od1 oc1 ox1 oy1 ob1 ap1 ltA F1 O1 lt1 T1b T2b oxH oyH D6 D7 D8 D9 D10 D11 oa11 Bx3 Bx4 Bx5 X2 X3 X4 Xx hlt'
            go_wp2
            go_loopw [13, 105] (fun _ i wr => ∃ k : Nat, k ≤ m ∧ i = .int .i64 k ∧ Hid (Fr (fun b => (Value.slice aob m cb).ownBlock = some b) w12 wr) ∧ Hid (∃ xs, wr.ownsRow w1.heap.size 3 1 (.slice aob m cb) m xs)) (fun _ i _ => m - (intOf i).toNat)
            case atStart => exact ⟨0, Nat.zero_le _, rfl, Fr.refl _ _, ⟨_, OB.out⟩⟩
            case round =>
              obtain ⟨l, hl, rfl, F2, O2⟩ := hrel
              by_cases hlt2 : l < m
              · have hlt2' : (l : Int) < (m : Int) := by omega
                obtain ⟨xs, O1'⟩ := O2.out
                obtain ⟨gb, rfl⟩ := own_one18 O1' (by omega)
                obtain ⟨O2', fz, u, hu⟩ := own_set18 O1' hlt2 (.int .i64 (-6))
                have hF2 : Hid (Fr (fun b => (Value.slice (some ⟨gb, 0, none⟩) m cb).ownBlock = some b) w12 (wr.setCell ⟨gb, l, none⟩ (.int .i64 (-6)))) := Fr.setCell (p := ⟨gb, l, none⟩) F2.out rfl _
                have hO2 : Hid (∃ xs, (wr.setCell ⟨gb, l, none⟩ (.int .i64 (-6))).ownsRow w1.heap.size 3 1 (.slice (some ⟨gb, 0, none⟩) m cb) m xs) := ⟨_, O2'⟩
                clear O1' O2' O2 F2
                go_wp2
                go_roundw
                case rel => exact ⟨l + 1, by omega, by go_num, hF2, hO2⟩
                case measure => simp [intOf]; omega
              · have hlt2' : decide ((l : Int) < (m : Int)) = false := decide_eq_false (by omega)
                obtain ⟨xb, ob2⟩ := O2.out
                have oa2 : wr.ownsRow w1.heap.size 3 1 (.slice aoa n ca) n xa := Fr.owns F2.out OA.out fun b h h2 => AP.out b h2 h
                have oy2 : Hid (wr.ownsRow w4.heap.size 3 1 vy Y.length (il Y)) := Fr.owns F2.out OY.out fun b h h2 => by have := (OY.out.lt b h).1; have := LB.out b h2; have := hw34.out; omega
                have ox2 : Hid (wr.ownsRow w4.heap.size 3 1 vx X.length (il X)) := Fr.owns F2.out OX.out fun b h h2 => by have := (OX.out.lt b h).1; have := LB.out b h2; have := hw34.out; omega
                have oc2 : Hid (wr.ownsRow w3.heap.size 3 1 vc X.length (il X)) := Fr.owns F2.out OC.out fun b h h2 => by have := (OC.out.lt b h).1; have := LB.out b h2; omega
                have od2 : Hid (wr.ownsRow w3.heap.size 3 1 vd Y.length (il Y)) := Fr.owns F2.out OD.out fun b h h2 => by have := (OD.out.lt b h).1; have := LB.out b h2; omega
                have Bw2 : Hid (Below w.heap.size w wr) := F2.out.below BW.out BW.out.size fun k _ hk => Nat.le_trans wB (OB.out.lt k hk).1
                have sz2 : Hid (w3.heap.size ≤ wr.heap.size) := Nat.le_trans SZ.out F2.out.size
                have w1r : w1.heap.size ≤ wr.heap.size := Nat.le_trans w13.out sz2.out
                have lxa : Hid (xa.length = n) := by have := oa2.1; show _ = _; omega
                have lxb : Hid (xb.length = m) := by have := ob2.1; show _ = _; omega
                have oa2H : Hid (wr.ownsRow w1.heap.size 3 1 (.slice aoa n ca) n xa) := oa2
                have ob2H : Hid (wr.ownsRow w1.heap.size 3 1 (.slice aob m cb) m xb) := ob2
                have w1rH : Hid (w1.heap.size ≤ wr.heap.size) := w1r
                have hkn : (n + 1) * 8 ≤ 140737488355328 := by omega
                have hkm : Hid ((m + 1) * 8 ≤ 140737488355328) := by show _ ≤ _; omega
                have nbH : Hid (n ≤ 16777216 ∧ m ≤ 16777216) := ⟨hnb, hmb⟩
                clear F2 O2 oa2 ob2 OA OY OX OC OD OB BW SZ w1r hnb hmb
                go_wp2_with (first | (at_builtin; refine appV18 _ rfl _ _ rfl w1.heap.size n xa (.int .i64 (-7)) _ _ rfl rfl rfl (oa2H.out.alloc _) (by simp [go_sem]) hkn (by simp; exact Nat.le_succ_of_le w1rH.out) ?_) | fail)
                intro va2 w14 ho hg2 hbk
                have wzs : wr.heap.size ≤ (wr.alloc (.cells #[.int .i64 (-7)] 3)).heap.size := by simp
                have oa3 : Hid (w14.ownsRow w1.heap.size 3 1 va2 (n + 1) (xa ++ [.int .i64 (-7)])) := ho
                have ob3 : Hid (w14.ownsRow w1.heap.size 3 1 (.slice aob m cb) m xb) := kept18 (ob2H.out.alloc _) hg2 fun b h e => AP.out b h e
                have oy3 : Hid (w14.ownsRow w4.heap.size 3 1 vy Y.length (il Y)) := kept18 (oy2.out.alloc _) hg2 fun b h e => by have := (oy2.out.lt b h).1; have := (LA.out b e).2; have := hw34.out; omega
                have ox3 : Hid (w14.ownsRow w4.heap.size 3 1 vx X.length (il X)) := kept18 (ox2.out.alloc _) hg2 fun b h e => by have := (ox2.out.lt b h).1; have := (LA.out b e).2; have := hw34.out; omega
                have oc3 : Hid (w14.ownsRow w3.heap.size 3 1 vc X.length (il X)) := kept18 (oc2.out.alloc _) hg2 fun b h e => by have := (oc2.out.lt b h).1; have := (LA.out b e).2; omega
                have od3 : Hid (w14.ownsRow w3.heap.size 3 1 vd Y.length (il Y)) := kept18 (od2.out.alloc _) hg2 fun b h e => by have := (od2.out.lt b h).1; have := (LA.out b e).2; omega
                have ap3 : Hid (∀ b, va2.ownBlock = some b → ¬ (Value.slice aob m cb).ownBlock = some b) := fun b h h2 => by
                  rcases hbk b h with h3 | h3
                  · exact AP.out b h2 h3
                  · have := LB.out b h2; have := sz2.out; omega
                have Bw3 : Hid (Below w.heap.size w w14) := (Bw2.out.alloc Bw2.out.size _).grown hg2 (by have := Bw2.out.size; omega) (fun k hk => Nat.le_trans wB (LA.out k hk).1)
                have sz3 : Hid (w3.heap.size ≤ w14.heap.size) := by have := hg2.size; have := sz2.out; show _ ≤ _; omega
                have w1s : Hid (w1.heap.size ≤ w14.heap.size) := Nat.le_trans w13.out sz3.out
                clear ho hg2 hbk wzs ob2H oa2H oy2 ox2 oc2 od2 Bw2 sz2 w1rH hkn
                go_wp2_with (first | (at_builtin; refine appV18 _ rfl _ _ rfl w1.heap.size m xb (.int .i64 (-8)) _ _ rfl rfl rfl (ob3.out.alloc _) (by simp [go_sem]) hkm.out (by simp; exact Nat.le_succ_of_le w1s.out) ?_) | fail)
                intro vb2 w15 ho hg2 hbk
                have oa4 : w15.ownsRow w1.heap.size 3 1 va2 (n + 1) (xa ++ [.int .i64 (-7)]) := kept18 (oa3.out.alloc _) hg2 fun b h e => ap3.out b h e
                have oy4 : w15.ownsRow w4.heap.size 3 1 vy Y.length (il Y) := kept18 (oy3.out.alloc _) hg2 fun b h e => by have := (oy3.out.lt b h).1; have := LB.out b e; have := hw34.out; omega
                have ox4 : w15.ownsRow w4.heap.size 3 1 vx X.length (il X) := kept18 (ox3.out.alloc _) hg2 fun b h e => by have := (ox3.out.lt b h).1; have := LB.out b e; have := hw34.out; omega
                have oc4 : w15.ownsRow w3.heap.size 3 1 vc X.length (il X) := kept18 (oc3.out.alloc _) hg2 fun b h e => by have := (oc3.out.lt b h).1; have := LB.out b e; omega
                have od4 : w15.ownsRow w3.heap.size 3 1 vd Y.length (il Y) := kept18 (od3.out.alloc _) hg2 fun b h e => by have := (od3.out.lt b h).1; have := LB.out b e; omega
                have Bw4 : Hid (Below w.heap.size w w15) := (Bw3.out.alloc Bw3.out.size _).grown hg2 (by have := Bw3.out.size; simp; omega) (fun k hk => Nat.le_trans wB (ob3.out.lt k hk).1)
                obtain ⟨ga, cga, rfl, ca4⟩ := own_last18 oa4 lxa.out
                obtain ⟨gb, cgb, rfl, cb4⟩ := own_last18 ho lxb.out
                have scx : Hid (Calls Tryd.prog 21 #[vc, vx] w15 fun e w' => e = .returned (.bool true) ∧ Below w15.heap.size w15 w') := same18_b vc vx X w15 w15 (RdI.of_own oc4) (RdI.of_own ox4) hXl.out.1 (Below.refl _ _)
                have sdy : Hid (∀ W, Below w15.heap.size w15 W → Calls Tryd.prog 21 #[vd, vy] W fun e w' => e = .returned (.bool true) ∧ Below w15.heap.size w15 w') := fun W hW => same18_b vd vy Y w15 W (RdI.of_own od4) (RdI.of_own oy4) hXl.out.2 hW
                have caH : Hid (w15.cell? ⟨ga, n, none⟩ = some (.int .i64 (-7))) := ca4
                have cbH : Hid (w15.cell? ⟨gb, m, none⟩ = some (.int .i64 (-8))) := cb4
                clear ho hg2 hbk oa4 oy4 ox4 oc4 od4 ca4 cb4 oa3 ob3 oy3 ox3 oc3 od3 ap3
                go_wp2_with fail
                refine scx.out.mono ?_
                rintro e w16 ⟨rfl, D16⟩
                have D16H : Hid (Below w15.heap.size w15 w16) := D16
                clear D16
                go_wp2_with fail
                refine (sdy.out w16 D16H.out).mono ?_
                rintro e w17 ⟨rfl, D17⟩
                have ca5 : w17.cell? ⟨ga, n, none⟩ = some (.int .i64 (-7)) := (D17.cell (p := ⟨ga, n, none⟩) (cell_lt caH.out)).trans caH.out
                have cb5 : w17.cell? ⟨gb, m, none⟩ = some (.int .i64 (-8)) := (D17.cell (p := ⟨gb, m, none⟩) (cell_lt cbH.out)).trans cbH.out
                have hB : Hid (Below w.heap.size w w17) := Bw4.out.trans (D17.mono Bw4.out.size)
                have k1 : wrap64 (n : Int) = (n : Int) := by have := nbH.out; unfold wrap64; omega
                have k2 : wrap64 (m : Int) = (m : Int) := by have := nbH.out; unfold wrap64; omega
                clear D17 D16H scx sdy caH cbH
                go_wp2
                go_ret
                exact ⟨rfl, hB.out⟩
    · have h3' : decide (0 < s.count) = false := decide_eq_false h3
      have Bx : Hid (Below w.heap.size w w1) := hB1.out
      have Xx : Hid (Bst w1 g s.op s.dst s.src s.jump s.count s.n s.k) := X2.out
      have hk : Hid (∀ W, Below w.heap.size w W → Calls Tryd.prog 19 #[.agg #[.int .i64 s.op, .int .i64 s.dst, .int .i64 s.src, .int .i64 s.jump, .int .i64 s.count, .int .i64 s.n, .int .i64 s.k]] W fun e w' => ∃ va vb, e = .returned (.tuple #[va, vb, fev al (Sp.fm s)]) ∧ TwoL w' W.heap.size va (lx s) vb (ly s) ∧ Below W.heap.size W w') := fun W hW => kt_c s al W (OH.out.below (hW.mono (Nat.le_refl _))) (PH.out.below hW)
      have hd : Hid (∀ W, Calls Tryd.prog 20 #[.agg #[.int .i64 s.op, .int .i64 s.dst, .int .i64 s.src, .int .i64 s.jump, .int .i64 s.count, .int .i64 s.n, .int .i64 s.k]] W fun e w' => ∃ va vb, e = .returned (.tuple #[va, vb, .int .i64 (fnn (Sp.fm s))]) ∧ w'.ownsRow W.heap.size 3 1 va (lx s).length (il (lx s)) ∧ w'.ownsRow W.heap.size 3 1 vb (ly s).length (il (ly s)) ∧ Below W.heap.size W w') := fun W => dt_c s W
      have hnu : Hid (∀ W, Below w.heap.size w W → Calls Tryd.prog 13 #[fev al (Sp.fm s)] W fun e w' => e = .returned (.int .i64 (fnn (Sp.fm s))) ∧ Below W.heap.size W w') := fun W hW => num_fe8 al _ W (EH.out.below hW)
      obtain ⟨X, hX⟩ : ∃ z, Hid (lx s = z) := ⟨_, (rfl : _ = _)⟩
      obtain ⟨Y, hY⟩ : ∃ z, Hid (ly s = z) := ⟨_, (rfl : _ = _)⟩
      obtain ⟨E, hE⟩ : ∃ z, Hid (fev al (Sp.fm s) = z) := ⟨_, (rfl : _ = _)⟩
      obtain ⟨N, hN⟩ : ∃ z, Hid (fnn (Sp.fm s) = z) := ⟨_, (rfl : _ = _)⟩
      have hXl : Hid (X.length ≤ 16777216 ∧ Y.length ≤ 16777216) := by rw [← hX.out, ← hY.out]; exact lx_len s
      rw [hX.out, hY.out, hE.out] at hk
      rw [hX.out, hY.out, hN.out] at hd
      rw [hE.out, hN.out] at hnu
      clear hX hY hE hN
      go_wp2_with fail
      refine (hk.out w1 Bx.out).mono ?_
      rintro e w3 ⟨va, vb, rfl, T1, B3⟩
      have Bx3 : Hid (Below w.heap.size w w3) := Bx.out.trans (B3.mono Bx.out.size)
      have X3 : Hid (Bst w3 g s.op s.dst s.src s.jump s.count s.n s.k) := Xx.out.below B3
      have T1H : Hid (TwoL w3 w1.heap.size va X vb Y) := T1
      have w13 : Hid (w1.heap.size ≤ w3.heap.size) := B3.size
      clear y0 y1 y2 y3 y4 y5 y6 B3 T1
      obtain ⟨y0, y1, y2, y3, y4, y5, y6⟩ := X3.out
      go_wp2_with fail
      refine (hk.out w3 Bx3.out).mono ?_
      rintro e w4 ⟨vc, vd, rfl, T2, B4⟩
      have Bx4 : Hid (Below w.heap.size w w4) := Bx3.out.trans (B4.mono Bx3.out.size)
      have X4 : Hid (Bst w4 g s.op s.dst s.src s.jump s.count s.n s.k) := X3.out.below B4
      have T2H : Hid (TwoL w4 w3.heap.size vc X vd Y) := T2
      have T1a : Hid (TwoL w4 w1.heap.size va X vb Y) := ⟨ow8 T1H.out.o1 B4, ow8 T1H.out.o2 B4, T1H.out.ap⟩
      have lt1 : Hid ((∀ b, va.ownBlock = some b → b < w3.heap.size) ∧ ∀ b, vb.ownBlock = some b → b < w3.heap.size) := ⟨fun b h => (T1H.out.o1.lt b h).2, fun b h => (T1H.out.o2.lt b h).2⟩
      have hw34 : Hid (w3.heap.size ≤ w4.heap.size) := B4.size
      clear y0 y1 y2 y3 y4 y5 y6 B4 T2 T1H
      obtain ⟨y0, y1, y2, y3, y4, y5, y6⟩ := X4.out
      go_wp2_with fail
      refine (hd.out w4).mono ?_
      rintro e w5 ⟨vx, vy, rfl, ox, oy, B5⟩
      have Bx5 : Hid (Below w.heap.size w w5) := Bx4.out.trans (B5.mono Bx4.out.size)
      have oxH : Hid (w5.ownsRow w4.heap.size 3 1 vx X.length (il X)) := ox
      have oyH : Hid (w5.ownsRow w4.heap.size 3 1 vy Y.length (il Y)) := oy
      have T1b : Hid (TwoL w5 w1.heap.size va X vb Y) := ⟨ow8 T1a.out.o1 B5, ow8 T1a.out.o2 B5, T1a.out.ap⟩
      have T2b : Hid (TwoL w5 w3.heap.size vc X vd Y) := ⟨ow8 T2H.out.o1 B5, ow8 T2H.out.o2 B5, T2H.out.ap⟩
      have hw45 : Hid (w4.heap.size ≤ w5.heap.size) := B5.size
      clear y0 y1 y2 y3 y4 y5 y6 B5 ox oy T1a T2H
      have hn5 : Hid (∀ W, Below w5.heap.size w5 W → Calls Tryd.prog 13 #[E] W fun e w' => e = .returned (.int .i64 N) ∧ Below w5.heap.size w5 w') := fun W hW => (hnu.out W (Bx5.out.trans (hW.mono Bx5.out.size))).mono fun e w' ⟨h1, h2⟩ => ⟨h1, hW.trans (h2.mono hW.size)⟩
      have sax : Hid (∀ W, Below w5.heap.size w5 W → Calls Tryd.prog 21 #[va, vx] W fun e w' => e = .returned (.bool true) ∧ Below w5.heap.size w5 w') := fun W hW => same18_b va vx X w5 W (RdI.of_own T1b.out.o1) (RdI.of_own oxH.out) hXl.out.1 hW
      have sby : Hid (∀ W, Below w5.heap.size w5 W → Calls Tryd.prog 21 #[vb, vy] W fun e w' => e = .returned (.bool true) ∧ Below w5.heap.size w5 w') := fun W hW => same18_b vb vy Y w5 W (RdI.of_own T1b.out.o2) (RdI.of_own oyH.out) hXl.out.2 hW
      have scx : Hid (∀ W, Below w5.heap.size w5 W → Calls Tryd.prog 21 #[vc, vx] W fun e w' => e = .returned (.bool true) ∧ Below w5.heap.size w5 w') := fun W hW => same18_b vc vx X w5 W (RdI.of_own T2b.out.o1) (RdI.of_own oxH.out) hXl.out.1 hW
      have sdy : Hid (∀ W, Below w5.heap.size w5 W → Calls Tryd.prog 21 #[vd, vy] W fun e w' => e = .returned (.bool true) ∧ Below w5.heap.size w5 w') := fun W hW => same18_b vd vy Y w5 W (RdI.of_own T2b.out.o2) (RdI.of_own oyH.out) hXl.out.2 hW
      clear hk hd hnu
      go_wp2_with fail
      refine (hn5.out w5 (Below.refl _ _)).mono ?_
      rintro e w6 ⟨rfl, B'⟩
      have D6 : Hid (Below w5.heap.size w5 w6) := B'
      clear B'
      go_wp2_with fail
      refine (hn5.out w6 D6.out).mono ?_
      rintro e w7 ⟨rfl, B'⟩
      have D7 : Hid (Below w5.heap.size w5 w7) := B'
      clear B'
      go_wp2_with fail
      refine (sax.out w7 D7.out).mono ?_
      rintro e w8 ⟨rfl, B'⟩
      have D8 : Hid (Below w5.heap.size w5 w8) := B'
      clear B'
      go_wp2_with fail
      refine (sby.out w8 D8.out).mono ?_
      rintro e w9 ⟨rfl, B'⟩
      have D9 : Hid (Below w5.heap.size w5 w9) := B'
      clear B'
      go_wp2_with fail
      refine (scx.out w9 D9.out).mono ?_
      rintro e w10 ⟨rfl, B'⟩
      have D10 : Hid (Below w5.heap.size w5 w10) := B'
      clear B'
      go_wp2_with fail
      refine (sdy.out w10 D10.out).mono ?_
      rintro e w11 ⟨rfl, B'⟩
      have D11 : Hid (Below w5.heap.size w5 w11) := B'
      clear B'
      obtain ⟨aoa, ca, rfl, hra⟩ := RdI.of_own T1b.out.o1
      have oa11 : Hid (w11.ownsRow w1.heap.size 3 1 (.slice aoa X.length ca) X.length (il X)) := ow8 T1b.out.o1 D11.out
      clear hn5 sax sby scx sdy hra
      obtain ⟨n, hn⟩ : ∃ z, Hid (X.length = z) := ⟨_, (rfl : _ = _)⟩
      rw [hn.out] at oa11 T1b lt1 ⊢
      have hnb : n ≤ 16777216 := by rw [← hn.out]; exact hXl.out.1
      go_wp2
      go_loopw [12, 92] (fun _ i wr => ∃ k : Nat, k ≤ n ∧ i = .int .i64 k ∧ Hid (Fr (fun b => (Value.slice aoa n ca).ownBlock = some b) w11 wr) ∧ Hid (∃ xs, wr.ownsRow w1.heap.size 3 1 (.slice aoa n ca) n xs)) (fun _ i _ => n - (intOf i).toNat)
      case atStart => exact ⟨0, Nat.zero_le _, rfl, Fr.refl _ _, ⟨_, oa11.out⟩⟩
      case round =>
        obtain ⟨k, hk, rfl, F1, O1⟩ := hrel
        by_cases hlt : k < n
        · have hlt' : (k : Int) < (n : Int) := by omega
          obtain ⟨xs, O1'⟩ := O1.out
          obtain ⟨ga, rfl⟩ := own_one18 O1' (by omega)
          obtain ⟨O2', fz, u, hu⟩ := own_set18 O1' hlt (.int .i64 (-5))
          have hF2 : Hid (Fr (fun b => (Value.slice (some ⟨ga, 0, none⟩) n ca).ownBlock = some b) w11 (wr.setCell ⟨ga, k, none⟩ (.int .i64 (-5)))) := Fr.setCell (p := ⟨ga, k, none⟩) F1.out rfl _
          have hO2 : Hid (∃ xs, (wr.setCell ⟨ga, k, none⟩ (.int .i64 (-5))).ownsRow w1.heap.size 3 1 (.slice (some ⟨ga, 0, none⟩) n ca) n xs) := ⟨_, O2'⟩
          clear O1' O2' O1 F1
          go_wp2
          go_roundw
          case rel => exact ⟨k + 1, by omega, by go_num, hF2, hO2⟩
          case measure => simp [intOf]; omega
        · have hlt' : decide ((k : Int) < (n : Int)) = false := decide_eq_false (by omega)
          have wB : w.heap.size ≤ w1.heap.size := Bx.out.size
          have ltA : ∀ b, (Value.slice aoa n ca).ownBlock = some b → w1.heap.size ≤ b ∧ b < w3.heap.size := fun b h => ⟨(oa11.out.lt b h).1, lt1.out.1 b h⟩
          have ap1 : ∀ b, vb.ownBlock = some b → ¬ (Value.slice aoa n ca).ownBlock = some b := fun b h h2 => T1b.out.ap b h2 h
          have ob1 : wr.ownsRow w1.heap.size 3 1 vb Y.length (il Y) := Fr.owns F1.out (ow8 T1b.out.o2 D11.out) ap1
          have oy1 : wr.ownsRow w4.heap.size 3 1 vy Y.length (il Y) := Fr.owns F1.out (ow8 oyH.out D11.out) fun b h h2 => by have := (oyH.out.lt b h).1; have := (ltA b h2).2; have := hw34.out; omega
          have ox1 : wr.ownsRow w4.heap.size 3 1 vx X.length (il X) := Fr.owns F1.out (ow8 oxH.out D11.out) fun b h h2 => by have := (oxH.out.lt b h).1; have := (ltA b h2).2; have := hw34.out; omega
          have oc1 : wr.ownsRow w3.heap.size 3 1 vc X.length (il X) := Fr.owns F1.out (ow8 T2b.out.o1 D11.out) fun b h h2 => by have := (T2b.out.o1.lt b h).1; have := (ltA b h2).2; omega
          have od1 : wr.ownsRow w3.heap.size 3 1 vd Y.length (il Y) := Fr.owns F1.out (ow8 T2b.out.o2 D11.out) fun b h h2 => by have := (T2b.out.o2.lt b h).1; have := (ltA b h2).2; omega
          have B11 : Below w.heap.size w w11 := Bx5.out.trans (D11.out.mono Bx5.out.size)
          have Bw : Below w.heap.size w wr := F1.out.below B11 B11.size fun k _ hk => Nat.le_trans wB (ltA k hk).1
          have sz1 : w3.heap.size ≤ wr.heap.size := by have h1 := Bx5.out; have := F1.out.size; have := D11.out.size; have := hw45.out; have := hw34.out; omega
          have sbb : Hid (Calls Tryd.prog 21 #[vb, vy] wr fun e w' => e = .returned (.bool true) ∧ Below wr.heap.size wr w') := same18_b vb vy Y wr wr (RdI.of_own ob1) (RdI.of_own oy1) hXl.out.2 (Below.refl _ _)
          obtain ⟨xa, oa1⟩ := O1.out
          go_wp2_with fail
          refine sbb.out.mono ?_
          rintro e w12 ⟨rfl, D12⟩
          have OA : Hid (w12.ownsRow w1.heap.size 3 1 (.slice aoa n ca) n xa) := ow8 oa1 D12
          have OY : Hid (w12.ownsRow w4.heap.size 3 1 vy Y.length (il Y)) := ow8 oy1 D12
          have OX : Hid (w12.ownsRow w4.heap.size 3 1 vx X.length (il X)) := ow8 ox1 D12
          have OC : Hid (w12.ownsRow w3.heap.size 3 1 vc X.length (il X)) := ow8 oc1 D12
          have OD : Hid (w12.ownsRow w3.heap.size 3 1 vd Y.length (il Y)) := ow8 od1 D12
          have BW : Hid (Below w.heap.size w w12) := Bw.trans (D12.mono Bw.size)
          have SZ : Hid (w3.heap.size ≤ w12.heap.size) := Nat.le_trans sz1 D12.size
          have OB0 := ow8 ob1 D12
          obtain ⟨aob, cb, rfl, -⟩ := RdI.of_own OB0
          obtain ⟨m, hm⟩ : ∃ z, Hid (Y.length = z) := ⟨_, (rfl : _ = _)⟩
          have hmb : m ≤ 16777216 := by rw [← hm.out]; exact hXl.out.2
          have AP : Hid (∀ b, (Value.slice aob m cb).ownBlock = some b → ¬ (Value.slice aoa n ca).ownBlock = some b) := by rw [hm.out] at ap1; exact ap1
          have LB : Hid (∀ b, (Value.slice aob m cb).ownBlock = some b → b < w3.heap.size) := by have := lt1.out.2; rw [hm.out] at this; exact this
          have OB : Hid (w12.ownsRow w1.heap.size 3 1 (.slice aob m cb) m (il Y)) := by rw [hm.out] at OB0; exact OB0
          have LA : Hid (∀ b, (Value.slice aoa n ca).ownBlock = some b → w1.heap.size ≤ b ∧ b < w3.heap.size) := ltA
          rw [hm.out]
          clear OB0 D12 oa1 sbb sz1 Bw B11 od1 oc1 ox1 oy1 ob1 ap1 ltA F1 O1 lt1 T1b T2b oxH oyH D6 D7 D8 D9 D10 D11 oa11 Bx3 Bx4 Bx5 X2 X3 X4 Xx hlt'
          go_wp2
          go_loopw [13, 105] (fun _ i wr => ∃ k : Nat, k ≤ m ∧ i = .int .i64 k ∧ Hid (Fr (fun b => (Value.slice aob m cb).ownBlock = some b) w12 wr) ∧ Hid (∃ xs, wr.ownsRow w1.heap.size 3 1 (.slice aob m cb) m xs)) (fun _ i _ => m - (intOf i).toNat)
          case atStart => exact ⟨0, Nat.zero_le _, rfl, Fr.refl _ _, ⟨_, OB.out⟩⟩
          case round =>
            obtain ⟨l, hl, rfl, F2, O2⟩ := hrel
            by_cases hlt2 : l < m
            · have hlt2' : (l : Int) < (m : Int) := by omega
              obtain ⟨xs, O1'⟩ := O2.out
              obtain ⟨gb, rfl⟩ := own_one18 O1' (by omega)
              obtain ⟨O2', fz, u, hu⟩ := own_set18 O1' hlt2 (.int .i64 (-6))
              have hF2 : Hid (Fr (fun b => (Value.slice (some ⟨gb, 0, none⟩) m cb).ownBlock = some b) w12 (wr.setCell ⟨gb, l, none⟩ (.int .i64 (-6)))) := Fr.setCell (p := ⟨gb, l, none⟩) F2.out rfl _
              have hO2 : Hid (∃ xs, (wr.setCell ⟨gb, l, none⟩ (.int .i64 (-6))).ownsRow w1.heap.size 3 1 (.slice (some ⟨gb, 0, none⟩) m cb) m xs) := ⟨_, O2'⟩
              clear O1' O2' O2 F2
              go_wp2
              go_roundw
              case rel => exact ⟨l + 1, by omega, by go_num, hF2, hO2⟩
              case measure => simp [intOf]; omega
            · have hlt2' : decide ((l : Int) < (m : Int)) = false := decide_eq_false (by omega)
              obtain ⟨xb, ob2⟩ := O2.out
              have oa2 : wr.ownsRow w1.heap.size 3 1 (.slice aoa n ca) n xa := Fr.owns F2.out OA.out fun b h h2 => AP.out b h2 h
              have oy2 : Hid (wr.ownsRow w4.heap.size 3 1 vy Y.length (il Y)) := Fr.owns F2.out OY.out fun b h h2 => by have := (OY.out.lt b h).1; have := LB.out b h2; have := hw34.out; omega
              have ox2 : Hid (wr.ownsRow w4.heap.size 3 1 vx X.length (il X)) := Fr.owns F2.out OX.out fun b h h2 => by have := (OX.out.lt b h).1; have := LB.out b h2; have := hw34.out; omega
              have oc2 : Hid (wr.ownsRow w3.heap.size 3 1 vc X.length (il X)) := Fr.owns F2.out OC.out fun b h h2 => by have := (OC.out.lt b h).1; have := LB.out b h2; omega
              have od2 : Hid (wr.ownsRow w3.heap.size 3 1 vd Y.length (il Y)) := Fr.owns F2.out OD.out fun b h h2 => by have := (OD.out.lt b h).1; have := LB.out b h2; omega
              have Bw2 : Hid (Below w.heap.size w wr) := F2.out.below BW.out BW.out.size fun k _ hk => Nat.le_trans wB (OB.out.lt k hk).1
              have sz2 : Hid (w3.heap.size ≤ wr.heap.size) := Nat.le_trans SZ.out F2.out.size
              have w1r : w1.heap.size ≤ wr.heap.size := Nat.le_trans w13.out sz2.out
              have lxa : Hid (xa.length = n) := by have := oa2.1; show _ = _; omega
              have lxb : Hid (xb.length = m) := by have := ob2.1; show _ = _; omega
              have oa2H : Hid (wr.ownsRow w1.heap.size 3 1 (.slice aoa n ca) n xa) := oa2
              have ob2H : Hid (wr.ownsRow w1.heap.size 3 1 (.slice aob m cb) m xb) := ob2
              have w1rH : Hid (w1.heap.size ≤ wr.heap.size) := w1r
              have hkn : (n + 1) * 8 ≤ 140737488355328 := by omega
              have hkm : Hid ((m + 1) * 8 ≤ 140737488355328) := by show _ ≤ _; omega
              have nbH : Hid (n ≤ 16777216 ∧ m ≤ 16777216) := ⟨hnb, hmb⟩
              clear F2 O2 oa2 ob2 OA OY OX OC OD OB BW SZ w1r hnb hmb
              go_wp2_with (first | (at_builtin; refine appV18 _ rfl _ _ rfl w1.heap.size n xa (.int .i64 (-7)) _ _ rfl rfl rfl (oa2H.out.alloc _) (by simp [go_sem]) hkn (by simp; exact Nat.le_succ_of_le w1rH.out) ?_) | fail)
              intro va2 w14 ho hg2 hbk
              have wzs : wr.heap.size ≤ (wr.alloc (.cells #[.int .i64 (-7)] 3)).heap.size := by simp
              have oa3 : Hid (w14.ownsRow w1.heap.size 3 1 va2 (n + 1) (xa ++ [.int .i64 (-7)])) := ho
              have ob3 : Hid (w14.ownsRow w1.heap.size 3 1 (.slice aob m cb) m xb) := kept18 (ob2H.out.alloc _) hg2 fun b h e => AP.out b h e
              have oy3 : Hid (w14.ownsRow w4.heap.size 3 1 vy Y.length (il Y)) := kept18 (oy2.out.alloc _) hg2 fun b h e => by have := (oy2.out.lt b h).1; have := (LA.out b e).2; have := hw34.out; omega
              have ox3 : Hid (w14.ownsRow w4.heap.size 3 1 vx X.length (il X)) := kept18 (ox2.out.alloc _) hg2 fun b h e => by have := (ox2.out.lt b h).1; have := (LA.out b e).2; have := hw34.out; omega
              have oc3 : Hid (w14.ownsRow w3.heap.size 3 1 vc X.length (il X)) := kept18 (oc2.out.alloc _) hg2 fun b h e => by have := (oc2.out.lt b h).1; have := (LA.out b e).2; omega
              have od3 : Hid (w14.ownsRow w3.heap.size 3 1 vd Y.length (il Y)) := kept18 (od2.out.alloc _) hg2 fun b h e => by have := (od2.out.lt b h).1; have := (LA.out b e).2; omega
              have ap3 : Hid (∀ b, va2.ownBlock = some b → ¬ (Value.slice aob m cb).ownBlock = some b) := fun b h h2 => by
                rcases hbk b h with h3 | h3
                · exact AP.out b h2 h3
                · have := LB.out b h2; have := sz2.out; omega
              have Bw3 : Hid (Below w.heap.size w w14) := (Bw2.out.alloc Bw2.out.size _).grown hg2 (by have := Bw2.out.size; omega) (fun k hk => Nat.le_trans wB (LA.out k hk).1)
              have sz3 : Hid (w3.heap.size ≤ w14.heap.size) := by have := hg2.size; have := sz2.out; show _ ≤ _; omega
              have w1s : Hid (w1.heap.size ≤ w14.heap.size) := Nat.le_trans w13.out sz3.out
              clear ho hg2 hbk wzs ob2H oa2H oy2 ox2 oc2 od2 Bw2 sz2 w1rH hkn
              go_wp2_with (first | (at_builtin; refine appV18 _ rfl _ _ rfl w1.heap.size m xb (.int .i64 (-8)) _ _ rfl rfl rfl (ob3.out.alloc _) (by simp [go_sem]) hkm.out (by simp; exact Nat.le_succ_of_le w1s.out) ?_) | fail)
              intro vb2 w15 ho hg2 hbk
              have oa4 : w15.ownsRow w1.heap.size 3 1 va2 (n + 1) (xa ++ [.int .i64 (-7)]) := kept18 (oa3.out.alloc _) hg2 fun b h e => ap3.out b h e
              have oy4 : w15.ownsRow w4.heap.size 3 1 vy Y.length (il Y) := kept18 (oy3.out.alloc _) hg2 fun b h e => by have := (oy3.out.lt b h).1; have := LB.out b e; have := hw34.out; omega
              have ox4 : w15.ownsRow w4.heap.size 3 1 vx X.length (il X) := kept18 (ox3.out.alloc _) hg2 fun b h e => by have := (ox3.out.lt b h).1; have := LB.out b e; have := hw34.out; omega
              have oc4 : w15.ownsRow w3.heap.size 3 1 vc X.length (il X) := kept18 (oc3.out.alloc _) hg2 fun b h e => by have := (oc3.out.lt b h).1; have := LB.out b e; omega
              have od4 : w15.ownsRow w3.heap.size 3 1 vd Y.length (il Y) := kept18 (od3.out.alloc _) hg2 fun b h e => by have := (od3.out.lt b h).1; have := LB.out b e; omega
              have Bw4 : Hid (Below w.heap.size w w15) := (Bw3.out.alloc Bw3.out.size _).grown hg2 (by have := Bw3.out.size; simp; omega) (fun k hk => Nat.le_trans wB (ob3.out.lt k hk).1)
              obtain ⟨ga, cga, rfl, ca4⟩ := own_last18 oa4 lxa.out
              obtain ⟨gb, cgb, rfl, cb4⟩ := own_last18 ho lxb.out
              have scx : Hid (Calls Tryd.prog 21 #[vc, vx] w15 fun e w' => e = .returned (.bool true) ∧ Below w15.heap.size w15 w') := same18_b vc vx X w15 w15 (RdI.of_own oc4) (RdI.of_own ox4) hXl.out.1 (Below.refl _ _)
              have sdy : Hid (∀ W, Below w15.heap.size w15 W → Calls Tryd.prog 21 #[vd, vy] W fun e w' => e = .returned (.bool true) ∧ Below w15.heap.size w15 w') := fun W hW => same18_b vd vy Y w15 W (RdI.of_own od4) (RdI.of_own oy4) hXl.out.2 hW
              have caH : Hid (w15.cell? ⟨ga, n, none⟩ = some (.int .i64 (-7))) := ca4
              have cbH : Hid (w15.cell? ⟨gb, m, none⟩ = some (.int .i64 (-8))) := cb4
              clear ho hg2 hbk oa4 oy4 ox4 oc4 od4 ca4 cb4 oa3 ob3 oy3 ox3 oc3 od3 ap3
              go_wp2_with fail
              refine scx.out.mono ?_
              rintro e w16 ⟨rfl, D16⟩
              have D16H : Hid (Below w15.heap.size w15 w16) := D16
              clear D16
              go_wp2_with fail
              refine (sdy.out w16 D16H.out).mono ?_
              rintro e w17 ⟨rfl, D17⟩
              have ca5 : w17.cell? ⟨ga, n, none⟩ = some (.int .i64 (-7)) := (D17.cell (p := ⟨ga, n, none⟩) (cell_lt caH.out)).trans caH.out
              have cb5 : w17.cell? ⟨gb, m, none⟩ = some (.int .i64 (-8)) := (D17.cell (p := ⟨gb, m, none⟩) (cell_lt cbH.out)).trans cbH.out
              have hB : Hid (Below w.heap.size w w17) := Bw4.out.trans (D17.mono Bw4.out.size)
              have k1 : wrap64 (n : Int) = (n : Int) := by have := nbH.out; unfold wrap64; omega
              have k2 : wrap64 (m : Int) = (m : Int) := by have := nbH.out; unfold wrap64; omega
              clear D17 D16H scx sdy caH cbH
              go_wp2
              go_ret
              exact ⟨rfl, hB.out⟩
  · have h2' : decide (0 < s.n) = false := decide_eq_false h2
    have Bx : Hid (Below w.heap.size w w1) := hB1.out
    have Xx : Hid (Bst w1 g s.op s.dst s.src s.jump s.count s.n s.k) := X2.out
    have hk : Hid (∀ W, Below w.heap.size w W → Calls Tryd.prog 19 #[.agg #[.int .i64 s.op, .int .i64 s.dst, .int .i64 s.src, .int .i64 s.jump, .int .i64 s.count, .int .i64 s.n, .int .i64 s.k]] W fun e w' => ∃ va vb, e = .returned (.tuple #[va, vb, fev al (Sp.fm s)]) ∧ TwoL w' W.heap.size va (lx s) vb (ly s) ∧ Below W.heap.size W w') := fun W hW => kt_c s al W (OH.out.below (hW.mono (Nat.le_refl _))) (PH.out.below hW)
    have hd : Hid (∀ W, Calls Tryd.prog 20 #[.agg #[.int .i64 s.op, .int .i64 s.dst, .int .i64 s.src, .int .i64 s.jump, .int .i64 s.count, .int .i64 s.n, .int .i64 s.k]] W fun e w' => ∃ va vb, e = .returned (.tuple #[va, vb, .int .i64 (fnn (Sp.fm s))]) ∧ w'.ownsRow W.heap.size 3 1 va (lx s).length (il (lx s)) ∧ w'.ownsRow W.heap.size 3 1 vb (ly s).length (il (ly s)) ∧ Below W.heap.size W w') := fun W => dt_c s W
    have hnu : Hid (∀ W, Below w.heap.size w W → Calls Tryd.prog 13 #[fev al (Sp.fm s)] W fun e w' => e = .returned (.int .i64 (fnn (Sp.fm s))) ∧ Below W.heap.size W w') := fun W hW => num_fe8 al _ W (EH.out.below hW)
    obtain ⟨X, hX⟩ : ∃ z, Hid (lx s = z) := ⟨_, (rfl : _ = _)⟩
    obtain ⟨Y, hY⟩ : ∃ z, Hid (ly s = z) := ⟨_, (rfl : _ = _)⟩
    obtain ⟨E, hE⟩ : ∃ z, Hid (fev al (Sp.fm s) = z) := ⟨_, (rfl : _ = _)⟩
    obtain ⟨N, hN⟩ : ∃ z, Hid (fnn (Sp.fm s) = z) := ⟨_, (rfl : _ = _)⟩
    have hXl : Hid (X.length ≤ 16777216 ∧ Y.length ≤ 16777216) := by rw [← hX.out, ← hY.out]; exact lx_len s
    rw [hX.out, hY.out, hE.out] at hk
    rw [hX.out, hY.out, hN.out] at hd
    rw [hE.out, hN.out] at hnu
    clear hX hY hE hN
    go_wp2_with fail
    refine (hk.out w1 Bx.out).mono ?_
    rintro e w3 ⟨va, vb, rfl, T1, B3⟩
    have Bx3 : Hid (Below w.heap.size w w3) := Bx.out.trans (B3.mono Bx.out.size)
    have X3 : Hid (Bst w3 g s.op s.dst s.src s.jump s.count s.n s.k) := Xx.out.below B3
    have T1H : Hid (TwoL w3 w1.heap.size va X vb Y) := T1
    have w13 : Hid (w1.heap.size ≤ w3.heap.size) := B3.size
    clear y0 y1 y2 y3 y4 y5 y6 B3 T1
    obtain ⟨y0, y1, y2, y3, y4, y5, y6⟩ := X3.out
    go_wp2_with fail
    refine (hk.out w3 Bx3.out).mono ?_
    rintro e w4 ⟨vc, vd, rfl, T2, B4⟩
    have Bx4 : Hid (Below w.heap.size w w4) := Bx3.out.trans (B4.mono Bx3.out.size)
    have X4 : Hid (Bst w4 g s.op s.dst s.src s.jump s.count s.n s.k) := X3.out.below B4
    have T2H : Hid (TwoL w4 w3.heap.size vc X vd Y) := T2
    have T1a : Hid (TwoL w4 w1.heap.size va X vb Y) := ⟨ow8 T1H.out.o1 B4, ow8 T1H.out.o2 B4, T1H.out.ap⟩
    have lt1 : Hid ((∀ b, va.ownBlock = some b → b < w3.heap.size) ∧ ∀ b, vb.ownBlock = some b → b < w3.heap.size) := ⟨fun b h => (T1H.out.o1.lt b h).2, fun b h => (T1H.out.o2.lt b h).2⟩
    have hw34 : Hid (w3.heap.size ≤ w4.heap.size) := B4.size
    clear y0 y1 y2 y3 y4 y5 y6 B4 T2 T1H
    obtain ⟨y0, y1, y2, y3, y4, y5, y6⟩ := X4.out
    go_wp2_with fail
    refine (hd.out w4).mono ?_
    rintro e w5 ⟨vx, vy, rfl, ox, oy, B5⟩
    have Bx5 : Hid (Below w.heap.size w w5) := Bx4.out.trans (B5.mono Bx4.out.size)
    have oxH : Hid (w5.ownsRow w4.heap.size 3 1 vx X.length (il X)) := ox
    have oyH : Hid (w5.ownsRow w4.heap.size 3 1 vy Y.length (il Y)) := oy
    have T1b : Hid (TwoL w5 w1.heap.size va X vb Y) := ⟨ow8 T1a.out.o1 B5, ow8 T1a.out.o2 B5, T1a.out.ap⟩
    have T2b : Hid (TwoL w5 w3.heap.size vc X vd Y) := ⟨ow8 T2H.out.o1 B5, ow8 T2H.out.o2 B5, T2H.out.ap⟩
    have hw45 : Hid (w4.heap.size ≤ w5.heap.size) := B5.size
    clear y0 y1 y2 y3 y4 y5 y6 B5 ox oy T1a T2H
    have hn5 : Hid (∀ W, Below w5.heap.size w5 W → Calls Tryd.prog 13 #[E] W fun e w' => e = .returned (.int .i64 N) ∧ Below w5.heap.size w5 w') := fun W hW => (hnu.out W (Bx5.out.trans (hW.mono Bx5.out.size))).mono fun e w' ⟨h1, h2⟩ => ⟨h1, hW.trans (h2.mono hW.size)⟩
    have sax : Hid (∀ W, Below w5.heap.size w5 W → Calls Tryd.prog 21 #[va, vx] W fun e w' => e = .returned (.bool true) ∧ Below w5.heap.size w5 w') := fun W hW => same18_b va vx X w5 W (RdI.of_own T1b.out.o1) (RdI.of_own oxH.out) hXl.out.1 hW
    have sby : Hid (∀ W, Below w5.heap.size w5 W → Calls Tryd.prog 21 #[vb, vy] W fun e w' => e = .returned (.bool true) ∧ Below w5.heap.size w5 w') := fun W hW => same18_b vb vy Y w5 W (RdI.of_own T1b.out.o2) (RdI.of_own oyH.out) hXl.out.2 hW
    have scx : Hid (∀ W, Below w5.heap.size w5 W → Calls Tryd.prog 21 #[vc, vx] W fun e w' => e = .returned (.bool true) ∧ Below w5.heap.size w5 w') := fun W hW => same18_b vc vx X w5 W (RdI.of_own T2b.out.o1) (RdI.of_own oxH.out) hXl.out.1 hW
    have sdy : Hid (∀ W, Below w5.heap.size w5 W → Calls Tryd.prog 21 #[vd, vy] W fun e w' => e = .returned (.bool true) ∧ Below w5.heap.size w5 w') := fun W hW => same18_b vd vy Y w5 W (RdI.of_own T2b.out.o2) (RdI.of_own oyH.out) hXl.out.2 hW
    clear hk hd hnu
    go_wp2_with fail
    refine (hn5.out w5 (Below.refl _ _)).mono ?_
    rintro e w6 ⟨rfl, B'⟩
    have D6 : Hid (Below w5.heap.size w5 w6) := B'
    clear B'
    go_wp2_with fail
    refine (hn5.out w6 D6.out).mono ?_
    rintro e w7 ⟨rfl, B'⟩
    have D7 : Hid (Below w5.heap.size w5 w7) := B'
    clear B'
    go_wp2_with fail
    refine (sax.out w7 D7.out).mono ?_
    rintro e w8 ⟨rfl, B'⟩
    have D8 : Hid (Below w5.heap.size w5 w8) := B'
    clear B'
    go_wp2_with fail
    refine (sby.out w8 D8.out).mono ?_
    rintro e w9 ⟨rfl, B'⟩
    have D9 : Hid (Below w5.heap.size w5 w9) := B'
    clear B'
    go_wp2_with fail
    refine (scx.out w9 D9.out).mono ?_
    rintro e w10 ⟨rfl, B'⟩
    have D10 : Hid (Below w5.heap.size w5 w10) := B'
    clear B'
    go_wp2_with fail
    refine (sdy.out w10 D10.out).mono ?_
    rintro e w11 ⟨rfl, B'⟩
    have D11 : Hid (Below w5.heap.size w5 w11) := B'
    clear B'
    obtain ⟨aoa, ca, rfl, hra⟩ := RdI.of_own T1b.out.o1
    have oa11 : Hid (w11.ownsRow w1.heap.size 3 1 (.slice aoa X.length ca) X.length (il X)) := ow8 T1b.out.o1 D11.out
    clear hn5 sax sby scx sdy hra
    obtain ⟨n, hn⟩ : ∃ z, Hid (X.length = z) := ⟨_, (rfl : _ = _)⟩
    rw [hn.out] at oa11 T1b lt1 ⊢
    have hnb : n ≤ 16777216 := by rw [← hn.out]; exact hXl.out.1
    go_wp2
    go_loopw [12, 92] (fun _ i wr => ∃ k : Nat, k ≤ n ∧ i = .int .i64 k ∧ Hid (Fr (fun b => (Value.slice aoa n ca).ownBlock = some b) w11 wr) ∧ Hid (∃ xs, wr.ownsRow w1.heap.size 3 1 (.slice aoa n ca) n xs)) (fun _ i _ => n - (intOf i).toNat)
    case atStart => exact ⟨0, Nat.zero_le _, rfl, Fr.refl _ _, ⟨_, oa11.out⟩⟩
    case round =>
      obtain ⟨k, hk, rfl, F1, O1⟩ := hrel
      by_cases hlt : k < n
      · have hlt' : (k : Int) < (n : Int) := by omega
        obtain ⟨xs, O1'⟩ := O1.out
        obtain ⟨ga, rfl⟩ := own_one18 O1' (by omega)
        obtain ⟨O2', fz, u, hu⟩ := own_set18 O1' hlt (.int .i64 (-5))
        have hF2 : Hid (Fr (fun b => (Value.slice (some ⟨ga, 0, none⟩) n ca).ownBlock = some b) w11 (wr.setCell ⟨ga, k, none⟩ (.int .i64 (-5)))) := Fr.setCell (p := ⟨ga, k, none⟩) F1.out rfl _
        have hO2 : Hid (∃ xs, (wr.setCell ⟨ga, k, none⟩ (.int .i64 (-5))).ownsRow w1.heap.size 3 1 (.slice (some ⟨ga, 0, none⟩) n ca) n xs) := ⟨_, O2'⟩
        clear O1' O2' O1 F1
        go_wp2
        go_roundw
        case rel => exact ⟨k + 1, by omega, by go_num, hF2, hO2⟩
        case measure => simp [intOf]; omega
      · have hlt' : decide ((k : Int) < (n : Int)) = false := decide_eq_false (by omega)
        have wB : w.heap.size ≤ w1.heap.size := Bx.out.size
        have ltA : ∀ b, (Value.slice aoa n ca).ownBlock = some b → w1.heap.size ≤ b ∧ b < w3.heap.size := fun b h => ⟨(oa11.out.lt b h).1, lt1.out.1 b h⟩
        have ap1 : ∀ b, vb.ownBlock = some b → ¬ (Value.slice aoa n ca).ownBlock = some b := fun b h h2 => T1b.out.ap b h2 h
        have ob1 : wr.ownsRow w1.heap.size 3 1 vb Y.length (il Y) := Fr.owns F1.out (ow8 T1b.out.o2 D11.out) ap1
        have oy1 : wr.ownsRow w4.heap.size 3 1 vy Y.length (il Y) := Fr.owns F1.out (ow8 oyH.out D11.out) fun b h h2 => by have := (oyH.out.lt b h).1; have := (ltA b h2).2; have := hw34.out; omega
        have ox1 : wr.ownsRow w4.heap.size 3 1 vx X.length (il X) := Fr.owns F1.out (ow8 oxH.out D11.out) fun b h h2 => by have := (oxH.out.lt b h).1; have := (ltA b h2).2; have := hw34.out; omega
        have oc1 : wr.ownsRow w3.heap.size 3 1 vc X.length (il X) := Fr.owns F1.out (ow8 T2b.out.o1 D11.out) fun b h h2 => by have := (T2b.out.o1.lt b h).1; have := (ltA b h2).2; omega
        have od1 : wr.ownsRow w3.heap.size 3 1 vd Y.length (il Y) := Fr.owns F1.out (ow8 T2b.out.o2 D11.out) fun b h h2 => by have := (T2b.out.o2.lt b h).1; have := (ltA b h2).2; omega
        have B11 : Below w.heap.size w w11 := Bx5.out.trans (D11.out.mono Bx5.out.size)
        have Bw : Below w.heap.size w wr := F1.out.below B11 B11.size fun k _ hk => Nat.le_trans wB (ltA k hk).1
        have sz1 : w3.heap.size ≤ wr.heap.size := by have h1 := Bx5.out; have := F1.out.size; have := D11.out.size; have := hw45.out; have := hw34.out; omega
        have sbb : Hid (Calls Tryd.prog 21 #[vb, vy] wr fun e w' => e = .returned (.bool true) ∧ Below wr.heap.size wr w') := same18_b vb vy Y wr wr (RdI.of_own ob1) (RdI.of_own oy1) hXl.out.2 (Below.refl _ _)
        obtain ⟨xa, oa1⟩ := O1.out
        go_wp2_with fail
        refine sbb.out.mono ?_
        rintro e w12 ⟨rfl, D12⟩
        have OA : Hid (w12.ownsRow w1.heap.size 3 1 (.slice aoa n ca) n xa) := ow8 oa1 D12
        have OY : Hid (w12.ownsRow w4.heap.size 3 1 vy Y.length (il Y)) := ow8 oy1 D12
        have OX : Hid (w12.ownsRow w4.heap.size 3 1 vx X.length (il X)) := ow8 ox1 D12
        have OC : Hid (w12.ownsRow w3.heap.size 3 1 vc X.length (il X)) := ow8 oc1 D12
        have OD : Hid (w12.ownsRow w3.heap.size 3 1 vd Y.length (il Y)) := ow8 od1 D12
        have BW : Hid (Below w.heap.size w w12) := Bw.trans (D12.mono Bw.size)
        have SZ : Hid (w3.heap.size ≤ w12.heap.size) := Nat.le_trans sz1 D12.size
        have OB0 := ow8 ob1 D12
        obtain ⟨aob, cb, rfl, -⟩ := RdI.of_own OB0
        obtain ⟨m, hm⟩ : ∃ z, Hid (Y.length = z) := ⟨_, (rfl : _ = _)⟩
        have hmb : m ≤ 16777216 := by rw [← hm.out]; exact hXl.out.2
        have AP : Hid (∀ b, (Value.slice aob m cb).ownBlock = some b → ¬ (Value.slice aoa n ca).ownBlock = some b) := by rw [hm.out] at ap1; exact ap1
        have LB : Hid (∀ b, (Value.slice aob m cb).ownBlock = some b → b < w3.heap.size) := by have := lt1.out.2; rw [hm.out] at this; exact this
        have OB : Hid (w12.ownsRow w1.heap.size 3 1 (.slice aob m cb) m (il Y)) := by rw [hm.out] at OB0; exact OB0
        have LA : Hid (∀ b, (Value.slice aoa n ca).ownBlock = some b → w1.heap.size ≤ b ∧ b < w3.heap.size) := ltA
        rw [hm.out]
        clear OB0 D12 oa1 sbb sz1 Bw B11 od1 oc1 ox1 oy1 ob1 ap1 ltA F1 O1 lt1 T1b T2b oxH oyH D6 D7 D8 D9 D10 D11 oa11 Bx3 Bx4 Bx5 X2 X3 X4 Xx hlt'
        go_wp2
        go_loopw [13, 105] (fun _ i wr => ∃ k : Nat, k ≤ m ∧ i = .int .i64 k ∧ Hid (Fr (fun b => (Value.slice aob m cb).ownBlock = some b) w12 wr) ∧ Hid (∃ xs, wr.ownsRow w1.heap.size 3 1 (.slice aob m cb) m xs)) (fun _ i _ => m - (intOf i).toNat)
        case atStart => exact ⟨0, Nat.zero_le _, rfl, Fr.refl _ _, ⟨_, OB.out⟩⟩
        case round =>
          obtain ⟨l, hl, rfl, F2, O2⟩ := hrel
          by_cases hlt2 : l < m
          · have hlt2' : (l : Int) < (m : Int) := by omega
            obtain ⟨xs, O1'⟩ := O2.out
            obtain ⟨gb, rfl⟩ := own_one18 O1' (by omega)
            obtain ⟨O2', fz, u, hu⟩ := own_set18 O1' hlt2 (.int .i64 (-6))
            have hF2 : Hid (Fr (fun b => (Value.slice (some ⟨gb, 0, none⟩) m cb).ownBlock = some b) w12 (wr.setCell ⟨gb, l, none⟩ (.int .i64 (-6)))) := Fr.setCell (p := ⟨gb, l, none⟩) F2.out rfl _
            have hO2 : Hid (∃ xs, (wr.setCell ⟨gb, l, none⟩ (.int .i64 (-6))).ownsRow w1.heap.size 3 1 (.slice (some ⟨gb, 0, none⟩) m cb) m xs) := ⟨_, O2'⟩
            clear O1' O2' O2 F2
            go_wp2
            go_roundw
            case rel => exact ⟨l + 1, by omega, by go_num, hF2, hO2⟩
            case measure => simp [intOf]; omega
          · have hlt2' : decide ((l : Int) < (m : Int)) = false := decide_eq_false (by omega)
            obtain ⟨xb, ob2⟩ := O2.out
            have oa2 : wr.ownsRow w1.heap.size 3 1 (.slice aoa n ca) n xa := Fr.owns F2.out OA.out fun b h h2 => AP.out b h2 h
            have oy2 : Hid (wr.ownsRow w4.heap.size 3 1 vy Y.length (il Y)) := Fr.owns F2.out OY.out fun b h h2 => by have := (OY.out.lt b h).1; have := LB.out b h2; have := hw34.out; omega
            have ox2 : Hid (wr.ownsRow w4.heap.size 3 1 vx X.length (il X)) := Fr.owns F2.out OX.out fun b h h2 => by have := (OX.out.lt b h).1; have := LB.out b h2; have := hw34.out; omega
            have oc2 : Hid (wr.ownsRow w3.heap.size 3 1 vc X.length (il X)) := Fr.owns F2.out OC.out fun b h h2 => by have := (OC.out.lt b h).1; have := LB.out b h2; omega
            have od2 : Hid (wr.ownsRow w3.heap.size 3 1 vd Y.length (il Y)) := Fr.owns F2.out OD.out fun b h h2 => by have := (OD.out.lt b h).1; have := LB.out b h2; omega
            have Bw2 : Hid (Below w.heap.size w wr) := F2.out.below BW.out BW.out.size fun k _ hk => Nat.le_trans wB (OB.out.lt k hk).1
            have sz2 : Hid (w3.heap.size ≤ wr.heap.size) := Nat.le_trans SZ.out F2.out.size
            have w1r : w1.heap.size ≤ wr.heap.size := Nat.le_trans w13.out sz2.out
            have lxa : Hid (xa.length = n) := by have := oa2.1; show _ = _; omega
            have lxb : Hid (xb.length = m) := by have := ob2.1; show _ = _; omega
            have oa2H : Hid (wr.ownsRow w1.heap.size 3 1 (.slice aoa n ca) n xa) := oa2
            have ob2H : Hid (wr.ownsRow w1.heap.size 3 1 (.slice aob m cb) m xb) := ob2
            have w1rH : Hid (w1.heap.size ≤ wr.heap.size) := w1r
            have hkn : (n + 1) * 8 ≤ 140737488355328 := by omega
            have hkm : Hid ((m + 1) * 8 ≤ 140737488355328) := by show _ ≤ _; omega
            have nbH : Hid (n ≤ 16777216 ∧ m ≤ 16777216) := ⟨hnb, hmb⟩
            clear F2 O2 oa2 ob2 OA OY OX OC OD OB BW SZ w1r hnb hmb
            go_wp2_with (first | (at_builtin; refine appV18 _ rfl _ _ rfl w1.heap.size n xa (.int .i64 (-7)) _ _ rfl rfl rfl (oa2H.out.alloc _) (by simp [go_sem]) hkn (by simp; exact Nat.le_succ_of_le w1rH.out) ?_) | fail)
            intro va2 w14 ho hg2 hbk
            have wzs : wr.heap.size ≤ (wr.alloc (.cells #[.int .i64 (-7)] 3)).heap.size := by simp
            have oa3 : Hid (w14.ownsRow w1.heap.size 3 1 va2 (n + 1) (xa ++ [.int .i64 (-7)])) := ho
            have ob3 : Hid (w14.ownsRow w1.heap.size 3 1 (.slice aob m cb) m xb) := kept18 (ob2H.out.alloc _) hg2 fun b h e => AP.out b h e
            have oy3 : Hid (w14.ownsRow w4.heap.size 3 1 vy Y.length (il Y)) := kept18 (oy2.out.alloc _) hg2 fun b h e => by have := (oy2.out.lt b h).1; have := (LA.out b e).2; have := hw34.out; omega
            have ox3 : Hid (w14.ownsRow w4.heap.size 3 1 vx X.length (il X)) := kept18 (ox2.out.alloc _) hg2 fun b h e => by have := (ox2.out.lt b h).1; have := (LA.out b e).2; have := hw34.out; omega
            have oc3 : Hid (w14.ownsRow w3.heap.size 3 1 vc X.length (il X)) := kept18 (oc2.out.alloc _) hg2 fun b h e => by have := (oc2.out.lt b h).1; have := (LA.out b e).2; omega
            have od3 : Hid (w14.ownsRow w3.heap.size 3 1 vd Y.length (il Y)) := kept18 (od2.out.alloc _) hg2 fun b h e => by have := (od2.out.lt b h).1; have := (LA.out b e).2; omega
            have ap3 : Hid (∀ b, va2.ownBlock = some b → ¬ (Value.slice aob m cb).ownBlock = some b) := fun b h h2 => by
              rcases hbk b h with h3 | h3
              · exact AP.out b h2 h3
              · have := LB.out b h2; have := sz2.out; omega
            have Bw3 : Hid (Below w.heap.size w w14) := (Bw2.out.alloc Bw2.out.size _).grown hg2 (by have := Bw2.out.size; omega) (fun k hk => Nat.le_trans wB (LA.out k hk).1)
            have sz3 : Hid (w3.heap.size ≤ w14.heap.size) := by have := hg2.size; have := sz2.out; show _ ≤ _; omega
            have w1s : Hid (w1.heap.size ≤ w14.heap.size) := Nat.le_trans w13.out sz3.out
            clear ho hg2 hbk wzs ob2H oa2H oy2 ox2 oc2 od2 Bw2 sz2 w1rH hkn
            go_wp2_with (first | (at_builtin; refine appV18 _ rfl _ _ rfl w1.heap.size m xb (.int .i64 (-8)) _ _ rfl rfl rfl (ob3.out.alloc _) (by simp [go_sem]) hkm.out (by simp; exact Nat.le_succ_of_le w1s.out) ?_) | fail)
            intro vb2 w15 ho hg2 hbk
            have oa4 : w15.ownsRow w1.heap.size 3 1 va2 (n + 1) (xa ++ [.int .i64 (-7)]) := kept18 (oa3.out.alloc _) hg2 fun b h e => ap3.out b h e
            have oy4 : w15.ownsRow w4.heap.size 3 1 vy Y.length (il Y) := kept18 (oy3.out.alloc _) hg2 fun b h e => by have := (oy3.out.lt b h).1; have := LB.out b e; have := hw34.out; omega
            have ox4 : w15.ownsRow w4.heap.size 3 1 vx X.length (il X) := kept18 (ox3.out.alloc _) hg2 fun b h e => by have := (ox3.out.lt b h).1; have := LB.out b e; have := hw34.out; omega
            have oc4 : w15.ownsRow w3.heap.size 3 1 vc X.length (il X) := kept18 (oc3.out.alloc _) hg2 fun b h e => by have := (oc3.out.lt b h).1; have := LB.out b e; omega
            have od4 : w15.ownsRow w3.heap.size 3 1 vd Y.length (il Y) := kept18 (od3.out.alloc _) hg2 fun b h e => by have := (od3.out.lt b h).1; have := LB.out b e; omega
            have Bw4 : Hid (Below w.heap.size w w15) := (Bw3.out.alloc Bw3.out.size _).grown hg2 (by have := Bw3.out.size; simp; omega) (fun k hk => Nat.le_trans wB (ob3.out.lt k hk).1)
            obtain ⟨ga, cga, rfl, ca4⟩ := own_last18 oa4 lxa.out
            obtain ⟨gb, cgb, rfl, cb4⟩ := own_last18 ho lxb.out
            have scx : Hid (Calls Tryd.prog 21 #[vc, vx] w15 fun e w' => e = .returned (.bool true) ∧ Below w15.heap.size w15 w') := same18_b vc vx X w15 w15 (RdI.of_own oc4) (RdI.of_own ox4) hXl.out.1 (Below.refl _ _)
            have sdy : Hid (∀ W, Below w15.heap.size w15 W → Calls Tryd.prog 21 #[vd, vy] W fun e w' => e = .returned (.bool true) ∧ Below w15.heap.size w15 w') := fun W hW => same18_b vd vy Y w15 W (RdI.of_own od4) (RdI.of_own oy4) hXl.out.2 hW
            have caH : Hid (w15.cell? ⟨ga, n, none⟩ = some (.int .i64 (-7))) := ca4
            have cbH : Hid (w15.cell? ⟨gb, m, none⟩ = some (.int .i64 (-8))) := cb4
            clear ho hg2 hbk oa4 oy4 ox4 oc4 od4 ca4 cb4 oa3 ob3 oy3 ox3 oc3 od3 ap3
            go_wp2_with fail
            refine scx.out.mono ?_
            rintro e w16 ⟨rfl, D16⟩
            have D16H : Hid (Below w15.heap.size w15 w16) := D16
            clear D16
            go_wp2_with fail
            refine (sdy.out w16 D16H.out).mono ?_
            rintro e w17 ⟨rfl, D17⟩
            have ca5 : w17.cell? ⟨ga, n, none⟩ = some (.int .i64 (-7)) := (D17.cell (p := ⟨ga, n, none⟩) (cell_lt caH.out)).trans caH.out
            have cb5 : w17.cell? ⟨gb, m, none⟩ = some (.int .i64 (-8)) := (D17.cell (p := ⟨gb, m, none⟩) (cell_lt cbH.out)).trans cbH.out
            have hB : Hid (Below w.heap.size w w17) := Bw4.out.trans (D17.mono Bw4.out.size)
            have k1 : wrap64 (n : Int) = (n : Int) := by have := nbH.out; unfold wrap64; omega
            have k2 : wrap64 (m : Int) = (m : Int) := by have := nbH.out; unfold wrap64; omega
            clear D17 D16H scx sdy caH cbH
            go_wp2
            go_ret
            exact ⟨rfl, hB.out⟩
end Go.Proofs.YtmnbpmmilfkjiaaDoor
