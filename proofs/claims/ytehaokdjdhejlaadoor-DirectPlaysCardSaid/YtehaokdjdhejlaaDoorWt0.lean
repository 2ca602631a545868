/-
  Floats watched: what See, Product, Sum, Less, SeeC, Add and Mul leave of the flag, and what is known where it stays down.
-/
import Derived.Test.YtehaokdjdhejlaaDoorTr0
import Derived.Test.YtehaokdjdhejlaaDoorFrm
import Derived.Test.YtehaokdjdhejlaaDoorLow
import Derived.Test.YtehaokdjdhejlaaDoorCpx
namespace Go.Proofs.YtehaokdjdhejlaaDoor
open Flo Go.RowKit Ieee
/-- the flag, at block g -/
structure Wt (w : World) (g : Nat) (b : Bool) : Prop where
  c : w.cell? ⟨g, 0, none⟩ = some (.bool b)
  f : w.frozen? ⟨g, 0, none⟩ = false
theorem Wt.set {w : World} {g : Nat} {b : Bool} (h : Wt w g b) (c : Bool) : Wt (w.setCell ⟨g, 0, none⟩ (.bool c)) g c :=
  ⟨World.cell?_setCell_same _ _ _ h.c, by rw [World.frozen?_setCell]; exact h.f⟩
theorem Wt.drewN {w : World} {g : Nat} {b : Bool} (h : Wt w g b) (k : Nat) : Wt (w.drewN k) g b := ⟨h.c, h.f⟩
theorem Fr.drewN {S : Nat → Prop} {a w : World} (h : Fr S a w) (k : Nat) : Fr S a (w.drewN k) := ⟨h.os, h.tape, h.output, h.size, h.block⟩
theorem nan_of {x y : Nat} {o : Ordering} (hx : x < 18446744073709551616) (hy : y < 18446744073709551616) (h : double.order x y = some o) : nanB x = false := by
  cases o
  · have := lt_iff x y hx hy; rw [h] at this; simp at this; exact this.1.1
  · have := eq_iff x y hx hy; rw [h] at this; simp at this; exact this.1.1
  · have := gt_iff x y hx hy; rw [h] at this; simp at this; exact this.1.1
theorem sv_eq {x y : Nat} (hx : x < 18446744073709551616) (hy : y < 18446744073709551616) (h : double.order x y = some .eq) : sv x = sv y := by
  have := eq_iff x y hx hy; rw [h] at this; simp at this; exact this.2
theorem sv_lt {x y : Nat} (hx : x < 18446744073709551616) (hy : y < 18446744073709551616) (h : double.order x y = some .lt) : sv x < sv y := by
  have := lt_iff x y hx hy; rw [h] at this; simp at this; exact this.2
theorem sv_gt {x y : Nat} (hx : x < 18446744073709551616) (hy : y < 18446744073709551616) (h : double.order x y = some .gt) : sv y < sv x := by
  have := gt_iff x y hx hy; rw [h] at this; simp at this; exact this.2
theorem gmod {f g : Nat} (hf : f < 18446744073709551616) (hg : g = f ∨ g = Ari.ng f) : g < 18446744073709551616 ∧ f % 9223372036854775808 = g % 9223372036854775808 := by
  rcases hg with rfl | rfl
  · exact ⟨hf, rfl⟩
  · exact ⟨Ari.ng_lt hf, (Ari.ng_mod hf).symm⟩
theorem okA {f g : Nat} (hf : f < 18446744073709551616) (hg : g = f ∨ g = Ari.ng f) (h : double.order g 0 = some .eq) : Tr.Ok f := by
  obtain ⟨g1, g2⟩ := gmod hf hg
  have := sv_eq g1 (by decide) h
  refine ⟨hf, .inl ?_⟩
  rw [g2]
  unfold sv at this
  split at this <;> simp at this <;> omega
theorem okB {f g : Nat} (hf : f < 18446744073709551616) (hg : g = f ∨ g = Ari.ng f) (h1 : sv 553942754166571008 ≤ sv g) (h2 : sv g ≤ sv 8660422083433463808) : Tr.Ok f := by
  obtain ⟨g1, g2⟩ := gmod hf hg
  have e1 := Tr.pw_lo
  have e2 := Tr.pw_hi
  have e3 : sv 553942754166571008 = 553942754166571008 := by decide
  have e4 : sv 8660422083433463808 = 8660422083433463808 := by decide
  rw [e3] at h1
  rw [e4] at h2
  refine ⟨hf, .inr ?_⟩
  rw [g2]
  unfold sv at h1 h2
  split at h1
  · rename_i c
    rw [if_pos c] at h2
    omega
  · omega

set_option maxHeartbeats 2000000 in
theorem see_c (g f : Nat) (b : Bool) (w : World) (hW0 : Wt w g b) (hf : f < 18446744073709551616) :
    Calls Tryd.prog 55 #[.pointer (some ⟨g, 0, none⟩), .float .f64 f] w fun e w' => e = .returned (.float .f64 f) ∧ ∃ b', Wt w' g b' ∧ Fr (fun k => k = g) w w' ∧ (b' = false → b = false ∧ Tr.Ok f) := by
  have hW : Hid (Wt w g b) := hW0
  have hS : Hid (Wt (w.setCell ⟨g, 0, none⟩ (.bool true)) g true) := hW0.set true
  have hFs : Hid (Fr (fun k => k = g) w (w.setCell ⟨g, 0, none⟩ (.bool true))) := Fr.setCell (S := fun k => k = g) (Fr.refl _ w) (p := ⟨g, 0, none⟩) rfl _
  have k1 := hW0.c
  have k2 := hW0.f
  have hn := fun w => run_fneg (P := Tryd.prog) f w hf
  have hf' : f < 18446744073709551616 := hf
  clear hW0 hf
  cases h0 : FloatKind.f64.format.order f 0 with
  | none =>
    cases hl : FloatKind.f64.format.order f 553942754166571008 with
    | none =>
      go_enter Tryd.func55, Tryd.ntmps55
      go_wp2
      go_ret
      exact ⟨rfl, true, hS.out, hFs.out, fun h => by cases h⟩
    | some ol =>
      cases ol with
      | lt =>
        go_enter Tryd.func55, Tryd.ntmps55
        go_wp2
        go_ret
        exact ⟨rfl, true, hS.out, hFs.out, fun h => by cases h⟩
      | eq =>
        have hll : Hid (double.order f 553942754166571008 = some .eq) := hl
        cases hh : FloatKind.f64.format.order f 8660422083433463808 with
        | none =>
          go_enter Tryd.func55, Tryd.ntmps55
          go_wp2
          go_ret
          exact ⟨rfl, true, hS.out, hFs.out, fun h => by cases h⟩
        | some oh =>
          cases oh with
          | gt =>
            go_enter Tryd.func55, Tryd.ntmps55
            go_wp2
            go_ret
            exact ⟨rfl, true, hS.out, hFs.out, fun h => by cases h⟩
          | eq =>
            have hhh : Hid (double.order f 8660422083433463808 = some .eq) := hh
            go_enter Tryd.func55, Tryd.ntmps55
            go_wp2
            go_ret
            exact ⟨rfl, b, hW.out, Fr.refl _ _, fun h => ⟨h, okB hf' (.inl rfl) (Int.le_of_eq (sv_eq (gmod hf' (.inl rfl)).1 (by decide) hll.out).symm) (Int.le_of_eq (sv_eq (gmod hf' (.inl rfl)).1 (by decide) hhh.out))⟩⟩
          | lt =>
            have hhh : Hid (double.order f 8660422083433463808 = some .lt) := hh
            go_enter Tryd.func55, Tryd.ntmps55
            go_wp2
            go_ret
            exact ⟨rfl, b, hW.out, Fr.refl _ _, fun h => ⟨h, okB hf' (.inl rfl) (Int.le_of_eq (sv_eq (gmod hf' (.inl rfl)).1 (by decide) hll.out).symm) (Int.le_of_lt (sv_lt (gmod hf' (.inl rfl)).1 (by decide) hhh.out))⟩⟩
      | gt =>
        have hll : Hid (double.order f 553942754166571008 = some .gt) := hl
        cases hh : FloatKind.f64.format.order f 8660422083433463808 with
        | none =>
          go_enter Tryd.func55, Tryd.ntmps55
          go_wp2
          go_ret
          exact ⟨rfl, true, hS.out, hFs.out, fun h => by cases h⟩
        | some oh =>
          cases oh with
          | gt =>
            go_enter Tryd.func55, Tryd.ntmps55
            go_wp2
            go_ret
            exact ⟨rfl, true, hS.out, hFs.out, fun h => by cases h⟩
          | eq =>
            have hhh : Hid (double.order f 8660422083433463808 = some .eq) := hh
            go_enter Tryd.func55, Tryd.ntmps55
            go_wp2
            go_ret
            exact ⟨rfl, b, hW.out, Fr.refl _ _, fun h => ⟨h, okB hf' (.inl rfl) (Int.le_of_lt (sv_gt (gmod hf' (.inl rfl)).1 (by decide) hll.out)) (Int.le_of_eq (sv_eq (gmod hf' (.inl rfl)).1 (by decide) hhh.out))⟩⟩
          | lt =>
            have hhh : Hid (double.order f 8660422083433463808 = some .lt) := hh
            go_enter Tryd.func55, Tryd.ntmps55
            go_wp2
            go_ret
            exact ⟨rfl, b, hW.out, Fr.refl _ _, fun h => ⟨h, okB hf' (.inl rfl) (Int.le_of_lt (sv_gt (gmod hf' (.inl rfl)).1 (by decide) hll.out)) (Int.le_of_lt (sv_lt (gmod hf' (.inl rfl)).1 (by decide) hhh.out))⟩⟩
  | some o0 =>
    cases o0 with
    | lt =>
      generalize hgn : Ari.ng f = n at *
      have hgH : Hid (n = Ari.ng f) := hgn.symm
      clear hgn
      cases hz : FloatKind.f64.format.order n 0 with
      | none =>
        cases hl : FloatKind.f64.format.order n 553942754166571008 with
        | none =>
          go_enter Tryd.func55, Tryd.ntmps55
          go_wp2
          go_ret
          exact ⟨rfl, true, hS.out, hFs.out, fun h => by cases h⟩
        | some ol =>
          cases ol with
          | lt =>
            go_enter Tryd.func55, Tryd.ntmps55
            go_wp2
            go_ret
            exact ⟨rfl, true, hS.out, hFs.out, fun h => by cases h⟩
          | eq =>
            have hll : Hid (double.order n 553942754166571008 = some .eq) := hl
            cases hh : FloatKind.f64.format.order n 8660422083433463808 with
            | none =>
              go_enter Tryd.func55, Tryd.ntmps55
              go_wp2
              go_ret
              exact ⟨rfl, true, hS.out, hFs.out, fun h => by cases h⟩
            | some oh =>
              cases oh with
              | gt =>
                go_enter Tryd.func55, Tryd.ntmps55
                go_wp2
                go_ret
                exact ⟨rfl, true, hS.out, hFs.out, fun h => by cases h⟩
              | eq =>
                have hhh : Hid (double.order n 8660422083433463808 = some .eq) := hh
                go_enter Tryd.func55, Tryd.ntmps55
                go_wp2
                go_ret
                exact ⟨rfl, b, hW.out, Fr.refl _ _, fun h => ⟨h, okB hf' (.inr hgH.out) (Int.le_of_eq (sv_eq (gmod hf' (.inr hgH.out)).1 (by decide) hll.out).symm) (Int.le_of_eq (sv_eq (gmod hf' (.inr hgH.out)).1 (by decide) hhh.out))⟩⟩
              | lt =>
                have hhh : Hid (double.order n 8660422083433463808 = some .lt) := hh
                go_enter Tryd.func55, Tryd.ntmps55
                go_wp2
                go_ret
                exact ⟨rfl, b, hW.out, Fr.refl _ _, fun h => ⟨h, okB hf' (.inr hgH.out) (Int.le_of_eq (sv_eq (gmod hf' (.inr hgH.out)).1 (by decide) hll.out).symm) (Int.le_of_lt (sv_lt (gmod hf' (.inr hgH.out)).1 (by decide) hhh.out))⟩⟩
          | gt =>
            have hll : Hid (double.order n 553942754166571008 = some .gt) := hl
            cases hh : FloatKind.f64.format.order n 8660422083433463808 with
            | none =>
              go_enter Tryd.func55, Tryd.ntmps55
              go_wp2
              go_ret
              exact ⟨rfl, true, hS.out, hFs.out, fun h => by cases h⟩
            | some oh =>
              cases oh with
              | gt =>
                go_enter Tryd.func55, Tryd.ntmps55
                go_wp2
                go_ret
                exact ⟨rfl, true, hS.out, hFs.out, fun h => by cases h⟩
              | eq =>
                have hhh : Hid (double.order n 8660422083433463808 = some .eq) := hh
                go_enter Tryd.func55, Tryd.ntmps55
                go_wp2
                go_ret
                exact ⟨rfl, b, hW.out, Fr.refl _ _, fun h => ⟨h, okB hf' (.inr hgH.out) (Int.le_of_lt (sv_gt (gmod hf' (.inr hgH.out)).1 (by decide) hll.out)) (Int.le_of_eq (sv_eq (gmod hf' (.inr hgH.out)).1 (by decide) hhh.out))⟩⟩
              | lt =>
                have hhh : Hid (double.order n 8660422083433463808 = some .lt) := hh
                go_enter Tryd.func55, Tryd.ntmps55
                go_wp2
                go_ret
                exact ⟨rfl, b, hW.out, Fr.refl _ _, fun h => ⟨h, okB hf' (.inr hgH.out) (Int.le_of_lt (sv_gt (gmod hf' (.inr hgH.out)).1 (by decide) hll.out)) (Int.le_of_lt (sv_lt (gmod hf' (.inr hgH.out)).1 (by decide) hhh.out))⟩⟩
      | some oz =>
        cases oz with
        | lt =>
          cases hl : FloatKind.f64.format.order n 553942754166571008 with
          | none =>
            go_enter Tryd.func55, Tryd.ntmps55
            go_wp2
            go_ret
            exact ⟨rfl, true, hS.out, hFs.out, fun h => by cases h⟩
          | some ol =>
            cases ol with
            | lt =>
              go_enter Tryd.func55, Tryd.ntmps55
              go_wp2
              go_ret
              exact ⟨rfl, true, hS.out, hFs.out, fun h => by cases h⟩
            | eq =>
              have hll : Hid (double.order n 553942754166571008 = some .eq) := hl
              cases hh : FloatKind.f64.format.order n 8660422083433463808 with
              | none =>
                go_enter Tryd.func55, Tryd.ntmps55
                go_wp2
                go_ret
                exact ⟨rfl, true, hS.out, hFs.out, fun h => by cases h⟩
              | some oh =>
                cases oh with
                | gt =>
                  go_enter Tryd.func55, Tryd.ntmps55
                  go_wp2
                  go_ret
                  exact ⟨rfl, true, hS.out, hFs.out, fun h => by cases h⟩
                | eq =>
                  have hhh : Hid (double.order n 8660422083433463808 = some .eq) := hh
                  go_enter Tryd.func55, Tryd.ntmps55
                  go_wp2
                  go_ret
                  exact ⟨rfl, b, hW.out, Fr.refl _ _, fun h => ⟨h, okB hf' (.inr hgH.out) (Int.le_of_eq (sv_eq (gmod hf' (.inr hgH.out)).1 (by decide) hll.out).symm) (Int.le_of_eq (sv_eq (gmod hf' (.inr hgH.out)).1 (by decide) hhh.out))⟩⟩
                | lt =>
                  have hhh : Hid (double.order n 8660422083433463808 = some .lt) := hh
                  go_enter Tryd.func55, Tryd.ntmps55
                  go_wp2
                  go_ret
                  exact ⟨rfl, b, hW.out, Fr.refl _ _, fun h => ⟨h, okB hf' (.inr hgH.out) (Int.le_of_eq (sv_eq (gmod hf' (.inr hgH.out)).1 (by decide) hll.out).symm) (Int.le_of_lt (sv_lt (gmod hf' (.inr hgH.out)).1 (by decide) hhh.out))⟩⟩
            | gt =>
              have hll : Hid (double.order n 553942754166571008 = some .gt) := hl
              cases hh : FloatKind.f64.format.order n 8660422083433463808 with
              | none =>
                go_enter Tryd.func55, Tryd.ntmps55
                go_wp2
                go_ret
                exact ⟨rfl, true, hS.out, hFs.out, fun h => by cases h⟩
              | some oh =>
                cases oh with
                | gt =>
                  go_enter Tryd.func55, Tryd.ntmps55
                  go_wp2
                  go_ret
                  exact ⟨rfl, true, hS.out, hFs.out, fun h => by cases h⟩
                | eq =>
                  have hhh : Hid (double.order n 8660422083433463808 = some .eq) := hh
                  go_enter Tryd.func55, Tryd.ntmps55
                  go_wp2
                  go_ret
                  exact ⟨rfl, b, hW.out, Fr.refl _ _, fun h => ⟨h, okB hf' (.inr hgH.out) (Int.le_of_lt (sv_gt (gmod hf' (.inr hgH.out)).1 (by decide) hll.out)) (Int.le_of_eq (sv_eq (gmod hf' (.inr hgH.out)).1 (by decide) hhh.out))⟩⟩
                | lt =>
                  have hhh : Hid (double.order n 8660422083433463808 = some .lt) := hh
                  go_enter Tryd.func55, Tryd.ntmps55
                  go_wp2
                  go_ret
                  exact ⟨rfl, b, hW.out, Fr.refl _ _, fun h => ⟨h, okB hf' (.inr hgH.out) (Int.le_of_lt (sv_gt (gmod hf' (.inr hgH.out)).1 (by decide) hll.out)) (Int.le_of_lt (sv_lt (gmod hf' (.inr hgH.out)).1 (by decide) hhh.out))⟩⟩
        | eq =>
          have hzz : Hid (double.order n 0 = some .eq) := hz
          go_enter Tryd.func55, Tryd.ntmps55
          go_wp2
          go_ret
          exact ⟨rfl, b, hW.out, Fr.refl _ _, fun h => ⟨h, okA hf' (.inr hgH.out) hzz.out⟩⟩
        | gt =>
          cases hl : FloatKind.f64.format.order n 553942754166571008 with
          | none =>
            go_enter Tryd.func55, Tryd.ntmps55
            go_wp2
            go_ret
            exact ⟨rfl, true, hS.out, hFs.out, fun h => by cases h⟩
          | some ol =>
            cases ol with
            | lt =>
              go_enter Tryd.func55, Tryd.ntmps55
              go_wp2
              go_ret
              exact ⟨rfl, true, hS.out, hFs.out, fun h => by cases h⟩
            | eq =>
              have hll : Hid (double.order n 553942754166571008 = some .eq) := hl
              cases hh : FloatKind.f64.format.order n 8660422083433463808 with
              | none =>
                go_enter Tryd.func55, Tryd.ntmps55
                go_wp2
                go_ret
                exact ⟨rfl, true, hS.out, hFs.out, fun h => by cases h⟩
              | some oh =>
                cases oh with
                | gt =>
                  go_enter Tryd.func55, Tryd.ntmps55
                  go_wp2
                  go_ret
                  exact ⟨rfl, true, hS.out, hFs.out, fun h => by cases h⟩
                | eq =>
                  have hhh : Hid (double.order n 8660422083433463808 = some .eq) := hh
                  go_enter Tryd.func55, Tryd.ntmps55
                  go_wp2
                  go_ret
                  exact ⟨rfl, b, hW.out, Fr.refl _ _, fun h => ⟨h, okB hf' (.inr hgH.out) (Int.le_of_eq (sv_eq (gmod hf' (.inr hgH.out)).1 (by decide) hll.out).symm) (Int.le_of_eq (sv_eq (gmod hf' (.inr hgH.out)).1 (by decide) hhh.out))⟩⟩
                | lt =>
                  have hhh : Hid (double.order n 8660422083433463808 = some .lt) := hh
                  go_enter Tryd.func55, Tryd.ntmps55
                  go_wp2
                  go_ret
                  exact ⟨rfl, b, hW.out, Fr.refl _ _, fun h => ⟨h, okB hf' (.inr hgH.out) (Int.le_of_eq (sv_eq (gmod hf' (.inr hgH.out)).1 (by decide) hll.out).symm) (Int.le_of_lt (sv_lt (gmod hf' (.inr hgH.out)).1 (by decide) hhh.out))⟩⟩
            | gt =>
              have hll : Hid (double.order n 553942754166571008 = some .gt) := hl
              cases hh : FloatKind.f64.format.order n 8660422083433463808 with
              | none =>
                go_enter Tryd.func55, Tryd.ntmps55
                go_wp2
                go_ret
                exact ⟨rfl, true, hS.out, hFs.out, fun h => by cases h⟩
              | some oh =>
                cases oh with
                | gt =>
                  go_enter Tryd.func55, Tryd.ntmps55
                  go_wp2
                  go_ret
                  exact ⟨rfl, true, hS.out, hFs.out, fun h => by cases h⟩
                | eq =>
                  have hhh : Hid (double.order n 8660422083433463808 = some .eq) := hh
                  go_enter Tryd.func55, Tryd.ntmps55
                  go_wp2
                  go_ret
                  exact ⟨rfl, b, hW.out, Fr.refl _ _, fun h => ⟨h, okB hf' (.inr hgH.out) (Int.le_of_lt (sv_gt (gmod hf' (.inr hgH.out)).1 (by decide) hll.out)) (Int.le_of_eq (sv_eq (gmod hf' (.inr hgH.out)).1 (by decide) hhh.out))⟩⟩
                | lt =>
                  have hhh : Hid (double.order n 8660422083433463808 = some .lt) := hh
                  go_enter Tryd.func55, Tryd.ntmps55
                  go_wp2
                  go_ret
                  exact ⟨rfl, b, hW.out, Fr.refl _ _, fun h => ⟨h, okB hf' (.inr hgH.out) (Int.le_of_lt (sv_gt (gmod hf' (.inr hgH.out)).1 (by decide) hll.out)) (Int.le_of_lt (sv_lt (gmod hf' (.inr hgH.out)).1 (by decide) hhh.out))⟩⟩
    | eq =>
      have hzz : Hid (double.order f 0 = some .eq) := h0
      go_enter Tryd.func55, Tryd.ntmps55
      go_wp2
      go_ret
      exact ⟨rfl, b, hW.out, Fr.refl _ _, fun h => ⟨h, okA hf' (.inl rfl) hzz.out⟩⟩
    | gt =>
      cases hl : FloatKind.f64.format.order f 553942754166571008 with
      | none =>
        go_enter Tryd.func55, Tryd.ntmps55
        go_wp2
        go_ret
        exact ⟨rfl, true, hS.out, hFs.out, fun h => by cases h⟩
      | some ol =>
        cases ol with
        | lt =>
          go_enter Tryd.func55, Tryd.ntmps55
          go_wp2
          go_ret
          exact ⟨rfl, true, hS.out, hFs.out, fun h => by cases h⟩
        | eq =>
          have hll : Hid (double.order f 553942754166571008 = some .eq) := hl
          cases hh : FloatKind.f64.format.order f 8660422083433463808 with
          | none =>
            go_enter Tryd.func55, Tryd.ntmps55
            go_wp2
            go_ret
            exact ⟨rfl, true, hS.out, hFs.out, fun h => by cases h⟩
          | some oh =>
            cases oh with
            | gt =>
              go_enter Tryd.func55, Tryd.ntmps55
              go_wp2
              go_ret
              exact ⟨rfl, true, hS.out, hFs.out, fun h => by cases h⟩
            | eq =>
              have hhh : Hid (double.order f 8660422083433463808 = some .eq) := hh
              go_enter Tryd.func55, Tryd.ntmps55
              go_wp2
              go_ret
              exact ⟨rfl, b, hW.out, Fr.refl _ _, fun h => ⟨h, okB hf' (.inl rfl) (Int.le_of_eq (sv_eq (gmod hf' (.inl rfl)).1 (by decide) hll.out).symm) (Int.le_of_eq (sv_eq (gmod hf' (.inl rfl)).1 (by decide) hhh.out))⟩⟩
            | lt =>
              have hhh : Hid (double.order f 8660422083433463808 = some .lt) := hh
              go_enter Tryd.func55, Tryd.ntmps55
              go_wp2
              go_ret
              exact ⟨rfl, b, hW.out, Fr.refl _ _, fun h => ⟨h, okB hf' (.inl rfl) (Int.le_of_eq (sv_eq (gmod hf' (.inl rfl)).1 (by decide) hll.out).symm) (Int.le_of_lt (sv_lt (gmod hf' (.inl rfl)).1 (by decide) hhh.out))⟩⟩
        | gt =>
          have hll : Hid (double.order f 553942754166571008 = some .gt) := hl
          cases hh : FloatKind.f64.format.order f 8660422083433463808 with
          | none =>
            go_enter Tryd.func55, Tryd.ntmps55
            go_wp2
            go_ret
            exact ⟨rfl, true, hS.out, hFs.out, fun h => by cases h⟩
          | some oh =>
            cases oh with
            | gt =>
              go_enter Tryd.func55, Tryd.ntmps55
              go_wp2
              go_ret
              exact ⟨rfl, true, hS.out, hFs.out, fun h => by cases h⟩
            | eq =>
              have hhh : Hid (double.order f 8660422083433463808 = some .eq) := hh
              go_enter Tryd.func55, Tryd.ntmps55
              go_wp2
              go_ret
              exact ⟨rfl, b, hW.out, Fr.refl _ _, fun h => ⟨h, okB hf' (.inl rfl) (Int.le_of_lt (sv_gt (gmod hf' (.inl rfl)).1 (by decide) hll.out)) (Int.le_of_eq (sv_eq (gmod hf' (.inl rfl)).1 (by decide) hhh.out))⟩⟩
            | lt =>
              have hhh : Hid (double.order f 8660422083433463808 = some .lt) := hh
              go_enter Tryd.func55, Tryd.ntmps55
              go_wp2
              go_ret
              exact ⟨rfl, b, hW.out, Fr.refl _ _, fun h => ⟨h, okB hf' (.inl rfl) (Int.le_of_lt (sv_gt (gmod hf' (.inl rfl)).1 (by decide) hll.out)) (Int.le_of_lt (sv_lt (gmod hf' (.inl rfl)).1 (by decide) hhh.out))⟩⟩

/-- a float comes back, watched -/
def WF (g : Nat) (b : Bool) (w : World) (z : Nat) (Pr : Prop) (e : Ending) (w' : World) : Prop :=
  ∃ x b', e = .returned (.float .f64 x) ∧ x < 18446744073709551616 ∧ bt x = z ∧ Wt w' g b' ∧ Fr (fun k => k = g) w w' ∧ (b' = false → b = false ∧ Pr)
/-- a complex number comes back, watched -/
def WC (g : Nat) (b : Bool) (w : World) (z : Nat × Nat) (Pr : Prop) (e : Ending) (w' : World) : Prop :=
  ∃ x y b', e = .returned (.complex .f64 x y) ∧ x < 18446744073709551616 ∧ y < 18446744073709551616 ∧ Lk (x, y) z ∧ Wt w' g b' ∧ Fr (fun k => k = g) w w' ∧ (b' = false → b = false ∧ Pr)
theorem fr_ok {op : BinOp} {x y : Nat} {w : World} (h : Tr.Ok (fr op x y w)) : Tr.Ok (co op x y) := by
  have hn := Ari.nan_fin h.fin
  rw [← bt_fr op x y w, bt_fin hn]
  exact h
theorem bt_ok {x z : Nat} (h : bt x = z) (hx : Tr.Ok z) : x = z := by
  have hn := Ari.nan_fin hx.fin
  have h1 : nanB x = false := by rw [← nan_bt, h, hn]
  rw [bt_fin h1] at h
  exact h
set_option maxHeartbeats 1000000 in
theorem wsum_c (g x y : Nat) (b : Bool) (w : World) (hW : Wt w g b) :
    Calls Tryd.prog 67 #[.pointer (some ⟨g, 0, none⟩), .float .f64 x, .float .f64 y] w (WF g b w (co .add x y) (Tr.Ok (co .add x y))) := by
  have h1 := @run_fadd Tryd.prog
  have hWH : Hid (Wt w g b) := hW
  clear hW
  go_enter Tryd.func67, Tryd.ntmps67
  go_wp2_with fail
  refine (see_c g _ b _ (hWH.out.drewN _) (fr_lt ..)).mono ?_
  rintro e w2 ⟨rfl, b', h2, h3, h4⟩
  have hE : Hid (WF g b w (co .add x y) (Tr.Ok (co .add x y)) (.returned (.float .f64 (fr .add x y w))) w2) := ⟨_, b', rfl, fr_lt .., bt_fr .., h2, ((Fr.refl _ w).drewN _).then h3, fun h => ⟨(h4 h).1, fr_ok (h4 h).2⟩⟩
  clear h1 h2 h3 h4
  go_wp2_with fail
  go_ret
  exact hE.out
set_option maxHeartbeats 1000000 in
theorem wless_c (g x y : Nat) (b : Bool) (w : World) (hW : Wt w g b) :
    Calls Tryd.prog 66 #[.pointer (some ⟨g, 0, none⟩), .float .f64 x, .float .f64 y] w (WF g b w (co .sub x y) (Tr.Ok (co .sub x y))) := by
  have h1 := @run_fsub Tryd.prog
  have hWH : Hid (Wt w g b) := hW
  clear hW
  go_enter Tryd.func66, Tryd.ntmps66
  go_wp2_with fail
  refine (see_c g _ b _ (hWH.out.drewN _) (fr_lt ..)).mono ?_
  rintro e w2 ⟨rfl, b', h2, h3, h4⟩
  have hE : Hid (WF g b w (co .sub x y) (Tr.Ok (co .sub x y)) (.returned (.float .f64 (fr .sub x y w))) w2) := ⟨_, b', rfl, fr_lt .., bt_fr .., h2, ((Fr.refl _ w).drewN _).then h3, fun h => ⟨(h4 h).1, fr_ok (h4 h).2⟩⟩
  clear h1 h2 h3 h4
  go_wp2_with fail
  go_ret
  exact hE.out
theorem ord0_t {x : Nat} (hx : x < 18446744073709551616) (h : (FloatKind.f64.format.order x 0 == some .eq) = true) : x % 9223372036854775808 = 0 := by
  have := sv_eq hx (by decide) (beq_iff_eq.1 h)
  unfold sv at this
  split at this <;> simp at this <;> omega
theorem ord0_f {x : Nat} (hx : x < 18446744073709551616) (h : (FloatKind.f64.format.order x 0 == some .eq) = false) : x % 9223372036854775808 ≠ 0 := by
  intro h0
  have h1 := eq_iff x 0 hx (by decide)
  have h2 : nanB x = false := by unfold nanB; simp; omega
  have h3 : sv x = sv 0 := by
    unfold sv; split <;> simp <;> omega
  rw [h2, h3] at h1
  rw [show nanB 0 = false by decide, decide_eq_true rfl] at h1
  have h4 : (double.order x 0 == some .eq) = true := h1
  exact absurd (h4.symm.trans h) (by decide)
set_option maxHeartbeats 2000000 in
theorem wproduct_c (g x y : Nat) (b : Bool) (w : World) (hW : Wt w g b) (hx : x < 18446744073709551616) (hy : y < 18446744073709551616) :
    Calls Tryd.prog 65 #[.pointer (some ⟨g, 0, none⟩), .float .f64 x, .float .f64 y] w (WF g b w (co .mul x y) (Tr.Vm x y)) := by
  have hm := @run_fmul Tryd.prog
  have hWH : Hid (Wt w g b) := hW
  have hD : Hid (Wt (w.drewN (fk .mul x y)) g b) := hW.drewN _
  have hFD : Hid (Fr (fun k => k = g) w (w.drewN (fk .mul x y))) := (Fr.refl _ w).drewN _
  have hp1 : Hid (fr .mul x y w < 18446744073709551616) := fr_lt ..
  have hpb : Hid (bt (fr .mul x y w) = co .mul x y) := bt_fr ..
  have hpo : Hid (Tr.Ok (fr .mul x y w) → Tr.Ok (co .mul x y)) := fr_ok
  have hpe : Hid (Tr.Ok (fr .mul x y w) → fr .mul x y w = co .mul x y) := fun h => bt_ok hpb.out (hpo.out h)
  have hq := run_fmul (P := Tryd.prog)
  have hxH : Hid (x < 18446744073709551616) := hx
  have hyH : Hid (y < 18446744073709551616) := hy
  have hmul : ∀ t, (binOp .mul t (.float .f64 x) (.float .f64 y)).run Tryd.prog w = .ok (.float .f64 (fr .mul x y w)) (w.drewN (fk .mul x y)) := fun t => run_fmul t x y w
  clear hW hm hq hx hy
  generalize fr .mul x y w = p at *
  generalize w.drewN (fk .mul x y) = wd at *
  have kc := hD.out.c
  have kf := hD.out.f
  have hS : Hid (Wt (wd.setCell ⟨g, 0, none⟩ (.bool true)) g true) := hD.out.set true
  have hFs : Hid (Fr (fun k => k = g) wd (wd.setCell ⟨g, 0, none⟩ (.bool true))) := Fr.setCell (S := fun k => k = g) (Fr.refl _ wd) (p := ⟨g, 0, none⟩) rfl _
  cases hx0 : (FloatKind.f64.format.order x 0 == some .eq)
  · have hx1 : (FloatKind.f64.format.order x 0 != some .eq) = true := by show (!(_ == _)) = _; rw [hx0]; rfl
    cases hy0 : (FloatKind.f64.format.order y 0 == some .eq)
    · have hy1 : (FloatKind.f64.format.order y 0 != some .eq) = true := by show (!(_ == _)) = _; rw [hy0]; rfl
      cases hp0 : (FloatKind.f64.format.order p 0 == some .eq)
      · have hp0H : Hid (p % 9223372036854775808 ≠ 0) := ord0_f hp1.out hp0
        go_enter Tryd.func65, Tryd.ntmps65
        go_wp2_with fail
        refine (see_c g p b wd hD.out hp1.out).mono ?_
        rintro e w2 ⟨rfl, b', h2, h3, h4⟩
        have hE : Hid (WF g b w (co .mul x y) (Tr.Vm x y) (.returned (.float .f64 p)) w2) := ⟨_, b', rfl, hp1.out, hpb.out, h2, hFD.out.then h3, fun h => ⟨(h4 h).1, hpo.out (h4 h).2, fun h5 => absurd (by rw [hpe.out (h4 h).2]; exact h5) hp0H.out⟩⟩
        clear h2 h3 h4
        go_wp2_with fail
        go_ret
        exact hE.out
      · go_enter Tryd.func65, Tryd.ntmps65
        go_wp2_with fail
        refine (see_c g p true _ hS.out hp1.out).mono ?_
        rintro e w2 ⟨rfl, b', h2, h3, h4⟩
        have hE : Hid (WF g b w (co .mul x y) (Tr.Vm x y) (.returned (.float .f64 p)) w2) := ⟨_, b', rfl, hp1.out, hpb.out, h2, (hFD.out.then hFs.out).then h3, fun h => by cases (h4 h).1⟩
        clear h2 h3 h4
        go_wp2_with fail
        go_ret
        exact hE.out
    · have hz : Hid (y % 9223372036854775808 = 0) := ord0_t hyH.out hy0
      have hy1 : (FloatKind.f64.format.order y 0 != some .eq) = false := by show (!(_ == _)) = _; rw [hy0]; rfl
      go_enter Tryd.func65, Tryd.ntmps65
      go_wp2_with fail
      refine (see_c g p b wd hD.out hp1.out).mono ?_
      rintro e w2 ⟨rfl, b', h2, h3, h4⟩
      have hE : Hid (WF g b w (co .mul x y) (Tr.Vm x y) (.returned (.float .f64 p)) w2) := ⟨_, b', rfl, hp1.out, hpb.out, h2, hFD.out.then h3, fun h => ⟨(h4 h).1, hpo.out (h4 h).2, fun _ => .inr hz.out⟩⟩
      clear h2 h3 h4
      go_wp2_with fail
      go_ret
      exact hE.out
  · have hz : Hid (x % 9223372036854775808 = 0) := ord0_t hxH.out hx0
    have hx1 : (FloatKind.f64.format.order x 0 != some .eq) = false := by show (!(_ == _)) = _; rw [hx0]; rfl
    go_enter Tryd.func65, Tryd.ntmps65
    go_wp2_with fail
    refine (see_c g p b wd hD.out hp1.out).mono ?_
    rintro e w2 ⟨rfl, b', h2, h3, h4⟩
    have hE : Hid (WF g b w (co .mul x y) (Tr.Vm x y) (.returned (.float .f64 p)) w2) := ⟨_, b', rfl, hp1.out, hpb.out, h2, hFD.out.then h3, fun h => ⟨(h4 h).1, hpo.out (h4 h).2, fun _ => .inl hz.out⟩⟩
    clear h2 h3 h4
    go_wp2_with fail
    go_ret
    exact hE.out
end Go.Proofs.YtehaokdjdhejlaaDoor
