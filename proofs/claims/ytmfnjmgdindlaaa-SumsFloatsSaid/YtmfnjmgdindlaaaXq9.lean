/-
  Package sums: Exact.
-/
import Derived.Test.YtmfnjmgdindlaaaXp9
namespace Go.Proofs.Ytmfnjmgdindlaaa
open Flo Go.RowKit Ari
set_option maxHeartbeats 400000 in
theorem nan_c (w : World) :
    Calls Try.prog 27 #[] w fun e w' => e = .returned (.float .f64 9221120237041090561) ∧ w = w' := by
  have h3 := run_frombits
  go_enter Try.func27, Try.ntmps27
  go_wp2
  go_ret
  exact ⟨rfl, rfl⟩
/-- a float comes back that is this one, all NaN being one; nothing that was there has turned -/
def RFb (w : World) (r : Nat) (e : Ending) (w' : World) : Prop := ∃ x, e = .returned (.float .f64 x) ∧ x < 18446744073709551616 ∧ bt x = r ∧ Below w.heap.size w w'
/-- noughts below 0 alone -/
def onlyZ (f0 f2 f3 f4 f5 f6 f7 : Bool) : Bool := !f0 && !f2 && !f3 && f4 && !f5 && !f6 && !f7
theorem run_only (f0 f2 f3 f4 f5 f6 f7 : Bool) (w : World) : (binOp .eql 43 (.agg #[.bool f0, .bool false, .bool f2, .bool f3, .bool f4, .bool f5, .bool f6, .bool f7, .bool false, .bool false]) (.agg #[.bool false, .bool false, .bool false, .bool false, .bool true, .bool false, .bool false, .bool false, .bool false, .bool false])).run Try.prog w = .ok (.bool (onlyZ f0 f2 f3 f4 f5 f6 f7)) w := by
  cases f0 <;> cases f2 <;> cases f3 <;> cases f4 <;> cases f5 <;> cases f6 <;> cases f7 <;> kernel_rfl
set_option maxRecDepth 100000 in
set_option maxHeartbeats 4000000 in
theorem exact_n (v : Value) (xs : List Nat) (f : Nat → Bool) (V : Nat) (w : World) (hcl : Hid (Calls Try.prog 26 #[v] w fun e w' => e = .returned (.agg (ba f)) ∧ Below w.heap.size w w'))
    (hfin : Hid (f 9 = false → f 8 = false → f 1 = false → ∀ W, Below w.heap.size w W → Calls Try.prog 30 #[v] W fun e w' => e = .returned (.float .f64 V) ∧ Below W.heap.size W w'))
    (hV : Hid (V < 18446744073709551616 ∧ bt V = V))
    (hE : Hid (Sm.exB xs = if f 9 || (f 8 && f 1) then 9221120237041090560 else if f 8 then 9218868437227405312 else if f 1 then 18442240474082181120 else if onlyZ (f 0) (f 2) (f 3) (f 4) (f 5) (f 6) (f 7) then 9223372036854775808 else V)) :
    Calls Try.prog 12 #[v] w (RFb w (Sm.exB xs)) := by
  have hend : Hid (∀ x W, x < 18446744073709551616 → bt x = Sm.exB xs → Below w.heap.size w W → RFb w (Sm.exB xs) (.returned (.float .f64 x)) W) := fun x W h1 h2 h3 => ⟨x, rfl, h1, h2, h3⟩
  go_enter Try.func12, Try.ntmps12
  go_wp2_with fail
  refine hcl.out.mono ?_
  rintro e w1 ⟨rfl, hb⟩
  have hbA : Hid (∀ o, Below w.heap.size w (w1.alloc o)) := fun o => hb.alloc hb.size o
  clear hb hcl
  unfold ba
  generalize f 0 = f0 at *
  generalize f 1 = f1 at *
  generalize f 2 = f2 at *
  generalize f 3 = f3 at *
  generalize f 4 = f4 at *
  generalize f 5 = f5 at *
  generalize f 6 = f6 at *
  generalize f 7 = f7 at *
  generalize f 8 = f8 at *
  generalize f 9 = f9 at *
  have hq := fun w => run_only f0 f2 f3 f4 f5 f6 f7 w
  cases f9
  · cases f8
    · cases f1
      · have hE2 : Hid (Sm.exB xs = if onlyZ f0 f2 f3 f4 f5 f6 f7 then 9223372036854775808 else V) := hE.out
        have hfin2 := hfin.out rfl rfl rfl
        have hfinH : Hid (∀ W, Below w.heap.size w W → Calls Try.prog 30 #[v] W fun e w' => e = .returned (.float .f64 V) ∧ Below W.heap.size W w') := hfin2
        clear hfin2 hfin hE
        generalize onlyZ f0 f2 f3 f4 f5 f6 f7 = z at hq hE2
        cases z
        · have hE3 : Hid (Sm.exB xs = V) := hE2.out
          clear hE2
          go_wp2_with fail
          refine (hfinH.out _ (hbA.out _)).mono ?_
          rintro e w2 ⟨rfl, hb2⟩
          have hb2H : Hid (Below w.heap.size w w2) := (hbA.out _).trans (hb2.mono (hbA.out _).size)
          clear hb2 hfinH hbA
          go_wp2_with fail
          go_ret
          exact hend.out _ _ hV.out.1 (by rw [hE3.out]; exact hV.out.2) hb2H.out
        · have hE3 : Hid (Sm.exB xs = 9223372036854775808) := hE2.out
          clear hE2 hfinH hV
          go_wp2_with (go_at_call 29; refine (of_c _ _).mono ?_; rintro e w' ⟨rfl, rfl⟩)
          go_ret
          exact hend.out _ _ (by decide) (by rw [hE3.out]; decide) (hbA.out _)
      · have hE3 : Hid (Sm.exB xs = 18442240474082181120) := hE.out
        clear hE hfin hq hV
        go_wp2_with (go_at_call 28; refine (inf_m _).mono ?_; rintro e w' ⟨rfl, rfl⟩)
        go_ret
        exact hend.out _ _ (by decide) (by rw [hE3.out]; decide) (hbA.out _)
    · cases f1
      · have hE3 : Hid (Sm.exB xs = 9218868437227405312) := hE.out
        clear hE hfin hq hV
        go_wp2_with (go_at_call 28; refine (inf_p _).mono ?_; rintro e w' ⟨rfl, rfl⟩)
        go_ret
        exact hend.out _ _ (by decide) (by rw [hE3.out]; decide) (hbA.out _)
      · have hE3 : Hid (Sm.exB xs = 9221120237041090560) := hE.out
        clear hE hfin hq hV
        go_wp2_with (go_at_call 27; refine (nan_c _).mono ?_; rintro e w' ⟨rfl, rfl⟩)
        go_ret
        exact hend.out _ _ (by decide) (by rw [hE3.out]; decide) (hbA.out _)
  · have hE3 : Hid (Sm.exB xs = 9221120237041090560) := hE.out
    clear hE hfin hq hV
    go_wp2_with (go_at_call 27; refine (nan_c _).mono ?_; rintro e w' ⟨rfl, rfl⟩)
    go_ret
    exact hend.out _ _ (by decide) (by rw [hE3.out]; decide) (hbA.out _)
theorem hs_le {xs : List Nat} (hl : ∀ x ∈ xs, x < 18446744073709551616) (h9 : hs xs 9 = false) (h8 : hs xs 8 = false) (h1 : hs xs 1 = false) : onlyZ (hs xs 0) (hs xs 2) (hs xs 3) (hs xs 4) (hs xs 5) (hs xs 6) (hs xs 7) = Sm.allZ xs := by
  rw [Bool.eq_iff_iff]
  unfold onlyZ Sm.allZ
  simp only [Bool.and_eq_true, Bool.not_eq_true', List.all_eq_true, beq_iff_eq, List.isEmpty_eq_false_iff]
  constructor
  · rintro ⟨⟨⟨⟨⟨⟨h0, h2⟩, h3⟩, h4⟩, h5⟩, h6⟩, h7⟩
    refine ⟨(fun e => by rw [e] at h4; cases h4), fun x hx => ?_⟩
    obtain ⟨C, hC, hC10⟩ := cls_nat x
    have hany : hs xs C = true := List.any_eq_true.2 ⟨x, hx, by rw [hC]; simp⟩
    have hC4 : C = 4 := by
      match C, hC10 with
      | 0, _ => rw [h0] at hany; cases hany
      | 1, _ => rw [h1] at hany; cases hany
      | 2, _ => rw [h2] at hany; cases hany
      | 3, _ => rw [h3] at hany; cases hany
      | 4, _ => rfl
      | 5, _ => rw [h5] at hany; cases hany
      | 6, _ => rw [h6] at hany; cases hany
      | 7, _ => rw [h7] at hany; cases hany
      | 8, _ => rw [h8] at hany; cases hany
      | 9, _ => rw [h9] at hany; cases hany
    have := (cls_vals (hl x hx)).2.2.2
    rw [hC, hC4] at this
    simpa using this.symm
  · rintro ⟨hne, hall⟩
    have key : ∀ c : Nat, c ≠ 4 → hs xs c = false := fun c hc => by
      apply Bool.eq_false_iff.2
      intro h
      obtain ⟨x, hx, hq⟩ := List.any_eq_true.1 h
      rw [hall x hx, show cls 9223372036854775808 = 4 by decide] at hq
      simp at hq
      omega
    have k4 : hs xs 4 = true := by
      obtain ⟨x, hx⟩ := List.exists_mem_of_ne_nil _ hne
      exact List.any_eq_true.2 ⟨x, hx, by rw [hall x hx]; decide⟩
    exact ⟨⟨⟨⟨⟨⟨key 0 (by decide), key 2 (by decide)⟩, key 3 (by decide)⟩, k4⟩, key 5 (by decide)⟩, key 6 (by decide)⟩, key 7 (by decide)⟩
theorem fin_all {xs : List Nat} (hl : ∀ x ∈ xs, x < 18446744073709551616) (h9 : Sm.anyN xs = false) (h8 : Sm.anyI xs = false) (h1 : Sm.anyJ xs = false) : ∀ x ∈ xs, fin x := fun x hx => by
  have a := List.any_eq_false.1 h9 x hx
  have b := List.any_eq_false.1 h8 x hx
  have c := List.any_eq_false.1 h1 x hx
  have d := hl x hx
  unfold nanB at a
  simp only [beq_iff_eq, decide_eq_true_eq] at a b c
  exact ⟨d, by omega⟩
theorem exact_c (v : Value) (xs : List Nat) (w : World) (h : Fv w v xs) : Calls Try.prog 12 #[v] w (RFb w (Sm.exB xs)) := by
  obtain ⟨v9, v8, v1⟩ := hs_vals h.lim
  refine exact_n v xs (hs xs) (Sm.exF (Sm.up xs) (Sm.dn xs)) w (classes_c v xs w h) ?_ ⟨Sm.exF_lt _ _, Sm.exF_bt _ _⟩ ?_
  · intro h9 h8 h1 W hW
    exact finite_c v xs W (h.below hW) (fin_all h.lim (v9.symm.trans h9) (v8.symm.trans h8) (v1.symm.trans h1))
  · show _ = _
    unfold Sm.exB
    rw [← v9, ← v8, ← v1]
    by_cases c1 : (hs xs 9 || (hs xs 8 && hs xs 1)) = true
    · rw [if_pos c1, if_pos c1]
    · rw [if_neg c1, if_neg c1]
      by_cases c2 : hs xs 8 = true
      · rw [if_pos c2, if_pos c2]
      · rw [if_neg c2, if_neg c2]
        by_cases c3 : hs xs 1 = true
        · rw [if_pos c3, if_pos c3]
        · rw [if_neg c3, if_neg c3, hs_le h.lim (by cases e : hs xs 9; rfl; rw [e] at c1; simp at c1) (by simpa using c2) (by simpa using c3)]
end Go.Proofs.Ytmfnjmgdindlaaa
