/-
  The statement StepsForms: the walk.
-/
import Derived.Test.YtbipgkbnhpdmhaaDoorSv1
import Derived.Test.YtbipgkbnhpdmhaaDoorSd3
namespace Go.Proofs.YtbipgkbnhpdmhaaDoor
open Flo Go.RowKit
/-- the number of what Form answers -/
theorem num_fev (al : List Addr) (b : Bool) (w : World) (he : Errs w al) : Calls Tryd.prog 15 #[fev al b] w fun e w' => e = .returned (.int .i64 (fnn b)) ∧ Below w.heap.size w w' := by
  cases b with
  | true =>
    refine (num_nil w).mono ?_
    rintro e w' ⟨rfl, rfl⟩
    exact ⟨rfl, Below.refl _ _⟩
  | false => exact num_err al 8 (by decide) w he
set_option maxHeartbeats 4000000 in
set_option maxRecDepth 100000 in
theorem stepsForms.walk (ss : List Sp.St) (ao : Option Addr) (c : Nat) (al : List Addr) (w : World) (hs : Ss w ao ss) (hb : ss.length * 56 ≤ 140737488351232) (he : E4 w al) (hO : Ops w) (hE : Errs w al) :
    Calls Tryd.prog 4 #[.slice ao ss.length c] w fun e w' => e = .returned (.bool true) ∧ Below w.heap.size w w' := by
  have hOH : Hid (Ops w) := hO
  have hsH : Hid (Ss w ao ss) := hs
  have hEH : Hid (Errs w al) := hE
  have heH : Hid (E4 w al) := he
  have hlv : Hid (Calls Tryd.prog 9 #[] w fun e w' => e = .returned (.bool true) ∧ Below w.heap.size w w') := slives_c al w he hO
  obtain ⟨n, hn⟩ : ∃ n, Hid (ss.length = n) := ⟨_, (rfl : _ = _)⟩
  have hnb : n ≤ 140737488351232 := by have := hn.out; omega
  rw [hn.out]
  clear he hO hs hE hb
  go_enter Tryd.func4, Tryd.ntmps4
  go_wp2_with fail
  refine hlv.out.mono ?_
  rintro e w1 ⟨rfl, B1⟩
  have B1H : Hid (Below w.heap.size w w1) := B1
  clear B1 hlv
  go_wp2
  go_loopw [11] (fun i wr => ∃ k : Nat, k ≤ n ∧ i = .int .i64 k ∧ Hid (Below w.heap.size w wr)) (fun i _ => n - (intOf i).toNat)
  case atStart => exact ⟨0, Nat.zero_le _, rfl, B1H⟩
  case round =>
    obtain ⟨k, hk, rfl, Bk⟩ := hrel
    by_cases hlt : k < n
    · have hlt' : (k : Int) < (n : Int) := by omega
      obtain ⟨s, hs⟩ : ∃ s, ss[k]? = some s := ⟨_, List.getElem?_eq_getElem (by rw [hn.out]; exact hlt)⟩
      obtain ⟨q, o, rfl, hat⟩ := hsH.out k s hs
      obtain ⟨y0, y1, y2, y3, y4, y5, y6⟩ := hat.below Bk.out
      obtain ⟨wb, ewb⟩ : ∃ wb, Hid (wr.alloc (.cells #[.int .i64 s.op, .int .i64 s.dst, .int .i64 s.src, .int .i64 s.jump, .int .i64 s.count, .int .i64 s.n, .int .i64 s.k] 30) = wb) := ⟨_, (rfl : _ = _)⟩
      have Bb : Hid (Below w.heap.size w wb) := by rw [← ewb.out]; exact Bk.out.alloc Bk.out.size _
      have Xb : Hid (Bst wb wr.heap.size s.op s.dst s.src s.jump s.count s.n s.k) := by show Bst _ _ _ _ _ _ _ _ _; rw [← ewb.out]; exact Bst.new wr _ _ _ _ _ _ _
      obtain ⟨g, hg⟩ : ∃ g, Hid (wr.heap.size = g) := ⟨_, (rfl : _ = _)⟩
      rw [hg.out] at Xb
      have hf1 : Hid (Calls Tryd.prog 14 #[sv s] wb fun e w' => e = .returned (.int .i64 (fnn (Sp.fm s))) ∧ Below wb.heap.size wb w') := dform_c s wb
      have hf2 : Hid (∀ W, Below w.heap.size w W → Calls Tryd.prog 16 #[sv s] W fun e w' => e = .returned (fev al (Sp.fm s)) ∧ Below W.heap.size W w') := fun W hW => sform_c s al W (hOH.out.below hW) (heH.out.below hW).prog
      have hf3 : Hid (∀ W, Below w.heap.size w W → Calls Tryd.prog 17 #[sv s] W fun e w' => e = .returned (.int .i64 (acv s)) ∧ Below W.heap.size W w') := fun W hW => sacts_c s al W (hOH.out.below hW) (heH.out.below hW).prog
      have hac : Hid (acv s = bif Sp.fm s then s.count else 0) := (rfl : _ = _)
      obtain ⟨b, hb⟩ : ∃ b, Hid (Sp.fm s = b) := ⟨_, (rfl : _ = _)⟩
      rw [hac.out] at hf3
      rw [hb.out] at hf1 hf2 hf3
      have hnu : Hid (∀ W, Below w.heap.size w W → Calls Tryd.prog 15 #[fev al b] W fun e w' => e = .returned (.int .i64 (fnn b)) ∧ Below W.heap.size W w') := fun W hW => num_fev al b W (hEH.out.below hW)
      generalize fev al b = fe at hf2 hnu
      unfold sv sva at hf1 hf2 hf3
      clear hs hat hac
      go_upto_region 6 with fail
      rw [ewb.out, hg.out]
      clear y0 y1 y2 y3 y4 y5 y6
      obtain ⟨y0, y1, y2, y3, y4, y5, y6⟩ := Xb.out
      go_wp2_with fail
      refine hf1.out.mono ?_
      rintro e w2 ⟨rfl, B2'⟩
      have B2 : Hid (Below w.heap.size w w2) := Bb.out.trans (B2'.mono Bb.out.size)
      have X2 : Hid (Bst w2 g s.op s.dst s.src s.jump s.count s.n s.k) := Xb.out.below B2'
      clear y0 y1 y2 y3 y4 y5 y6 B2' hf1 Xb
      obtain ⟨y0, y1, y2, y3, y4, y5, y6⟩ := X2.out
      cases b with
      | true =>
        have z1 : fnn true = 0 := rfl
        have hf3' : Hid (∀ W, Below w.heap.size w W → Calls Tryd.prog 17 #[.agg #[.int .i64 s.op, .int .i64 s.dst, .int .i64 s.src, .int .i64 s.jump, .int .i64 s.count, .int .i64 s.n, .int .i64 s.k]] W fun e w' => e = .returned (.int .i64 s.count) ∧ Below W.heap.size W w') := hf3
        rw [z1] at hnu
        have q1 : (s.count != s.count) = false := by simp
        clear hf3
        go_wp2_with fail
        refine (hf2.out w2 B2.out).mono ?_
        rintro e w3 ⟨rfl, B3'⟩
        have B3 : Hid (Below w.heap.size w w3) := B2.out.trans (B3'.mono B2.out.size)
        have X3 : Hid (Bst w3 g s.op s.dst s.src s.jump s.count s.n s.k) := X2.out.below B3'
        clear y0 y1 y2 y3 y4 y5 y6 B3'
        go_wp2_with fail
        refine (hnu.out w3 B3.out).mono ?_
        rintro e w4 ⟨rfl, B4'⟩
        have B4 : Hid (Below w.heap.size w w4) := B3.out.trans (B4'.mono B3.out.size)
        have X4 : Bst w4 g s.op s.dst s.src s.jump s.count s.n s.k := X3.out.below B4'
        clear B4'
        obtain ⟨y0, y1, y2, y3, y4, y5, y6⟩ := X4
        go_wp2_with fail
        refine (hf3'.out w4 B4.out).mono ?_
        rintro e w5 ⟨rfl, B5'⟩
        have B5 : Hid (Below w.heap.size w w5) := B4.out.trans (B5'.mono B4.out.size)
        clear B5' y0 y1 y2 y3 y4 y5 y6 hf2 hf3' hnu
        go_wp2
        go_roundw
        case rel => exact ⟨k + 1, by omega, by go_num, B5⟩
        case measure => simp [intOf]; omega
      | false =>
        have z1 : fnn false = 9 := rfl
        have hf3' : Hid (∀ W, Below w.heap.size w W → Calls Tryd.prog 17 #[.agg #[.int .i64 s.op, .int .i64 s.dst, .int .i64 s.src, .int .i64 s.jump, .int .i64 s.count, .int .i64 s.n, .int .i64 s.k]] W fun e w' => e = .returned (.int .i64 0) ∧ Below W.heap.size W w') := hf3
        rw [z1] at hnu
        have q1 : (s.count != s.count) = false := by simp
        clear hf3
        go_wp2_with fail
        refine (hf2.out w2 B2.out).mono ?_
        rintro e w3 ⟨rfl, B3'⟩
        have B3 : Hid (Below w.heap.size w w3) := B2.out.trans (B3'.mono B2.out.size)
        have X3 : Hid (Bst w3 g s.op s.dst s.src s.jump s.count s.n s.k) := X2.out.below B3'
        clear y0 y1 y2 y3 y4 y5 y6 B3'
        go_wp2_with fail
        refine (hnu.out w3 B3.out).mono ?_
        rintro e w4 ⟨rfl, B4'⟩
        have B4 : Hid (Below w.heap.size w w4) := B3.out.trans (B4'.mono B3.out.size)
        have X4 : Bst w4 g s.op s.dst s.src s.jump s.count s.n s.k := X3.out.below B4'
        clear B4'
        obtain ⟨y0, y1, y2, y3, y4, y5, y6⟩ := X4
        go_wp2_with fail
        refine (hf3'.out w4 B4.out).mono ?_
        rintro e w5 ⟨rfl, B5'⟩
        have B5 : Hid (Below w.heap.size w w5) := B4.out.trans (B5'.mono B4.out.size)
        clear B5' y0 y1 y2 y3 y4 y5 y6 hf2 hf3' hnu
        go_wp2
        go_roundw
        case rel => exact ⟨k + 1, by omega, by go_num, B5⟩
        case measure => simp [intOf]; omega
    · have hlt' : decide ((k : Int) < (n : Int)) = false := decide_eq_false (by omega)
      have hlt2 : ¬ k < n := hlt
      go_wp2
      go_ret
      exact ⟨rfl, Bk.out⟩
end Go.Proofs.YtbipgkbnhpdmhaaDoor
