/-
  timbreref15: Same.
-/
import Derived.Test.YtedfjedmapimnaaDoorSp5
namespace Go.Proofs.YtedfjedmapimnaaDoor
open Flo Go.RowKit
theorem hd_ne {x y : Int} (h : ¬ x = y) : (x != y) = true := bne_iff_ne.2 h
theorem hd_eq {x y : Int} (h : x = y) : (x != y) = false := by rw [h]; simp
theorem pg_false {a b : Sp.Pg} (h : ¬ a = b) : pgeq a b = false := by
  cases e : pgeq a b with
  | false => rfl
  | true => exact absurd (pgeq_iff.1 e) h
set_option maxHeartbeats 8000000 in
set_option maxRecDepth 100000 in
theorem dsame_c (a b : Sp.Pg) (ao bo : Option Addr) (n m c d : Nat) (w : World) (ha : Ss w ao a.steps) (hb : Ss w bo b.steps) (hn : n = a.steps.length) (hm : m = b.steps.length) (hnb : n ≤ 140737488355328) :
    Calls Tryd.prog 15 #[pv a (.slice ao n c), pv b (.slice bo m d)] w fun e w' => e = .returned (.bool (pgeq a b)) ∧ Below w.heap.size w w' := by
  obtain ⟨g, hg⟩ : ∃ g, Hid (w.heap.size = g) := ⟨_, (rfl : _ = _)⟩
  obtain ⟨wa, ewa⟩ : ∃ wa, Hid ((w.alloc (.cells #[.int .i64 a.len, .int .i64 a.cells, .int .i64 a.inn, .int .i64 a.out, .slice ao n c] 24)).alloc (.cells #[.int .i64 b.len, .int .i64 b.cells, .int .i64 b.inn, .int .i64 b.out, .slice bo m d] 24) = wa) := ⟨_, (rfl : _ = _)⟩
  have Ba : Hid (Below w.heap.size w wa) := by rw [← ewa.out]; exact ((Below.refl _ _).alloc (Nat.le_refl _) _).alloc (by simp) _
  have X1 : Hid (Bpg wa g a (.slice ao n c)) := by rw [← ewa.out, ← hg.out]; exact (Bpg.new w a (.slice ao n c)).below ((Below.refl _ _).alloc (Nat.le_refl _) _)
  have X2 : Hid (Bpg wa (g + 1) b (.slice bo m d)) := by
    show Bpg _ _ _ _
    rw [← ewa.out, ← hg.out]
    have := Bpg.new (w.alloc (.cells #[.int .i64 a.len, .int .i64 a.cells, .int .i64 a.inn, .int .i64 a.out, .slice ao n c] 24)) b (.slice bo m d)
    simpa using this
  have haH : Hid (Ss wa ao a.steps) := ha.below Ba.out
  have hbH : Hid (Ss wa bo b.steps) := hb.below Ba.out
  have hnA : Hid (n = a.steps.length) := hn
  have hmB : Hid (m = b.steps.length) := hm
  clear ha hb hn hm
  obtain ⟨r, hr⟩ : ∃ r, Hid (pgeq a b = r) := ⟨_, (rfl : _ = _)⟩
  rw [hr.out]
  unfold pv
  go_enter Tryd.func15, Tryd.ntmps15
  go_upto_region 1 with fail
  rw [ewa.out, hg.out]
  obtain ⟨x0, x1, x2, x3, x4⟩ := X1.out
  obtain ⟨y0, y1, y2, y3, y4⟩ := X2.out
  by_cases h0 : a.len = b.len
  · have q0 := hd_eq h0
    by_cases h1 : a.cells = b.cells
    · have q1 := hd_eq h1
      by_cases h2 : a.inn = b.inn
      · have q2 := hd_eq h2
        by_cases h3 : a.out = b.out
        · have q3 := hd_eq h3
          by_cases hnm : n = m
          · have q4 : ((n : Int) != (m : Int)) = false := by rw [hnm]; simp
            have hpe : Hid (r = sseq a.steps b.steps) := by show _ = _; rw [← hr.out]; unfold pgeq; rw [(show hdeq a b = true by simp [hdeq, h0, h1, h2, h3]), Bool.true_and]
            clear h0 h1 h2 h3
            have hnB : Hid (n = b.steps.length) := hnm.trans hmB.out
            subst hnm
            go_wp2
            go_loopw [44] (fun i wr => ∃ k : Nat, k ≤ n ∧ i = .int .i64 k ∧ Hid (r = sseq (a.steps.drop k) (b.steps.drop k)) ∧ Hid (Below wa.heap.size wa wr)) (fun i _ => n - (intOf i).toNat)
            case atStart => exact ⟨0, Nat.zero_le _, rfl, hpe, Below.refl _ _⟩
            case round =>
              obtain ⟨k, hk, rfl, heq, hB⟩ := hrel
              clear x0 x1 x2 x3 x4 y0 y1 y2 y3 y4
              by_cases hlt : k < n
              · have hlt' : (k : Int) < (n : Int) := by omega
                obtain ⟨x, hx⟩ : ∃ x, a.steps[k]? = some x := ⟨_, List.getElem?_eq_getElem (by rw [← hnA.out]; exact hlt)⟩
                obtain ⟨y, hy⟩ : ∃ y, b.steps[k]? = some y := ⟨_, List.getElem?_eq_getElem (by rw [← hnB.out]; exact hlt)⟩
                obtain ⟨q, o, rfl, hs⟩ := haH.out k x hx
                obtain ⟨q', o', rfl, hs'⟩ := hbH.out k y hy
                have hd : Hid (r = (steq x y && sseq (a.steps.drop (k + 1)) (b.steps.drop (k + 1)))) := by rw [heq.out, drop_get hx, drop_get hy]; rfl
                have hne : ∀ W : World, _ := fun W => run_neS x y W
                unfold sv sva at hne
                generalize steq x y = bq at hd hne
                obtain ⟨u0, u1, u2, u3, u4, u5, u6⟩ := hs.below hB.out
                obtain ⟨v0, v1, v2, v3, v4, v5, v6⟩ := hs'.below hB.out
                have x4 := (X1.out.below hB.out).c4
                have y4 := (X2.out.below hB.out).c4
                clear hx hy hs hs' heq
                go_wp2
                go_quiet (fail)
                have hB2 : Hid (Below wa.heap.size wa (wr.drewN nq)) := below_drewN hB.out nq
                generalize wr.drewN nq = wd at hB2 ⊢
                clear u0 u1 u2 u3 u4 u5 u6 v0 v1 v2 v3 v4 v5 v6 hne x4 y4
                cases bq with
                | true =>
                  have hd2 : Hid (r = sseq (a.steps.drop (k + 1)) (b.steps.drop (k + 1))) := hd
                  go_wp2
                  go_roundw
                  case rel => exact ⟨k + 1, by omega, by go_num, hd2, hB2⟩
                  case measure => simp [intOf]; omega
                | false =>
                  have hd2 : Hid (r = false) := hd
                  go_wp2
                  go_ret
                  exact ⟨by rw [hd2.out]; rfl, Ba.out.trans (hB2.out.mono Ba.out.size)⟩
              · have hlt' : decide ((k : Int) < (n : Int)) = false := decide_eq_false (by omega)
                have hlt2 : ¬ k < n := hlt
                have hd2 : Hid (r = true) := by
                  have e : k = n := by omega
                  show _ = _
                  rw [heq.out, e, List.drop_eq_nil_of_le (by rw [← hnA.out]; exact Nat.le_refl _), List.drop_eq_nil_of_le (by rw [← hnB.out]; exact Nat.le_refl _)]
                  rfl
                clear heq
                go_wp2
                go_ret
                exact ⟨by rw [hd2.out]; rfl, Ba.out.trans (hB.out.mono Ba.out.size)⟩
          · have q4 : ((n : Int) != (m : Int)) = true := bne_iff_ne.2 (by omega)
            have q5 : ¬ n = m := hnm
            have hf : Hid (r = false) := hr.out.symm.trans (pg_false fun e => hnm (by rw [hnA.out, hmB.out, e]))
            go_wp2
            go_ret
            exact ⟨by rw [hf.out]; rfl, Ba.out⟩
        · have q3 := hd_ne h3
          have hf : Hid (r = false) := hr.out.symm.trans (pg_false fun e => h3 (by rw [e]))
          go_wp2
          go_ret
          exact ⟨by rw [hf.out]; rfl, Ba.out⟩
      · have q2 := hd_ne h2
        have hf : Hid (r = false) := hr.out.symm.trans (pg_false fun e => h2 (by rw [e]))
        go_wp2
        go_ret
        exact ⟨by rw [hf.out]; rfl, Ba.out⟩
    · have q1 := hd_ne h1
      have hf : Hid (r = false) := hr.out.symm.trans (pg_false fun e => h1 (by rw [e]))
      go_wp2
      go_ret
      exact ⟨by rw [hf.out]; rfl, Ba.out⟩
  · have q0 := hd_ne h0
    have hf : Hid (r = false) := hr.out.symm.trans (pg_false fun e => h0 (by rw [e]))
    go_wp2
    go_ret
    exact ⟨by rw [hf.out]; rfl, Ba.out⟩
end Go.Proofs.YtedfjedmapimnaaDoor
