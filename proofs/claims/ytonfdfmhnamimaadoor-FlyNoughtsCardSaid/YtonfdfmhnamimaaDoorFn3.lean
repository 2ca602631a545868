/-
  fly.Fly of any noughts; timbrelaw11.equal of a list of noughts and one of zeros; timbreref02.Times.
-/
import Derived.Test.YtonfdfmhnamimaaDoorFn2
namespace Go.Proofs.YtonfdfmhnamimaaDoor
open Flo Go.RowKit
theorem rdc_row {w : World} {g n : Nat} {cs : Array Value} {t : TypeId} {ys : List (Nat × Nat)} (h : w.heap[g]? = some (.cells cs t (0, 0))) (hn : ys.length = n) (hc : cs.toList = cz ys) : RdC w (.slice (some ⟨g, 0, none⟩) n n) ys := by
  refine ⟨_, n, by rw [hn], fun _ => ⟨g, 0, rfl, heap_lt h, fun i hi => ?_⟩⟩
  rw [Nat.zero_add, cell_of_row _ _ _ _ _ _ h, ← cz_get ys i hi, ← hc]
  simp
theorem fly_z (v : Value) (zs : List (Nat × Nat)) (n : Nat) (w : World) (hx : RdC w v zs) (hn : zs.length = n) (h2 : 2 ≤ n) (h5 : n ≤ 5) (hz : ∀ i, i < n → Nz (zs.getD i (0, 0))) :
    Calls Tryd.prog 6 #[v] w fun e w' => ∃ g ys, e = .returned (.tuple #[.slice (some ⟨g, 0, none⟩) n n, .nilIface]) ∧ ys.length = n ∧ (∀ i, i < n → Nz (ys.getD i (0, 0))) ∧ RdC w' (.slice (some ⟨g, 0, none⟩) n n) ys ∧ Below w.heap.size w w' := by
  obtain ⟨ao, cap, rfl, hc⟩ := hx
  obtain ⟨b, off, rfl, hb, hk⟩ := hc (fun e => by rw [e] at hn; simp at hn; omega)
  rw [hn] at hk ⊢
  have e : n = 2 ∨ n = 3 ∨ n = 4 ∨ n = 5 := by omega
  rcases e with rfl | rfl | rfl | rfl
  · refine (fly2_z w hb (hk 0 (by decide)) (hk 1 (by decide)) (hz 0 (by decide)) (hz 1 (by decide))).mono ?_
    rintro e w' ⟨g, x1, x2, y1, y2, rfl, hr, ⟨n0, n1⟩, B⟩
    exact ⟨g, [(x1, x2), (y1, y2)], rfl, rfl, fun i hi => match i, hi with | 0, _ => n0 | 1, _ => n1, rdc_row hr.out rfl rfl, B⟩
  · refine (fly3_z w hb (hk 0 (by decide)) (hk 1 (by decide)) (hk 2 (by decide)) (hz 0 (by decide)) (hz 1 (by decide)) (hz 2 (by decide))).mono ?_
    rintro e w' ⟨g, x1, x2, y1, y2, u1, u2, rfl, hr, ⟨n0, n1, n2⟩, B⟩
    exact ⟨g, [(x1, x2), (y1, y2), (u1, u2)], rfl, rfl, fun i hi => match i, hi with | 0, _ => n0 | 1, _ => n1 | 2, _ => n2, rdc_row hr.out rfl rfl, B⟩
  · refine (fly4_z w hb (hk 0 (by decide)) (hk 1 (by decide)) (hk 2 (by decide)) (hk 3 (by decide)) (hz 0 (by decide)) (hz 1 (by decide)) (hz 2 (by decide)) (hz 3 (by decide))).mono ?_
    rintro e w' ⟨g, x1, x2, y1, y2, u1, u2, v1, v2, rfl, hr, ⟨n0, n1, n2, n3⟩, B⟩
    exact ⟨g, [(x1, x2), (y1, y2), (u1, u2), (v1, v2)], rfl, rfl, fun i hi => match i, hi with | 0, _ => n0 | 1, _ => n1 | 2, _ => n2 | 3, _ => n3, rdc_row hr.out rfl rfl, B⟩
  · refine (fly5_z w hb (hk 0 (by decide)) (hk 1 (by decide)) (hk 2 (by decide)) (hk 3 (by decide)) (hk 4 (by decide)) (hz 0 (by decide)) (hz 1 (by decide)) (hz 2 (by decide)) (hz 3 (by decide)) (hz 4 (by decide))).mono ?_
    rintro e w' ⟨g, x1, x2, y1, y2, u1, u2, v1, v2, s1, s2, rfl, hr, ⟨n0, n1, n2, n3, n4⟩, B⟩
    exact ⟨g, [(x1, x2), (y1, y2), (u1, u2), (v1, v2), (s1, s2)], rfl, rfl, fun i hi => match i, hi with | 0, _ => n0 | 1, _ => n1 | 2, _ => n2 | 3, _ => n3 | 4, _ => n4, rdc_row hr.out rfl rfl, B⟩
set_option maxHeartbeats 1000000 in
theorem equal_z (g h n : Nat) (ys : List (Nat × Nat)) (w : World) (hy : Hid (RdC w (.slice (some ⟨g, 0, none⟩) n n) ys)) (hl : Hid (ys.length = n)) (hnz : Hid (∀ i, i < n → Nz (ys.getD i (0, 0)))) (hn5 : n ≤ 5) (hh : Hid (∀ i, i < n → w.cell? ⟨h, i, none⟩ = some (.complex .f64 0 0))) :
    Calls Tryd.prog 7 #[.slice (some ⟨g, 0, none⟩) n n, .slice (some ⟨h, 0, none⟩) n n] w fun e w' => e = .returned (.bool true) ∧ ∃ d, w' = w.drewN d := by
  go_enter Tryd.func7, Tryd.ntmps7
  go_wp2_with fail
  go_loopw [13] (fun si wx => ∃ i d : Nat, i ≤ n ∧ si = .int .i64 (i : Int) ∧ Hid (wx = w.drewN d)) (fun si _ => n - (intOf si).toNat)
  case atStart => exact ⟨0, 0, Nat.zero_le _, rfl, (rfl : w = w.drewN 0)⟩
  case round =>
    obtain ⟨i, d, hi, rfl, hw⟩ := hrel
    by_cases hlt : i < n
    · have hlt' : (i : Int) < (n : Int) := by omega
      obtain ⟨ao, cap, e1, hc⟩ := hy.out
      cases e1
      obtain ⟨b, off, e2, _, hk⟩ := hc (fun e => by rw [e] at hlt; simp at hlt)
      cases e2
      have k1 := hk i (by rw [hl.out]; exact hlt)
      rw [Nat.zero_add] at k1
      have c1 : wr.cell? ⟨g, i, none⟩ = some (.complex .f64 (ys.getD i (0, 0)).1 (ys.getD i (0, 0)).2) := by rw [hw.out]; exact k1
      have c2 : wr.cell? ⟨h, i, none⟩ = some (.complex .f64 0 0) := by rw [hw.out]; exact hh.out i hlt
      have o1 := nz_ord (hnz.out i hlt).1
      have o2 := nz_ord (hnz.out i hlt).2
      generalize (ys.getD i (0, 0)).1 = a1 at *
      generalize (ys.getD i (0, 0)).2 = a2 at *
      clear k1 hk hc
      go_wp2_with fail
      go_quiet (fail)
      have hw2 : Hid (wr.drewN nq = w.drewN (d + nq)) := by show _ = _; rw [hw.out, World.drewN_drewN]
      clear hw c1 c2
      generalize wr.drewN nq = wd at *
      go_wp2_with fail
      exact ⟨⟨i + 1, d + nq, by omega, by go_num, hw2⟩, by simp [intOf]; omega⟩
    · have hlt' : decide ((i : Int) < (n : Int)) = false := decide_eq_false (by omega)
      go_wp2_with fail
      go_ret
      exact ⟨rfl, d, hw.out⟩
set_option maxHeartbeats 800000 in
theorem r2Times_f {a b f x y : Nat} (h : Ct f (a, b) (x, y)) (w : World) :
    Calls Tryd.prog 11 #[.complex .f64 a b, .float .f64 f] w fun e w' => e = .returned (.complex .f64 x y) ∧ w = w' := by
  obtain ⟨h1, h2, h3, h4⟩ := h
  simp only at h1 h2 h3 h4
  subst h1; subst h2
  have k1 : ∀ t w, (binOp .mul t (.float .f64 a) (.float .f64 f)).run Tryd.prog w = .ok (.float .f64 (co .mul a f)) w := fun t w => by rw [run_fmul, fk_of_co h3, fr_of_co h3]; rfl
  have k2 : ∀ t w, (binOp .mul t (.float .f64 b) (.float .f64 f)).run Tryd.prog w = .ok (.float .f64 (co .mul b f)) w := fun t w => by rw [run_fmul, fk_of_co h4, fr_of_co h4]; rfl
  clear h3 h4
  go_enter Tryd.func11, Tryd.ntmps11
  go_wp2
  go_ret
  exact ⟨rfl, rfl⟩
end Go.Proofs.YtonfdfmhnamimaaDoor
