/-
  The statements' own 'calm'.
-/
import Derived.Test.YtehaokdjdhejlaaDoorDd1
import Derived.Test.YtehaokdjdhejlaaDoorLa1
namespace Go.Proofs.YtehaokdjdhejlaaDoor
open Flo Go.RowKit
set_option maxHeartbeats 2000000 in
theorem calm_n (b off cap : Nat) (zs : List (Nat × Nat)) (n : Nat) (w : World) (hL : Hid (zs.length = n)) (hbw : b < w.heap.size) (hb : Hid (∀ i, i < n → w.cell? ⟨b, off + i, none⟩ = some (.complex .f64 (zs.getD i (0, 0)).1 (zs.getD i (0, 0)).2)))
    (hl : Hid (Lim zs)) (hn : 0 < n) (hn2 : n ≤ 1024) :
    Calls Tryd.prog 27 #[.slice (some ⟨b, off, none⟩) n cap] w fun e w' => ∃ r : Bool, e = .returned (.bool r) ∧ (r = true → Tr.Calm n fun j => zs.getD j (0, 0)) ∧ Below w.heap.size w w' := by
  obtain ⟨w0, hw0⟩ : ∃ w0, Hid (w.alloc (.cells #[.bool false] 80) = w0) := ⟨_, (rfl : _ = _)⟩
  have hW0 : Hid (Wt w0 w.heap.size false) := by
    rw [← hw0.out]
    exact ⟨by rw [cell_of_row _ _ _ _ _ _ (heap_alloc_new w _)]; rfl, World.frozen?_alloc_new _ _ _ _⟩
  have hB0 : Hid (Below w.heap.size w w0) := by rw [← hw0.out]; exact (Below.refl _ _).alloc (Nat.le_refl _) _
  have hb0 : Hid (∀ i, i < n → w0.cell? ⟨b, off + i, none⟩ = some (.complex .f64 (zs.getD i (0, 0)).1 (zs.getD i (0, 0)).2)) := fun i hi => (hB0.out.cell (p := ⟨b, off + i, none⟩) hbw).trans (hb.out i hi)
  have hne : Hid (b ≠ w.heap.size) := (by omega : b ≠ w.heap.size)
  have hend : Hid (∀ W, Fr (fun k => k = w.heap.size) w0 W → Below w.heap.size w W) := fun W h => h.below hB0.out hB0.out.size (fun k _ e => Nat.le_of_eq e.symm)
  go_enter Tryd.func27, Tryd.ntmps27
  go_wp2_with fail
  rw [hw0.out]
  go_loopw [5, 11] (fun _ si wx => ∃ (i : Nat) (b' : Bool), i ≤ n ∧ si = .int .i64 (i : Int) ∧ Hid (Wt wx w.heap.size b') ∧ Hid (Fr (fun k => k = w.heap.size) w0 wx) ∧ Hid (b' = false → ∀ j, j < i → Tr.okc (zs.getD j (0, 0)))) (fun _ si _ => n - (intOf si).toNat)
  case atStart => exact ⟨0, false, Nat.zero_le _, rfl, hW0, Fr.refl _ _, fun _ j hj => absurd hj (Nat.not_lt_zero j)⟩
  case round =>
    obtain ⟨i, b1, hi, rfl, k1, f1, c1⟩ := hrel
    by_cases hlt : i < n
    · have hlt' : (i : Int) < (n : Int) := by omega
      have hci : wr.cell? ⟨b, off + i, none⟩ = some (.complex .f64 (zs.getD i (0, 0)).1 (zs.getD i (0, 0)).2) := f1.out.cell (hb0.out i hlt) hne.out
      have hli := hl.out i (by rw [hL.out]; exact hlt)
      have hzi : Hid (∀ x y, zs.getD i (0, 0) = (x, y) → Tr.okc (x, y) → Tr.okc (zs.getD i (0, 0))) := fun x y e h => by rw [e]; exact h
      obtain ⟨⟨x, y⟩, hxy⟩ : ∃ z, Hid (zs.getD i (0, 0) = z) := ⟨_, (rfl : _ = _)⟩
      rw [hxy.out] at hci hli
      go_wp2_with fail
      refine (seec_c w.heap.size x y b1 wr k1.out hli.1 hli.2).mono ?_
      rintro e w2 ⟨rfl, b2, g2, g3, g4⟩
      have k2 : Hid (Wt w2 w.heap.size b2) := g2
      have f2 : Hid (Fr (fun k => k = w.heap.size) w0 w2) := f1.out.then g3
      have c2 : Hid (b2 = false → ∀ j, j < i + 1 → Tr.okc (zs.getD j (0, 0))) := fun h j hj => by
        by_cases c : j < i
        · exact c1.out (g4 h).1 j c
        · obtain rfl : j = i := by omega
          exact hzi.out x y hxy.out (g4 h).2
      clear g2 g3 g4 k1 f1 c1
      go_wp2_with fail
      go_roundw
      case rel => exact ⟨i + 1, b2, by omega, by go_num, k2, f2, c2⟩
      case measure => simp [intOf]; omega
    · have hlt' : decide ((i : Int) < (n : Int)) = false := decide_eq_false (by omega)
      have ei : i = n := by omega
      subst ei
      rename World => w5
      go_wp2_with fail
      go_loopw [6, 21] (fun _ sk wx => ∃ (k : Nat) (b' : Bool), k ≤ i ∧ sk = .int .i64 (k : Int) ∧ Hid (Wt wx w.heap.size b') ∧ Hid (Fr (fun k => k = w.heap.size) w0 wx) ∧ Hid (b' = false → b1 = false ∧ ∀ j, j < k → Tr.Cs i j (fun j => zs.getD j (0, 0)) (i - 1))) (fun _ sk _ => i - (intOf sk).toNat)
      case atStart => exact ⟨0, b1, Nat.zero_le _, rfl, k1, f1, fun h => ⟨h, fun j hj => absurd hj (Nat.not_lt_zero j)⟩⟩
      case round =>
        obtain ⟨k, b2, hki, rfl, k2, f2, c2⟩ := hrel
        by_cases hltk : k < i
        · have hltk' : (k : Int) < (i : Int) := by omega
          have hcc : Hid (∀ j, j < i → wr.cell? ⟨b, off + j, none⟩ = some (.complex .f64 (zs.getD j (0, 0)).1 (zs.getD j (0, 0)).2)) := fun j hj => f2.out.cell (hb0.out j hj) hne.out
          go_wp2_with fail
          refine (watched_n w.heap.size b off cap b2 zs i k wr k2 hL hcc hne.out hl hltk hn2).mono ?_
          rintro e w6 ⟨x, y, b3, rfl, g2, g3, g4⟩
          have k3 : Hid (Wt w6 w.heap.size b3) := g2
          have f3 : Hid (Fr (fun k => k = w.heap.size) w0 w6) := f2.out.then g3
          have c3 : Hid (b3 = false → b1 = false ∧ ∀ j, j < k + 1 → Tr.Cs i j (fun j => zs.getD j (0, 0)) (i - 1)) := fun h => by
            refine ⟨(c2.out (g4 h).1).1, fun j hj => ?_⟩
            by_cases c : j < k
            · exact (c2.out (g4 h).1).2 j c
            · obtain rfl : j = k := by omega
              exact (g4 h).2
          clear g2 g3 g4 k2 f2 c2 hcc
          go_wp2_with fail
          go_roundw
          case rel => exact ⟨k + 1, b3, by omega, by go_num, k3, f3, c3⟩
          case measure => simp [intOf]; omega
        · have hltk' : decide ((k : Int) < (i : Int)) = false := decide_eq_false (by omega)
          have ek : k = i := by omega
          subst ek
          have kc := k2.out.c
          have hE : Hid (Below w.heap.size w wr) := hend.out wr f2.out
          have hC : Hid ((!b2) = true → Tr.Calm k fun j => zs.getD j (0, 0)) := fun h => by
            have h2 : b2 = false := by cases b2 <;> simp_all
            exact ⟨c1.out (c2.out h2).1, (c2.out h2).2⟩
          go_wp2_with fail
          go_ret
          exact ⟨_, rfl, hC.out, hE.out⟩
theorem calm_c (v : Value) (zs : List (Nat × Nat)) (n : Nat) (w : World) (hx : RdC w v zs) (hl : Lim zs) (hz : zs.length = n) (hn : 0 < n) (hn2 : n ≤ 1024) :
    Calls Tryd.prog 27 #[v] w fun e w' => ∃ r : Bool, e = .returned (.bool r) ∧ (r = true → Tr.Calm n fun j => zs.getD j (0, 0)) ∧ Below w.heap.size w w' := by
  obtain ⟨ao, cap, rfl⟩ := hx.slice hz
  obtain ⟨b, off, rfl, hb, _⟩ := hx.each hn hz
  exact calm_n b off cap zs n w hz hb (fun i hi => by
    obtain ⟨b', off', e, _, h⟩ := hx.each hi hz
    cases e
    exact h) hl hn hn2
end Go.Proofs.YtehaokdjdhejlaaDoor
