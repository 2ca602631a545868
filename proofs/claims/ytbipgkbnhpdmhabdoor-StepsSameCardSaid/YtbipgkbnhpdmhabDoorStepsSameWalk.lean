/-
  The statement StepsSame: the walk.
-/
import Derived.Test.YtbipgkbnhpdmhabDoorSv1
import Derived.Test.YtbipgkbnhpdmhabDoorSd4
import Derived.Deep.RegionHeld3
namespace Go.Proofs.YtbipgkbnhpdmhabDoor
open Flo Go.RowKit
theorem pgeq_comm (a b : Sp.Pg) : pgeq b a = pgeq a b := by
  rw [Bool.eq_iff_iff, pgeq_iff, pgeq_iff]
  exact ⟨fun h => h.symm, fun h => h.symm⟩
set_option maxHeartbeats 16000000 in
set_option maxRecDepth 100000 in
theorem stepsSame.walk (a b : Sp.Pg) (ao bo : Option Addr) (c d : Nat) (al : List Addr) (w : World) (ha : Ss w ao a.steps) (hb : Ss w bo b.steps) (hna : a.steps.length * 56 ≤ 140737488351232) (hnb : b.steps.length * 56 ≤ 140737488351232) (he : E4 w al) (hO : Ops w) :
    Calls Tryd.prog 3 #[pv a (.slice ao a.steps.length c), pv b (.slice bo b.steps.length d)] w fun e w' => e = .returned (.bool true) ∧ Below w.heap.size w w' := by
  obtain ⟨n, hn⟩ : ∃ n, Hid (a.steps.length = n) := ⟨_, (rfl : _ = _)⟩
  obtain ⟨m, hm⟩ : ∃ n, Hid (b.steps.length = n) := ⟨_, (rfl : _ = _)⟩
  have hn1 : Hid (n ≤ 140737488355328) := by show _ ≤ _; rw [← hn.out]; omega
  have hm1 : Hid (m ≤ 140737488355328) := by show _ ≤ _; rw [← hm.out]; omega
  rw [hn.out, hm.out]
  obtain ⟨g, hg⟩ : ∃ g, Hid (w.heap.size = g) := ⟨_, (rfl : _ = _)⟩
  obtain ⟨wa, ewa⟩ : ∃ wa, Hid ((w.alloc (.cells #[.int .i64 a.len, .int .i64 a.cells, .int .i64 a.inn, .int .i64 a.out, .slice ao n c] 24)).alloc (.cells #[.int .i64 b.len, .int .i64 b.cells, .int .i64 b.inn, .int .i64 b.out, .slice bo m d] 24) = wa) := ⟨_, (rfl : _ = _)⟩
  have Ba : Hid (Below w.heap.size w wa) := by rw [← ewa.out]; exact ((Below.refl _ _).alloc (Nat.le_refl _) _).alloc (by simp) _
  have X1 : Hid (Bpg wa g a (.slice ao n c)) := by rw [← ewa.out, ← hg.out]; exact (Bpg.new w a (.slice ao n c)).below ((Below.refl _ _).alloc (Nat.le_refl _) _)
  have X2 : Hid (Bpg wa (g + 1) b (.slice bo m d)) := by
    show Bpg _ _ _ _
    rw [← ewa.out, ← hg.out]
    have := Bpg.new (w.alloc (.cells #[.int .i64 a.len, .int .i64 a.cells, .int .i64 a.inn, .int .i64 a.out, .slice ao n c] 24)) b (.slice bo m d)
    simpa using this
  have haH : Hid (Ss wa ao a.steps) := ha.below Ba.out
  have hbH : Hid (Ss wa bo b.steps) := hb.below Ba.out
  have hlv : Hid (Calls Tryd.prog 4 #[] wa fun e w' => e = .returned (.bool true) ∧ Below wa.heap.size wa w') := slives_c al wa (he.below Ba.out) (hO.below Ba.out)
  obtain ⟨r, hr⟩ : ∃ r, Hid (pgeq a b = r) := ⟨_, (rfl : _ = _)⟩
  have c1 : Hid (∀ W, Below wa.heap.size wa W → Calls Tryd.prog 5 #[pv a (.slice ao n c), pv b (.slice bo m d)] W fun e w' => e = .returned (.bool r) ∧ Below wa.heap.size wa w') := fun W hW => by
    refine (ssame_c a b ao bo n m c d W (haH.out.below hW) (hbH.out.below hW) hn.out.symm hm.out.symm hn1.out).mono ?_
    rintro e w' ⟨rfl, h2⟩
    exact ⟨by rw [hr.out], hW.trans (h2.mono hW.size)⟩
  have c2 : Hid (∀ W, Below wa.heap.size wa W → Calls Tryd.prog 5 #[pv b (.slice bo m d), pv a (.slice ao n c)] W fun e w' => e = .returned (.bool r) ∧ Below wa.heap.size wa w') := fun W hW => by
    refine (ssame_c b a bo ao m n d c W (hbH.out.below hW) (haH.out.below hW) hm.out.symm hn.out.symm hm1.out).mono ?_
    rintro e w' ⟨rfl, h2⟩
    exact ⟨by rw [pgeq_comm, hr.out], hW.trans (h2.mono hW.size)⟩
  have c3 : Hid (∀ W, Below wa.heap.size wa W → Calls Tryd.prog 5 #[pv a (.slice ao n c), pv a (.slice ao n c)] W fun e w' => e = .returned (.bool true) ∧ Below wa.heap.size wa w') := fun W hW => by
    refine (ssame_c a a ao ao n n c c W (haH.out.below hW) (haH.out.below hW) hn.out.symm hn.out.symm hn1.out).mono ?_
    rintro e w' ⟨rfl, h2⟩
    exact ⟨by rw [pgeq_iff.2 rfl], hW.trans (h2.mono hW.size)⟩
  have c4 : Hid (∀ W, Below wa.heap.size wa W → Calls Tryd.prog 6 #[pv a (.slice ao n c), pv b (.slice bo m d)] W fun e w' => e = .returned (.bool r) ∧ Below wa.heap.size wa w') := fun W hW => by
    refine (dsame_c a b ao bo n m c d W (haH.out.below hW) (hbH.out.below hW) hn.out.symm hm.out.symm hn1.out).mono ?_
    rintro e w' ⟨rfl, h2⟩
    exact ⟨by rw [hr.out], hW.trans (h2.mono hW.size)⟩
  have qr : (r == r) = true := by simp
  clear ha hb hna hnb he hO
  unfold pv at *
  go_enter Tryd.func3, Tryd.ntmps3
  go_upto_region 1 with fail
  rw [ewa.out, hg.out]
  go_wp2_with fail
  refine hlv.out.mono ?_
  rintro e w1 ⟨rfl, B1⟩
  have B1H : Hid (Below wa.heap.size wa w1) := B1
  have Z1 := X1.out.below B1
  have Z2 := X2.out.below B1
  clear B1 hlv
  go_upto_region 3 with fail
  obtain ⟨x0, x1, x2, x3, x4⟩ := Z1
  obtain ⟨y0, y1, y2, y3, y4⟩ := Z2
  go_region_held3 (fun Z => Z.cell? ⟨g, 0, none⟩ = some (.int .i64 a.len) ∧ Z.cell? ⟨g, 1, none⟩ = some (.int .i64 a.cells) ∧ Z.cell? ⟨g, 2, none⟩ = some (.int .i64 a.inn) ∧ Z.cell? ⟨g, 3, none⟩ = some (.int .i64 a.out) ∧ Z.cell? ⟨g, 4, none⟩ = some (.slice ao n c) ∧ Z.cell? ⟨g + 1, 0, none⟩ = some (.int .i64 b.len) ∧ Z.cell? ⟨g + 1, 1, none⟩ = some (.int .i64 b.cells) ∧ Z.cell? ⟨g + 1, 2, none⟩ = some (.int .i64 b.inn) ∧ Z.cell? ⟨g + 1, 3, none⟩ = some (.int .i64 b.out) ∧ Z.cell? ⟨g + 1, 4, none⟩ = some (.slice bo m d)) (go_keep) ((first
    | (go_at_call 5; with_reducible refine (c1.out _ ?_).mono ?_; (first | assumption | exact B1H.out | exact B1H.out.drew | exact Below.drew (by assumption)); rintro e w5 ⟨rfl, B5⟩; obtain ⟨x0, x1, x2, x3, x4⟩ := X1.out.below B5; obtain ⟨y0, y1, y2, y3, y4⟩ := X2.out.below B5)
    | (go_at_call 6; with_reducible refine (c4.out _ ?_).mono ?_; (first | assumption | exact B1H.out | exact B1H.out.drew | exact Below.drew (by assumption)); rintro e w5 ⟨rfl, B5⟩; obtain ⟨x0, x1, x2, x3, x4⟩ := X1.out.below B5; obtain ⟨y0, y1, y2, y3, y4⟩ := X2.out.below B5)
    | (go_at_call 5; with_reducible refine (c2.out _ ?_).mono ?_; (first | assumption | exact B1H.out | exact B1H.out.drew | exact Below.drew (by assumption)); rintro e w5 ⟨rfl, B5⟩; obtain ⟨x0, x1, x2, x3, x4⟩ := X1.out.below B5; obtain ⟨y0, y1, y2, y3, y4⟩ := X2.out.below B5)
    | (go_at_call 5; with_reducible refine (c3.out _ ?_).mono ?_; (first | assumption | exact B1H.out | exact B1H.out.drew | exact Below.drew (by assumption)); rintro e w5 ⟨rfl, B5⟩; obtain ⟨x0, x1, x2, x3, x4⟩ := X1.out.below B5; obtain ⟨y0, y1, y2, y3, y4⟩ := X2.out.below B5)))
  all_goals (
    go_wp2
    go_ret
    exact ⟨rfl, Ba.out.trans (Below.mono (by assumption) Ba.out.size)⟩)
end Go.Proofs.YtbipgkbnhpdmhabDoor
