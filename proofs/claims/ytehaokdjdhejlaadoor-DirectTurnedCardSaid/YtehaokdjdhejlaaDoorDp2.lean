/-
  Contracts of package direct: the table, the transform, there and back, where nothing is refused.
-/
import Derived.Test.YtehaokdjdhejlaaDoorDp1
namespace Go.Proofs.YtehaokdjdhejlaaDoor
open Flo Go.RowKit

theorem sum_k (v : Value) (zs : List (Nat × Nat)) (n k G C : Nat) (w : World) (hx : RdC w v zs) (hl : Lim zs) (hz : zs.length = n) (hk : k < n) (hn2 : n ≤ 1024) (T : Tab w G n) :
    Calls Tryd.prog 42 #[v, .int .i64 0, .int .i64 1, .int .i64 (k : Int), .slice (some ⟨G, 0, none⟩) n C] w (RZ w (dsm n k fun j => zs.getD j (0, 0))) := by
  have := sum_c v zs 0 1 n k G C w hx hl (by omega) (by omega) hk (by omega) (by omega) T
  have e : (fun j => zs.getD (0 + j * 1) (0, 0)) = fun j => zs.getD j (0, 0) := by funext j; rw [Nat.mul_one, Nat.zero_add]
  rw [e] at this
  exact this
set_option maxHeartbeats 2000000 in
theorem transform_c (v : Value) (zs : List (Nat × Nat)) (G C n : Nat) (w : World) (hx : RdC w v zs) (hl : Lim zs) (hz : zs.length = n) (hn : 0 < n) (hn2 : n ≤ 1024) (T : Tab w G n) :
    Calls Tryd.prog 31 #[v, .slice (some ⟨G, 0, none⟩) n C] w fun e w' => ∃ us, e = .returned (.slice (some ⟨w.heap.size, 0, none⟩) n n) ∧ Row w' w.heap.size w.heap.size n (fun k => dsm n k fun j => zs.getD j (0, 0)) n us ∧ Below w.heap.size w w' := by
  obtain ⟨w1, hmk, hrow, hb1⟩ := makeCx w n (by omega)
  obtain ⟨F, hF⟩ : ∃ F : Nat → Nat × Nat, Hid (F = fun k => dsm n k fun j => zs.getD j (0, 0)) := ⟨_, (rfl : _ = _)⟩
  rw [← hF.out]
  have R0 : Hid (Row w1 w.heap.size w.heap.size n F 0 (List.replicate n (0, 0))) := Row.made F hrow.out
  obtain ⟨ao, cap, rfl, h2⟩ := hx
  have hX : Hid (RdC w (.slice ao n cap) zs) := ⟨ao, cap, by rw [hz], h2⟩
  rw [hz]
  have hT : Hid (Tab w G n) := T
  have hlH : Hid (Lim zs) := hl
  have hzH : Hid (zs.length = n) := hz
  have hg3 : (0 : Int) ≤ (n : Int) := by omega
  clear h2 T hl hz hrow
  go_enter Tryd.func31, Tryd.ntmps31
  go_wp2
  clear hmk
  go_loopw [6, 12] (fun _ si wx => ∃ (i : Nat) (us : List (Nat × Nat)), i ≤ n ∧ si = .int .i64 (i : Int) ∧ Hid (Row wx w.heap.size w.heap.size n F i us) ∧ Hid (Below w.heap.size w wx)) (fun _ si _ => n - (intOf si).toNat)
  case atStart => exact ⟨0, _, Nat.zero_le _, rfl, R0, hb1⟩
  case round =>
    clear R0 hb1
    obtain ⟨i, us, hi, rfl, R, hb⟩ := hrel
    by_cases hlt : i < n
    · have hlt' : (i : Int) < (n : Int) := by omega
      go_wp2_with fail
      refine (sum_k _ zs n i G C _ (hX.out.below hb.out) hlH.out hzH.out hlt hn2 (hT.out.below hb.out)).mono ?_
      rintro e w3 ⟨x, y, d, rfl, rfl, lx, ly, lk⟩
      have R2 : Hid (Row (wr.drewN d) w.heap.size w.heap.size n F i us) := R.out.keep (below_drewN (Below.refl _ _) d)
      have B2 : Hid (Below w.heap.size w (wr.drewN d)) := below_drewN hb.out d
      have lkF : Lk (x, y) (F i) := by rw [hF.out]; exact lk
      clear R hb lk
      generalize wr.drewN d = wd at *
      have c3 := R2.out.cell hlt
      have f2 := R2.out.frozen i
      have R3 : Hid (Row (wd.setCell ⟨w.heap.size, i, none⟩ (.complex .f64 x y)) w.heap.size w.heap.size n F (i + 1) (us.set i (x, y))) := R2.out.put lx ly hlt lkF
      have B3 : Hid (Below w.heap.size w (wd.setCell ⟨w.heap.size, i, none⟩ (.complex .f64 x y))) := B2.out.setCell (p := ⟨w.heap.size, i, none⟩) (Nat.le_refl _) _
      have hsc := store_cx
      clear R2 B2 lkF
      go_wp2
      go_roundw
      case rel => exact ⟨i + 1, _, by omega, by go_num, R3, B3⟩
      case measure => simp [intOf]; omega
    · have hlt' : decide ((i : Int) < (n : Int)) = false := decide_eq_false (by omega)
      have ei : i = n := by omega
      subst ei
      go_wp2
      go_ret
      exact ⟨_, rfl, R.out, hb.out⟩
set_option maxHeartbeats 1000000 in
theorem tableOk_c (n : Nat) (w : World) (h : 0 < n) (hn : n ≤ 1024) :
    Calls Tryd.prog 30 #[.int .i64 n] w fun e w' => ∃ G, e = .returned (.tuple #[.slice (some ⟨G, 0, none⟩) n n, .nilIface]) ∧ w.heap.size ≤ G ∧ Tab w' G n ∧ Below w.heap.size w w' := by
  have hg2 : decide ((n : Int) > 1024) = false := decide_eq_false (by omega)
  have hA := allOk_c n w h (by omega)
  go_enter Tryd.func30, Tryd.ntmps30
  go_wp2_with fail
  refine hA.mono ?_
  rintro e w1 ⟨G, rfl, hG, hrow, B⟩
  have hT : Hid (Tab w1 G n) := Tab.own hrow h
  have hB : Hid (Below w.heap.size w w1) := B
  clear hA hrow B
  go_wp2_with fail
  go_ret2
  exact ⟨G, rfl, hG, hT.out, hB.out⟩
/-- the function that a list is, as far as it goes -/
def ix (zs : List (Nat × Nat)) (j : Nat) : Nat × Nat := zs.getD j (0, 0)
set_option maxHeartbeats 1000000 in
theorem forwardOk_c (v : Value) (zs : List (Nat × Nat)) (n : Nat) (w : World) (hx : RdC w v zs) (hl : Lim zs) (hz : zs.length = n) (hn : 0 < n) (hn2 : n ≤ 1024) :
    Calls Tryd.prog 12 #[v] w fun e w' => ∃ g us, e = .returned (.tuple #[.slice (some ⟨g, 0, none⟩) n n, .nilIface]) ∧ w.heap.size ≤ g ∧ Row w' g g n (fun k => dsm n k fun j => zs.getD j (0, 0)) n us ∧ Below w.heap.size w w' := by
  obtain ⟨ao, cap, rfl⟩ := hx.slice hz
  have hX : Hid (RdC w (.slice ao n cap) zs) := hx
  have hlH : Hid (Lim zs) := hl
  have hzH : Hid (zs.length = n) := hz
  clear hx hl hz
  go_enter Tryd.func12, Tryd.ntmps12
  go_wp2_with fail
  refine (tableOk_c n w hn hn2).mono ?_
  rintro e w1 ⟨G, rfl, hG, T, B⟩
  have hT : Hid (Tab w1 G n) := T
  have hB : Hid (Below w.heap.size w w1) := B
  clear T B
  go_wp2_with fail
  refine (transform_c _ zs G n n w1 (hX.out.below hB.out) hlH.out hzH.out hn hn2 hT.out).mono ?_
  rintro e w2 ⟨us, rfl, R, B2⟩
  have hR : Hid (Row w2 w1.heap.size w1.heap.size n (fun k => dsm n k fun j => zs.getD j (0, 0)) n us) := R
  have hB2 : Hid (Below w.heap.size w w2) := below_tr hB.out B2
  have hs : Hid (w.heap.size ≤ w1.heap.size) := hB.out.size
  clear R B2
  go_wp2_with fail
  go_ret2
  exact ⟨_, us, rfl, hs.out, hR.out, hB2.out⟩
end Go.Proofs.YtehaokdjdhejlaaDoor
