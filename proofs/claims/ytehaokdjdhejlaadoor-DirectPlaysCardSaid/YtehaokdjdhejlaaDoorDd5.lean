/-
  The document's layer 10: Forward, Conj.
-/
import Derived.Test.YtehaokdjdhejlaaDoorDd3
namespace Go.Proofs.YtehaokdjdhejlaaDoor
open Flo Go.RowKit
/-- a list that has grown by i, each told by F -/
structure Gro (w : World) (B i : Nat) (v : Value) (F : Nat → Nat × Nat) (us : List (Nat × Nat)) : Prop where
  own : w.ownsRow B 37 1 v i (cz us)
  len : us.length = i
  lim : Lim us
  up : Upl us F i
theorem Lim.snoc {us : List (Nat × Nat)} (h : Lim us) {x y : Nat} (hx : x < 18446744073709551616) (hy : y < 18446744073709551616) : Lim (us ++ [(x, y)]) := by
  intro i hi
  rw [List.length_append] at hi
  by_cases c : i < us.length
  · rw [show (us ++ [(x, y)]).getD i (0, 0) = us.getD i (0, 0) by simp [List.getD, List.getElem?_append, c]]
    exact h i c
  · have e : i = us.length := by simp at hi; omega
    subst e
    rw [show (us ++ [(x, y)]).getD us.length (0, 0) = (x, y) by simp [List.getD]]
    exact ⟨hx, hy⟩
theorem Gro.snoc {w w' : World} {B i : Nat} {v v' : Value} {F : Nat → Nat × Nat} {us : List (Nat × Nat)} {x y : Nat} (h : Gro w B i v F us) (hown : w'.ownsRow B 37 1 v' (i + 1) (cz us ++ [.complex .f64 x y])) (hx : x < 18446744073709551616) (hy : y < 18446744073709551616) (hz : Lk (x, y) (F i)) : Gro w' B (i + 1) v' F (us ++ [(x, y)]) := by
  refine ⟨by rw [cz_snoc]; exact hown, by rw [List.length_append, h.len]; rfl, h.lim.snoc hx hy, fun k hk => ?_⟩
  by_cases c : k < i
  · rw [show (us ++ [(x, y)]).getD k (0, 0) = us.getD k (0, 0) by simp [List.getD, List.getElem?_append, h.len, c]]
    exact h.up k c
  · have e : k = i := by omega
    subst e
    rw [show (us ++ [(x, y)]).getD k (0, 0) = (x, y) by simp [List.getD, ← h.len]]
    exact hz
theorem Gro.keep {w w' : World} {B i : Nat} {v : Value} {F : Nat → Nat × Nat} {us : List (Nat × Nat)} (h : Gro w B i v F us) (hb : Below w.heap.size w w') : Gro w' B i v F us := ⟨own_blw h.own hb, h.len, h.lim, h.up⟩
theorem Gro.rd {w : World} {B i : Nat} {v : Value} {F : Nat → Nat × Nat} {us : List (Nat × Nat)} (h : Gro w B i v F us) : RdC w v us := RdC.of_own (by rw [h.len]; exact h.own)
theorem Gro.start (w : World) (F : Nat → Nat × Nat) : Gro (w.alloc (.cells #[] 37)) w.heap.size 0 (.slice (some ⟨w.heap.size, 0, none⟩) 0 0) F [] :=
  ⟨emptyCx w _ (Nat.le_refl _), rfl, fun i hi => absurd hi (Nat.not_lt_zero i), fun i hi => absurd hi (Nat.not_lt_zero i)⟩
theorem fwNo_c (ao : Option Addr) (n cap : Nat) (w : World) (h : n < 1 ∨ 1024 < n) :
    Calls Tryd.prog 13 #[.slice ao n cap] w fun e w' => e = .returned (.tuple #[.slice none 0 0, .int .i64 7]) ∧ w' = w := by
  by_cases h1 : n < 1
  · have h1' : (n : Int) < 1 := by omega
    have e : n = 0 := by omega
    subst e
    go_enter Tryd.func13, Tryd.ntmps13
    go_wp2
    go_ret2
    exact ⟨rfl, rfl⟩
  · have h1' : decide ((n : Int) < 1) = false := decide_eq_false (by omega)
    have h2 : (n : Int) > 1024 := by omega
    clear h
    go_enter Tryd.func13, Tryd.ntmps13
    go_wp2
    go_ret2
    exact ⟨rfl, rfl⟩
theorem at10_k (v : Value) (zs : List (Nat × Nat)) (n k : Nat) (w : World) (hx : RdC w v zs) (hl : Lim zs) (hz : zs.length = n) (hk : k < n) (hn2 : n ≤ 1024) :
    Calls Tryd.prog 32 #[v, .int .i64 0, .int .i64 1, .int .i64 (n : Int), .int .i64 (k : Int)] w (RZ w (dsm n k fun j => zs.getD j (0, 0))) := by
  have := at10_c v zs 0 1 n (k : Int) w hx hl (by omega) (by omega) hn2 (by omega)
  rw [md_self hk] at this
  have e : (fun j => zs.getD (0 + j * 1) (0, 0)) = fun j => zs.getD j (0, 0) := by funext j; rw [Nat.mul_one, Nat.zero_add]
  rw [e] at this
  exact this
set_option maxHeartbeats 2000000 in
theorem fwOk_c (v : Value) (zs : List (Nat × Nat)) (n : Nat) (w : World) (hx : RdC w v zs) (hl : Lim zs) (hz : zs.length = n) (hn : 0 < n) (hn2 : n ≤ 1024) :
    Calls Tryd.prog 13 #[v] w fun e w' => ∃ v' us, e = .returned (.tuple #[v', .int .i64 0]) ∧ Gro w' w.heap.size n v' (fun k => dsm n k fun j => zs.getD j (0, 0)) us ∧ Below w.heap.size w w' := by
  obtain ⟨F, hF⟩ : ∃ F : Nat → Nat × Nat, Hid (F = fun k => dsm n k fun j => zs.getD j (0, 0)) := ⟨_, (rfl : _ = _)⟩
  rw [← hF.out]
  obtain ⟨ao, cap, rfl⟩ := hx.slice hz
  have hX : Hid (RdC w (.slice ao n cap) zs) := hx
  have hlH : Hid (Lim zs) := hl
  have hzH : Hid (zs.length = n) := hz
  have g1 : decide ((n : Int) < 1) = false := decide_eq_false (by omega)
  have g2 : decide ((n : Int) > 1024) = false := decide_eq_false (by omega)
  have R0 : Hid (Gro (w.alloc (.cells #[] 37)) w.heap.size 0 (.slice (some ⟨w.heap.size, 0, none⟩) 0 0) F []) := Gro.start w F
  have hB0 : Hid (Below w.heap.size w (w.alloc (.cells #[] 37))) := (Below.refl _ _).alloc (Nat.le_refl _) _
  obtain ⟨i0, hi, hz0, hz1, hz2⟩ := info_cx
  clear hx hl hz
  go_enter Tryd.func13, Tryd.ntmps13
  go_wp2_with fail
  go_loopw [5, 6] (fun so sk wx => ∃ (k : Nat) (us : List (Nat × Nat)), k ≤ n ∧ sk = .int .i64 (k : Int) ∧ Hid (Gro wx w.heap.size k so F us) ∧ Hid (Below w.heap.size w wx)) (fun _ sk _ => n - (intOf sk).toNat)
  case atStart => exact ⟨0, [], Nat.zero_le _, rfl, R0, hB0⟩
  case round =>
    clear R0 hB0
    obtain ⟨k, us, hk, rfl, R, hb⟩ := hrel
    by_cases hlt : k < n
    · have hlt' : (k : Int) < (n : Int) := by omega
      go_wp2_with fail
      refine (at10_k _ zs n k wr (hX.out.below hb.out) hlH.out hzH.out hlt hn2).mono ?_
      rintro e w3 ⟨x, y, d, rfl, rfl, lx, ly, lk⟩
      have hlk : Hid (Lk (x, y) (F k)) := by show Lk _ _; rw [hF.out]; exact lk
      have RD : Hid (Gro (wr.drewN d) w.heap.size k u5 F us) := R.out.keep (below_drewN (Below.refl _ _) d)
      have hbD : Hid (Below w.heap.size w (wr.drewN d)) := below_drewN hb.out d
      have hsz := hbD.out.size
      clear lk R hb
      generalize wr.drewN d = wd at *
      have hown : Hid (wd.ownsRow w.heap.size 37 1 u5 k (cz us)) := RD.out.own
      go_wp2_with (at_builtin; refine wpList_append_own _ rfl _ _ 24 rfl w.heap.size 37 i0 (.complex .f64 0 0) 1 16 Tryd.underlying24 hi hz0 hz1 hz2 rfl (by decide) _ _ _ rfl (hown.out.alloc _) ⟨wd.heap.size, 0, none⟩ 1 1 [.complex .f64 x y] rfl rfl (cell_one_new10 _ _ _) (by simp [Value.oneCell']) (by unfold maxLen; omega) (by omega) (by simp; omega) ?_)
      intro v' w4 q1 q2 q3
      have R4 : Hid (Gro w4 w.heap.size (k + 1) v' F (us ++ [(x, y)])) := RD.out.snoc q1 lx ly hlk.out
      have B4 : Hid (Below w.heap.size w w4) := (hbD.out.alloc hsz _).grown q2 (by simp; omega) (fun k' hk' => (RD.out.own.lt k' hk').1)
      clear q1 q2 q3 RD hbD hown hlk
      go_wp2_with fail
      go_roundw
      case rel => exact ⟨k + 1, _, by omega, by go_num, R4, B4⟩
      case measure => simp [intOf]; omega
    · have hlt' : decide ((k : Int) < (n : Int)) = false := decide_eq_false (by omega)
      have ek : k = n := by omega
      subst ek
      go_wp2_with fail
      go_ret2
      exact ⟨_, us, rfl, R.out, hb.out⟩
set_option maxHeartbeats 2000000 in
theorem cj10_c (v : Value) (zs : List (Nat × Nat)) (n : Nat) (w : World) (hx : RdC w v zs) (hl : Lim zs) (hz : zs.length = n) (hn2 : n ≤ 8796093022000) :
    Calls Tryd.prog 36 #[v] w fun e w' => ∃ v' us, e = .returned v' ∧ Gro w' w.heap.size n v' (fun k => cjp (zs.getD k (0, 0))) us ∧ Below w.heap.size w w' := by
  obtain ⟨F, hF⟩ : ∃ F : Nat → Nat × Nat, Hid (F = fun k => cjp (zs.getD k (0, 0))) := ⟨_, (rfl : _ = _)⟩
  rw [← hF.out]
  obtain ⟨ao, cap, rfl⟩ := hx.slice hz
  have hX : Hid (RdC w (.slice ao n cap) zs) := hx
  have hlH : Hid (Lim zs) := hl
  have hzH : Hid (zs.length = n) := hz
  have R0 : Hid (Gro (w.alloc (.cells #[] 37)) w.heap.size 0 (.slice (some ⟨w.heap.size, 0, none⟩) 0 0) F []) := Gro.start w F
  have hB0 : Hid (Below w.heap.size w (w.alloc (.cells #[] 37))) := (Below.refl _ _).alloc (Nat.le_refl _) _
  obtain ⟨i0, hi, hz0, hz1, hz2⟩ := info_cx
  clear hx hl hz
  go_enter Tryd.func36, Tryd.ntmps36
  go_wp2_with fail
  go_loopw [3, 5, 9] (fun so _ si wx => ∃ (i : Nat) (us : List (Nat × Nat)), i ≤ n ∧ si = .int .i64 (i : Int) ∧ Hid (Gro wx w.heap.size i so F us) ∧ Hid (Below w.heap.size w wx)) (fun _ _ si _ => n - (intOf si).toNat)
  case atStart => exact ⟨0, [], Nat.zero_le _, rfl, R0, hB0⟩
  case round =>
    clear R0 hB0
    obtain ⟨i, us, hin, rfl, R, hb⟩ := hrel
    by_cases hlt : i < n
    · have hlt' : (i : Int) < (n : Int) := by omega
      obtain ⟨bx, ox, rfl, hbx, k1⟩ := hX.out.each hlt hzH.out
      have hcx := (hb.out.cell (p := ⟨bx, ox + i, none⟩) hbx).trans k1
      have hlx := hlH.out i (by rw [hzH.out]; exact hlt)
      have hlk : Hid (Lk ((zs.getD i (0, 0)).1, Ari.ng (zs.getD i (0, 0)).2) (F i)) := by show Lk _ _; rw [hF.out]; exact Lk.refl _
      have hg2 := fun w => run_fneg (P := Tryd.prog) (zs.getD i (0, 0)).2 w hlx.2
      have hlx2 : Hid ((zs.getD i (0, 0)).1 < 18446744073709551616 ∧ Ari.ng (zs.getD i (0, 0)).2 < 18446744073709551616) := ⟨hlx.1, Ari.ng_lt hlx.2⟩
      clear k1 hlx
      generalize (zs.getD i (0, 0)).1 = a at *
      generalize (zs.getD i (0, 0)).2 = c at *
      generalize Ari.ng c = nc at *
      have hsz := hb.out.size
      have hown : Hid (wr.ownsRow w.heap.size 37 1 u3 i (cz us)) := R.out.own
      go_wp2_with (at_builtin; refine wpList_append_own _ rfl _ _ 24 rfl w.heap.size 37 i0 (.complex .f64 0 0) 1 16 Tryd.underlying24 hi hz0 hz1 hz2 rfl (by decide) _ _ _ rfl (hown.out.alloc _) ⟨wr.heap.size, 0, none⟩ 1 1 [.complex .f64 a nc] rfl rfl (cell_one_new10 _ _ _) (by simp [Value.oneCell']) (by unfold maxLen; omega) (by omega) (by simp; omega) ?_)
      intro v' w4 q1 q2 q3
      have R4 : Hid (Gro w4 w.heap.size (i + 1) v' F (us ++ [(a, nc)])) := R.out.snoc q1 hlx2.out.1 hlx2.out.2 hlk.out
      have B4 : Hid (Below w.heap.size w w4) := (hb.out.alloc hsz _).grown q2 (by simp; omega) (fun k' hk' => (R.out.own.lt k' hk').1)
      clear q1 q2 q3 R hb hown hlk hcx hg2
      go_wp2_with fail
      go_roundw
      case rel => exact ⟨i + 1, _, by omega, by go_num, R4, B4⟩
      case measure => simp [intOf]; omega
    · have hlt' : decide ((i : Int) < (n : Int)) = false := decide_eq_false (by omega)
      have ei : i = n := by omega
      subst ei
      go_wp2_with fail
      go_ret
      exact ⟨_, us, rfl, R.out, hb.out⟩
end Go.Proofs.YtehaokdjdhejlaaDoor
