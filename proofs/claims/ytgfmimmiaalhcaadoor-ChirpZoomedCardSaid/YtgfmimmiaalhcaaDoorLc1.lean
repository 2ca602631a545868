/-
  Layer 13's statements: alike, lists alike, the list of bits.
-/
import Derived.Test.YtgfmimmiaalhcaaDoorLa1
namespace Go.Proofs.YtgfmimmiaalhcaaDoor
open Flo Go.RowKit

set_option maxHeartbeats 1000000 in
theorem same13_c (a b c d : Nat) (w : World) (ha : a < 18446744073709551616) (hb : b < 18446744073709551616) (hc : c < 18446744073709551616) (hd : d < 18446744073709551616) (h : Lk (a, b) (c, d)) :
    Calls Tryd.prog 12 #[.complex .f64 a b, .complex .f64 c d] w fun e w' => e = .returned (.bool true) ∧ w = w' := by
  have s1 := rsame_c a c
  have s2 := rsame_c b d
  have e1 : ((bt a : Int) == (bt c : Int)) = true := by rw [show bt a = bt c from h.1]; exact beq_self_eq_true _
  have e2 : ((bt b : Int) == (bt d : Int)) = true := by rw [show bt b = bt d from h.2]; exact beq_self_eq_true _
  clear h
  go_enter Tryd.func12, Tryd.ntmps12
  go_wp2_with fail
  refine (s1 _ ha hc).mono ?_
  rintro e w1 ⟨rfl, rfl⟩
  rw [e1]
  go_wp2_with fail
  refine (s2 _ hb hd).mono ?_
  rintro e w2 ⟨rfl, rfl⟩
  rw [e2]
  go_wp2_with fail
  go_ret
  exact ⟨rfl, rfl⟩
set_option maxHeartbeats 1000000 in
theorem sameList13_c (u v : Value) (zs us : List (Nat × Nat)) (w : World) (hx : RdC w u zs) (hy : RdC w v us) (hl : Lim zs) (hm : Lim us) (hs : Lks zs us) (hlen : zs.length ≤ 140737488355328) :
    Calls Tryd.prog 18 #[u, v] w fun e w' => e = .returned (.bool true) ∧ ∃ d, w' = w.drewN d := by
  obtain ⟨L, hL⟩ : ∃ L, Hid (zs.length = L) := ⟨_, (rfl : _ = _)⟩
  have hL2 : Hid (us.length = L) := hs.1.symm.trans hL.out
  have hlenL : L ≤ 140737488355328 := by rw [← hL.out]; exact hlen
  obtain ⟨a1, c1, rfl⟩ := hx.slice hL.out
  obtain ⟨a2, c2, rfl⟩ := hy.slice hL2.out
  have hX : Hid (RdC w (.slice a1 L c1) zs) := hx
  have hY : Hid (RdC w (.slice a2 L c2) us) := hy
  have hl1 : Hid (Lim zs) := hl
  have hl2 : Hid (Lim us) := hm
  have hsH : Hid (Lks zs us) := hs
  clear hx hy hl hm hs hlen
  go_enter Tryd.func18, Tryd.ntmps18
  go_wp2_with fail
  go_loopw [5, 6, 14] (fun _ _ si wx => ∃ i d : Nat, i ≤ L ∧ si = .int .i64 (i : Int) ∧ Hid (wx = w.drewN d)) (fun _ _ si _ => L - (intOf si).toNat)
  case atStart => exact ⟨0, 0, Nat.zero_le _, rfl, (rfl : w = w.drewN 0)⟩
  case round =>
    obtain ⟨i, d, hi, rfl, hw⟩ := hrel
    by_cases hlt : i < L
    · have hlt' : (i : Int) < (L : Int) := by omega
      obtain ⟨b1, o1, rfl, _, k1⟩ := hX.out.each hlt hL.out
      obtain ⟨b2, o2, rfl, _, k2⟩ := hY.out.each hlt hL2.out
      have q1 : wr.cell? ⟨b1, o1 + i, none⟩ = some (.complex .f64 (zs.getD i (0, 0)).1 (zs.getD i (0, 0)).2) := by rw [hw.out]; exact k1
      have q2 : wr.cell? ⟨b2, o2 + i, none⟩ = some (.complex .f64 (us.getD i (0, 0)).1 (us.getD i (0, 0)).2) := by rw [hw.out]; exact k2
      have l1 := hl1.out i (by rw [hL.out]; exact hlt)
      have l2 := hl2.out i (by rw [hL2.out]; exact hlt)
      have lk := hsH.out.2 i (by rw [hL.out]; exact hlt)
      have hcall : Hid (∀ W, Calls Tryd.prog 12 #[.complex .f64 (zs.getD i (0, 0)).1 (zs.getD i (0, 0)).2, .complex .f64 (us.getD i (0, 0)).1 (us.getD i (0, 0)).2] W fun e w' => e = .returned (.bool true) ∧ w' = W) := fun W => (same13_c _ _ _ _ W l1.1 l1.2 l2.1 l2.2 lk).mono fun _ _ h => ⟨h.1, h.2.symm⟩
      generalize zs.getD i (0, 0) = z1 at *
      generalize us.getD i (0, 0) = z2 at *
      obtain ⟨a, b⟩ := z1
      obtain ⟨c, e⟩ := z2
      clear k1 k2 l1 l2 lk
      go_wp2_with fail
      go_quiet (first | (go_at_call 12; exact Calls.quiet_of_same (hcall.out _)))
      have hw2 : Hid (wr.drewN nq = w.drewN (d + nq)) := by show _ = _; rw [hw.out, World.drewN_drewN]
      clear hcall q1 q2 hw
      generalize wr.drewN nq = wd at *
      go_wp2_with fail
      go_roundw
      case rel => exact ⟨i + 1, d + nq, by omega, by go_num, hw2⟩
      case measure => simp [intOf]; omega
    · have hlt' : decide ((i : Int) < (L : Int)) = false := decide_eq_false (by omega)
      go_wp2
      go_ret
      exact ⟨rfl, d, hw.out⟩
set_option maxRecDepth 100000 in
set_option maxHeartbeats 1000000 in
theorem listOq_n (ao : Option Addr) (n cap : Nat) (zs : List Nat) (w : World) (hn : Hid (zs.length = n)) (hr : n * 8 ≤ 140737488351232)
    (hc : Hid (∀ i, i < n → ∃ b off, ao = some ⟨b, off, none⟩ ∧ b < w.heap.size ∧ w.cell? ⟨b, off + i, none⟩ = some (.int .u64 ((zs.getD i 0 : Nat) : Int)))) :
    Calls Tryd.prog 23 #[.slice ao n cap] w fun e w' => ∃ v, e = .returned v ∧ v ≠ .slice none 0 0 ∧ w'.ownsRow w.heap.size 23 1 v (n / 2) (cz (prs zs)) ∧ Below w.heap.size w w' := by
  obtain ⟨i0, hi, hz0, hz1, hz2⟩ := info_cx
  have hf := run_frombits
  go_enter Tryd.func23, Tryd.ntmps23
  go_wp2_with fail
  go_loopw [3, 4] (fun v si wr => ∃ k J : Nat, Hid (J = 2 * k) ∧ k ≤ n / 2 ∧ si = .int .i64 (J : Int) ∧ Hid (wr.ownsRow w.heap.size 23 1 v k (cz (prk zs k))) ∧ Hid (v ≠ .slice none 0 0) ∧ Hid (Below w.heap.size w wr)) (fun _ si _ => n - (intOf si).toNat)
  case atStart => exact ⟨0, 0, (rfl : _ = _), Nat.zero_le _, rfl, emptyCx w _ (Nat.le_refl _), (fun h => by cases h), (Below.refl _ _).alloc (Nat.le_refl _) _⟩
  case round =>
    obtain ⟨k, J, hJ, hk, rfl, hown, hnn, hbl⟩ := hrel
    by_cases hlt : J + 1 < n
    · have hlt' : (J : Int) + 1 < (n : Int) := by omega
      obtain ⟨b, off, rfl, hb, k1⟩ := hc.out J (by omega)
      obtain ⟨b', off', e', hb', k2⟩ := hc.out (J + 1) hlt
      cases e'
      have c1 := (hbl.out.cell (p := ⟨b, off + J, none⟩) hb).trans k1
      have c2 := (hbl.out.cell (p := ⟨b, off + (J + 1), none⟩) hb).trans k2
      have hsn : Hid (cz (prk zs (k + 1)) = cz (prk zs k) ++ [.complex .f64 (zs.getD J 0) (zs.getD (J + 1) 0)]) := by
        show _ = _
        rw [prk_snoc, cz_snoc, hJ.out]
      have hk2 : k + 1 ≤ n / 2 := by have := hJ.out; omega
      have hsz := hbl.out.size
      generalize zs.getD J 0 = x at *
      generalize zs.getD (J + 1) 0 = y at *
      clear k1 k2
      obtain ⟨J1, hJ1, hJ2⟩ : ∃ J1 : Nat, Hid (J1 = J + 1) ∧ (J : Int) + 1 = (J1 : Int) := ⟨J + 1, (rfl : _ = _), by omega⟩
      have hlt2 : (J1 : Int) < (n : Int) := by omega
      have hN1 : J < n := by omega
      have hN2 : J1 < n := by have := hJ1.out; omega
      have hW1 : IntKind.i64.wrap (J1 : Int) = (J1 : Int) := by rw [IntKind.wrap_i64]; omega
      rw [← hJ1.out] at c2
      go_wp2_with fail
      have hD : Hid (wr.drew.ownsRow w.heap.size 23 1 u3 k (cz (prk zs k))) := hown.out
      have hBD : Hid (Below w.heap.size w wr.drew) := below_drewN hbl.out 1
      have hsD : Hid (w.heap.size ≤ wr.drew.heap.size) := hsz
      go_region_law (refine step_app2 rfl (.tmp 13) (.tmp 26) 38 rfl w.heap.size 23 i0 (.complex .f64 0 0) 1 16 Tryd.underlying38 hi hz0 hz1 hz2 rfl (by decide) u3 k (cz (prk zs k)) (by simp [Act.eval]) (hD.out.alloc _) ⟨wr.drew.heap.size, 0, none⟩ 1 1 [.complex .f64 x y] (by simp [Act.eval]) rfl (cell_one_new10 _ _ _) (by simp [Value.oneCell']) (by unfold maxLen; omega) (by omega) (by simp; omega) ?_; intro v' w1 hown' hgrow hnil)
      all_goals
        have O5 : Hid (w1.ownsRow w.heap.size 23 1 v' (k + 1) (cz (prk zs (k + 1)))) := by rw [hsn.out]; exact hown'
        have B5 : Hid (Below w.heap.size w w1) := (hBD.out.alloc hsD.out _).grown hgrow (by simp; omega) (fun k' hk' => (hown.out.lt k' hk').1)
        have N5 : Hid (v' ≠ .slice none 0 0) := fun h => hnn.out (hnil.1 h).1
        obtain ⟨J3, hJ3, hJ4⟩ : ∃ J3 : Nat, Hid (J3 = 2 * (k + 1)) ∧ (J : Int) + 2 = (J3 : Int) := ⟨2 * (k + 1), (rfl : _ = _), by have := hJ.out; omega⟩
        clear hown hown' hgrow hbl hsn hD hBD c1 c2 hf hnil hnn
        go_wp2_with fail
        go_roundw
        case rel => exact ⟨k + 1, J3, hJ3, hk2, rfl, O5, N5, B5⟩
        case measure => simp [intOf]; omega
    · have hlt' : decide ((J : Int) + 1 < (n : Int)) = false := decide_eq_false (by omega)
      have ek : k = n / 2 := by have := hJ.out; omega
      subst ek
      have O5 : Hid (wr.ownsRow w.heap.size 23 1 u3 (n / 2) (cz (prs zs))) := by
        have e : prs zs = prk zs (n / 2) := by unfold prs; rw [hn.out]
        rw [e]; exact hown.out
      have hJn : (J : Int) + 1 ≤ 140737488351233 := by have := hJ.out; omega
      clear hown hc hf hJ
      go_wp2_with fail
      go_ret
      exact ⟨_, rfl, hnn.out, O5.out, hbl.out⟩
theorem listOq_c (v : Value) (zs : List Nat) (w : World) (h : InU w v zs) (hr : zs.length * 8 ≤ 140737488351232) :
    Calls Tryd.prog 23 #[v] w fun e w' => ∃ v', e = .returned v' ∧ v' ≠ .slice none 0 0 ∧ w'.ownsRow w.heap.size 23 1 v' (zs.length / 2) (cz (prs zs)) ∧ Below w.heap.size w w' := by
  obtain ⟨ao, cap, rfl, h2, h3⟩ := h
  exact listOq_n ao zs.length cap zs w rfl hr h2
theorem listOf13_c (v : Value) (zs : List Nat) (w : World) (h : InU w v zs) (hr : zs.length * 8 ≤ 140737488351232) :
    Calls Tryd.prog 23 #[v] w fun e w' => ∃ v', e = .returned v' ∧ w'.ownsRow w.heap.size 23 1 v' (zs.length / 2) (cz (prs zs)) ∧ Below w.heap.size w w' :=
  (listOq_c v zs w h hr).mono fun _ _ ⟨v', h1, _, h3, h4⟩ => ⟨v', h1, h3, h4⟩
end Go.Proofs.YtgfmimmiaalhcaaDoor
