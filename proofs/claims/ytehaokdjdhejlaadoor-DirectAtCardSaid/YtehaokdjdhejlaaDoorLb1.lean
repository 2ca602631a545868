/-
  Layer 10's statements: the list of bits, which is not nil.
-/
import Derived.Test.YtehaokdjdhejlaaDoorLa1
import Derived.Test.YtehaokdjdhejlaaDoorSap2
namespace Go.Proofs.YtehaokdjdhejlaaDoor
open Flo Go.RowKit
set_option maxRecDepth 100000 in
set_option maxHeartbeats 1000000 in
theorem listOg_n (ao : Option Addr) (n cap : Nat) (zs : List Nat) (w : World) (hn : Hid (zs.length = n)) (hr : n * 8 ≤ 140737488351232)
    (hc : Hid (∀ i, i < n → ∃ b off, ao = some ⟨b, off, none⟩ ∧ b < w.heap.size ∧ w.cell? ⟨b, off + i, none⟩ = some (.int .u64 ((zs.getD i 0 : Nat) : Int)))) :
    Calls Tryd.prog 9 #[.slice ao n cap] w fun e w' => ∃ v, e = .returned v ∧ v ≠ .slice none 0 0 ∧ w'.ownsRow w.heap.size 37 1 v (n / 2) (cz (prs zs)) ∧ Below w.heap.size w w' := by
  obtain ⟨i0, hi, hz0, hz1, hz2⟩ := info_cx
  have hf := run_frombits
  go_enter Tryd.func9, Tryd.ntmps9
  go_wp2_with fail
  go_loopw [3, 4] (fun v si wr => ∃ k J : Nat, Hid (J = 2 * k) ∧ k ≤ n / 2 ∧ si = .int .i64 (J : Int) ∧ Hid (wr.ownsRow w.heap.size 37 1 v k (cz (prk zs k))) ∧ Hid (v ≠ .slice none 0 0) ∧ Hid (Below w.heap.size w wr)) (fun _ si _ => n - (intOf si).toNat)
  case atStart => exact ⟨0, 0, (rfl : _ = _), Nat.zero_le _, rfl, emptyCx w _ (Nat.le_refl _), (fun h => by cases h), (Below.refl _ _).alloc (Nat.le_refl _) _⟩
  case round =>
    obtain ⟨k, J, hJ, hk, rfl, hown, hnn, hbl⟩ := hrel
    by_cases hlt : J + 1 < n
    · have hlt' : (J : Int) + 1 < (n : Int) := by omega
      obtain ⟨b, off, rfl, hb, k1⟩ := hc.out J (by omega)
      obtain ⟨b', off', e', hb', k2⟩ := hc.out (J + 1) hlt
      cases e'
      have c1 := (hbl.out.cell (p := ⟨b, off + J, none⟩) hb).trans k1
      have c2 := (hbl.out.cell (p := ⟨b, off + (J + 1), none⟩) hb).trans k2
      have hsn : Hid (cz (prk zs (k + 1)) = cz (prk zs k) ++ [.complex .f64 (zs.getD J 0) (zs.getD (J + 1) 0)]) := by
        show _ = _
        rw [prk_snoc, cz_snoc, hJ.out]
      have hk2 : k + 1 ≤ n / 2 := by have := hJ.out; omega
      have hsz := hbl.out.size
      generalize zs.getD J 0 = x at *
      generalize zs.getD (J + 1) 0 = y at *
      clear k1 k2
      obtain ⟨J1, hJ1, hJ2⟩ : ∃ J1 : Nat, Hid (J1 = J + 1) ∧ (J : Int) + 1 = (J1 : Int) := ⟨J + 1, (rfl : _ = _), by omega⟩
      have hlt2 : (J1 : Int) < (n : Int) := by omega
      have hN1 : J < n := by omega
      have hN2 : J1 < n := by have := hJ1.out; omega
      have hW1 : IntKind.i64.wrap (J1 : Int) = (J1 : Int) := by rw [IntKind.wrap_i64]; omega
      rw [← hJ1.out] at c2
      go_wp2_with fail
      have hD : Hid (wr.drew.ownsRow w.heap.size 37 1 u3 k (cz (prk zs k))) := hown.out
      have hBD : Hid (Below w.heap.size w wr.drew) := below_drewN hbl.out 1
      have hsD : Hid (w.heap.size ≤ wr.drew.heap.size) := hsz
      go_region_law (refine step_app2 rfl (.tmp 13) (.tmp 26) 24 rfl w.heap.size 37 i0 (.complex .f64 0 0) 1 16 Tryd.underlying24 hi hz0 hz1 hz2 rfl (by decide) u3 k (cz (prk zs k)) (by simp [Act.eval]) (hD.out.alloc _) ⟨wr.drew.heap.size, 0, none⟩ 1 1 [.complex .f64 x y] (by simp [Act.eval]) rfl (cell_one_new10 _ _ _) (by simp [Value.oneCell']) (by unfold maxLen; omega) (by omega) (by simp; omega) ?_; intro v' w1 hown' hgrow hnil)
      all_goals
        have O5 : Hid (w1.ownsRow w.heap.size 37 1 v' (k + 1) (cz (prk zs (k + 1)))) := by rw [hsn.out]; exact hown'
        have B5 : Hid (Below w.heap.size w w1) := (hBD.out.alloc hsD.out _).grown hgrow (by simp; omega) (fun k' hk' => (hown.out.lt k' hk').1)
        have N5 : Hid (v' ≠ .slice none 0 0) := fun h => hnn.out (hnil.1 h).1
        obtain ⟨J3, hJ3, hJ4⟩ : ∃ J3 : Nat, Hid (J3 = 2 * (k + 1)) ∧ (J : Int) + 2 = (J3 : Int) := ⟨2 * (k + 1), (rfl : _ = _), by have := hJ.out; omega⟩
        clear hown hown' hgrow hbl hsn hD hBD c1 c2 hf hnil hnn
        go_wp2_with fail
        go_roundw
        case rel => exact ⟨k + 1, J3, hJ3, hk2, rfl, O5, N5, B5⟩
        case measure => simp [intOf]; omega
    · have hlt' : decide ((J : Int) + 1 < (n : Int)) = false := decide_eq_false (by omega)
      have ek : k = n / 2 := by have := hJ.out; omega
      subst ek
      have O5 : Hid (wr.ownsRow w.heap.size 37 1 u3 (n / 2) (cz (prs zs))) := by
        have e : prs zs = prk zs (n / 2) := by unfold prs; rw [hn.out]
        rw [e]; exact hown.out
      have hJn : (J : Int) + 1 ≤ 140737488351233 := by have := hJ.out; omega
      clear hown hc hf hJ
      go_wp2_with fail
      go_ret
      exact ⟨_, rfl, hnn.out, O5.out, hbl.out⟩
theorem listOg_c (v : Value) (zs : List Nat) (w : World) (h : InU w v zs) (hr : zs.length * 8 ≤ 140737488351232) :
    Calls Tryd.prog 9 #[v] w fun e w' => ∃ v', e = .returned v' ∧ v' ≠ .slice none 0 0 ∧ w'.ownsRow w.heap.size 37 1 v' (zs.length / 2) (cz (prs zs)) ∧ Below w.heap.size w w' := by
  obtain ⟨ao, cap, rfl, h2, h3⟩ := h
  exact listOg_n ao zs.length cap zs w rfl hr h2
end Go.Proofs.YtehaokdjdhejlaaDoor
