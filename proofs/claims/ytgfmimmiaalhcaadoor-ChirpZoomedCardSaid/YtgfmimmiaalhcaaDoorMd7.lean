/-
  Contracts of the document's Mod, length and pair of layer 7.
-/
import Derived.Test.YtgfmimmiaalhcaaDoorEi7
import Derived.Test.YtgfmimmiaalhcaaDoorRts
namespace Go.Proofs.YtgfmimmiaalhcaaDoor
open Flo Go.RowKit

theorem tmod_md {n : Nat} (h : 0 < n) (k : Int) : (k.tmod n + n).tmod n = ((Rp.md n k : Nat) : Int) := by
  have hn : (0 : Int) < n := by omega
  have h1 : 0 ≤ k.tmod n + n := by
    have := Int.lt_tmod_of_pos k hn
    omega
  rw [Int.tmod_eq_emod_of_nonneg h1, Rp.md_eq h, Int.add_emod_right]
  by_cases hk : 0 ≤ k
  · rw [Int.tmod_eq_emod_of_nonneg hk, Int.emod_emod]
  · have e := Int.mul_tdiv_add_tmod k n
    have e2 : (n * k.tdiv n + k.tmod n) % n = k.tmod n % n := by rw [Int.add_comm, Int.add_mul_emod_self_left]
    rw [e] at e2
    exact e2.symm
theorem mod7_c (n : Nat) (k : Int) (w : World) (h : 0 < n) (hn : n ≤ 16777216) :
    Calls Tryd.prog 35 #[.int .i64 k, .int .i64 n] w fun e w' => e = .returned (.int .i64 (Rp.md n k)) ∧ w' = w := by
  have h1 := Int.lt_tmod_of_pos k (show (0 : Int) < n by omega)
  have h2 := Int.tmod_lt_of_pos k (show (0 : Int) < n by omega)
  have e := tmod_md h k
  go_enter Tryd.func35, Tryd.ntmps35
  go_wp2
  go_ret
  exact ⟨rfl, rfl⟩
theorem order0 {x : Nat} (h : Ari.fin x) : (Ieee.double.order x 0 == some .eq) = decide (x % 9223372036854775808 = 0) := by
  have f0 : Ari.fin 0 := ⟨by decide, by decide⟩
  rw [Ari.eq_fin h f0]
  congr 1
  apply propext
  have e0 : Ari.fz 0 = 0 := by decide
  rw [e0, ← Int.natAbs_eq_zero, Ari.vl_abs]
  unfold Ari.vl
  rw [← Ari.vr_zero]
  exact Ari.vr_inj
theorem zp_of (x : Nat) (h : Ari.fin x) : Rp.zp x = if (Ieee.double.order x 0 == some .eq) = true then 0 else x := by
  unfold Rp.zp
  rw [order0 h]
  by_cases h0 : x % 9223372036854775808 = 0
  · rw [if_pos h0, if_pos (decide_eq_true h0)]
  · rw [if_neg h0, if_neg (by rw [decide_eq_false h0]; decide)]
theorem zp_t {x : Nat} (h : Ari.fin x) (e : (Ieee.double.order x 0 == some .eq) = true) : 0 = Rp.zp x := by rw [zp_of x h, if_pos e]
theorem zp_f {x : Nat} (h : Ari.fin x) (e : (Ieee.double.order x 0 == some .eq) = false) : x = Rp.zp x := by rw [zp_of x h, if_neg (by rw [e]; decide)]
theorem div4 {n m q r : Nat} (h : 4 * m = q * n + r) (hr : r < n) : (4 * (m : Int)).tdiv n = q ∧ (4 * (m : Int)).tmod n = r := by
  obtain ⟨d1, d2⟩ := Rp.qr_of h hr
  have e : (4 * (m : Int)) = ((4 * m : Nat) : Int) := by omega
  rw [e, Int.tdiv_eq_ediv_of_nonneg (by omega), Int.tmod_eq_emod_of_nonneg (by omega), ← Int.natCast_ediv, ← Int.natCast_emod, d1, d2]
  exact ⟨rfl, rfl⟩
end Go.Proofs.YtgfmimmiaalhcaaDoor
