/-
  Contracts of package roots: the terms of the series, the series, the eighth.
-/
import Derived.Test.YtgfmimmiaalhcaaDoorEi7
import Derived.WalkKit
import Derived.WalkLawsBesides
import Derived.Outline
import Derived.Laws.CopyOwn
import Derived.Test.YtgfmimmiaalhcaaDoorRtv
namespace Go.Proofs.YtgfmimmiaalhcaaDoor
open Flo Go.RowKit

def cosA : Array Value := #[.float .f64 4607182418800017408, .float .f64 4602678819172646912, .float .f64 4586165620538955093, .float .f64 4564047942368979991, .float .f64 4537941361671905306, .float .f64 4508805057796939612, .float .f64 4477122120089393304, .float .f64 4443145680587881629, .float .f64 4407590220077447199]
def sinA : Array Value := #[.float .f64 4607182418800017408, .float .f64 4595172819793696085, .float .f64 4575957461383581969, .float .f64 4551452160554016794, .float .f64 4523617214285662004, .float .f64 4493156764026750180, .float .f64 4460272573143870729, .float .f64 4425604618586929183, .float .f64 4389130328383466826]
set_option maxHeartbeats 1000000 in
theorem cosT_c (w : World) :
    Calls Tryd.prog 62 #[] w fun e w' => e = .returned (.agg cosA) ∧ Below w.heap.size w w' := by
  have hg : Hid (∀ c : Array Value, (w.alloc (.cells c 78)).heap[w.heap.size]? = some (.cells c 78 (0, 0))) := fun c => (MapKept.heap_alloc w _).1
  go_enter Tryd.func62, Tryd.ntmps62
  go_wp2_with (first
    | (refine wpList_build rfl 78 _ rfl (by kernel_rfl) ?_)
    | (refine wpList_store_row rfl 78 _ _ rfl w.heap.size cosA rfl (by kernel_rfl) 78 #[.float .f64 0, .float .f64 0, .float .f64 0, .float .f64 0, .float .f64 0, .float .f64 0, .float .f64 0, .float .f64 0, .float .f64 0] (hg.out _) (by kernel_rfl) rfl (by kernel_rfl) ?_))
  refine bodyPost_ret (v := .agg cosA) ?_ rfl ⟨rfl, ?_⟩
  · exact results_cell_row Tryd.results62 _ _ w.heap.size 78 cosA (0, 0) _ rfl (setRow_heap _ _ _ _ _ _ (hg.out _)) Tryd.underlying78 rfl (by kernel_rfl)
  · exact below_setRow ((Below.refl _ _).alloc (Nat.le_refl _) _) (Nat.le_refl _) _
set_option maxHeartbeats 1000000 in
theorem sinT_c (w : World) :
    Calls Tryd.prog 63 #[] w fun e w' => e = .returned (.agg sinA) ∧ Below w.heap.size w w' := by
  have hg : Hid (∀ c : Array Value, (w.alloc (.cells c 78)).heap[w.heap.size]? = some (.cells c 78 (0, 0))) := fun c => (MapKept.heap_alloc w _).1
  go_enter Tryd.func63, Tryd.ntmps63
  go_wp2_with (first
    | (refine wpList_build rfl 78 _ rfl (by kernel_rfl) ?_)
    | (refine wpList_store_row rfl 78 _ _ rfl w.heap.size sinA rfl (by kernel_rfl) 78 #[.float .f64 0, .float .f64 0, .float .f64 0, .float .f64 0, .float .f64 0, .float .f64 0, .float .f64 0, .float .f64 0, .float .f64 0] (hg.out _) (by kernel_rfl) rfl (by kernel_rfl) ?_))
  refine bodyPost_ret (v := .agg sinA) ?_ rfl ⟨rfl, ?_⟩
  · exact results_cell_row Tryd.results63 _ _ w.heap.size 78 sinA (0, 0) _ rfl (setRow_heap _ _ _ _ _ _ (hg.out _)) Tryd.underlying78 rfl (by kernel_rfl)
  · exact below_setRow ((Below.refl _ _).alloc (Nat.le_refl _) _) (Nat.le_refl _) _
theorem cosA_cf (k : Nat) (h : k < 9) : cosA[k]? = some (.float .f64 (Rp.cf 0 k)) := by
  exact match k, h with
    | 0, _ => by kernel_rfl
    | 1, _ => by kernel_rfl
    | 2, _ => by kernel_rfl
    | 3, _ => by kernel_rfl
    | 4, _ => by kernel_rfl
    | 5, _ => by kernel_rfl
    | 6, _ => by kernel_rfl
    | 7, _ => by kernel_rfl
    | 8, _ => by kernel_rfl
    | n + 9, h => absurd h (by omega)
theorem sinA_cf (k : Nat) (h : k < 9) : sinA[k]? = some (.float .f64 (Rp.cf 1 k)) := by
  exact match k, h with
    | 0, _ => by kernel_rfl
    | 1, _ => by kernel_rfl
    | 2, _ => by kernel_rfl
    | 3, _ => by kernel_rfl
    | 4, _ => by kernel_rfl
    | 5, _ => by kernel_rfl
    | 6, _ => by kernel_rfl
    | 7, _ => by kernel_rfl
    | 8, _ => by kernel_rfl
    | n + 9, h => absurd h (by omega)
/-- nine floats, which are the coefficients -/
def Nine (odd : Nat) (A : Array Value) : Prop := ∃ c0 c1 c2 c3 c4 c5 c6 c7 c8 : Nat, A = #[.float .f64 c0, .float .f64 c1, .float .f64 c2, .float .f64 c3, .float .f64 c4, .float .f64 c5, .float .f64 c6, .float .f64 c7, .float .f64 c8] ∧ ∀ k, k < 9 → A[k]? = some (.float .f64 (Rp.cf odd k))
theorem nineC : Nine 0 cosA := ⟨_, _, _, _, _, _, _, _, _, rfl, cosA_cf⟩
theorem nineS : Nine 1 sinA := ⟨_, _, _, _, _, _, _, _, _, rfl, sinA_cf⟩
set_option maxHeartbeats 2000000 in
theorem series_c (odd y : Nat) (A : Array Value) (w : World) (hA : Nine odd A) (ho : odd < 2) :
    Calls Tryd.prog 61 #[.agg A, .float .f64 y] w fun e w' => ∃ x, e = .returned (.float .f64 x) ∧ x < 18446744073709551616 ∧ bt x = Rp.ser y odd 8 ∧ Below w.heap.size w w' := by
  obtain ⟨c0, c1, c2, c3, c4, c5, c6, c7, c8, hA1, hA2⟩ := hA
  have hc : ∀ k, k < 9 → (w.alloc (.cells A 78)).cell? ⟨w.heap.size, k, none⟩ = some (.float .f64 (Rp.cf odd k)) := by
    intro k hk
    rw [← hA2 k hk]
    simp
  have h8 := hc 8 (by omega)
  have hcH : Hid (∀ k, k < 9 → (w.alloc (.cells A 78)).cell? ⟨w.heap.size, k, none⟩ = some (.float .f64 (Rp.cf odd k))) := hc
  clear hc hA2
  have hm := @run_fmul Tryd.prog
  have hs := @run_fsub Tryd.prog
  subst hA1
  go_enter Tryd.func61, Tryd.ntmps61
  go_wp2
  go_loopw [5, 6] (fun sp sk wx => ∃ i d p : Nat, i ≤ 8 ∧ sk = .int .i64 ((7 : Int) - i) ∧ sp = .float .f64 p ∧ p < 18446744073709551616 ∧ Hid (bt p = Rp.ser y odd i) ∧ wx = (w.alloc (.cells #[.float .f64 c0, .float .f64 c1, .float .f64 c2, .float .f64 c3, .float .f64 c4, .float .f64 c5, .float .f64 c6, .float .f64 c7, .float .f64 c8] 78)).drewN d) (fun _ sk _ => (intOf sk + 1).toNat)
  case atStart => exact ⟨0, 0, _, by omega, rfl, rfl, Nat.lt_of_le_of_lt (Rp.cf_le odd 8 ho (by omega)) (by decide), bt_co .., rfl⟩
  case round =>
    obtain ⟨i, d, p, hi, rfl, rfl, lp, hp, rfl⟩ := hrel
    by_cases h9 : i = 8
    · subst h9
      have B : Hid (Below w.heap.size w ((w.alloc (.cells #[.float .f64 c0, .float .f64 c1, .float .f64 c2, .float .f64 c3, .float .f64 c4, .float .f64 c5, .float .f64 c6, .float .f64 c7, .float .f64 c8] 78)).drewN d)) := below_drewN ((Below.refl _ _).alloc (Nat.le_refl _) _) d
      go_wp2
      go_ret
      exact ⟨p, rfl, lp, hp.out, B.out⟩
    · obtain ⟨k, hk⟩ : ∃ k : Nat, k + i = 7 := ⟨7 - i, by omega⟩
      have ek : (7 : Int) - (i : Int) = (k : Int) := by omega
      rw [ek]
      have hk9 : (k : Int) < 9 := by omega
      have hck := hcH.out k (by omega)
      go_wp2
      go_roundw
      case rel =>
        refine ⟨i + 1, _, _, by omega, congrArg (Value.int .i64) (by omega), rfl, fr_lt .., ?_, rfl⟩
        rw [bt_fr, co_fr_right]
        show _ = co .sub (Rp.cf odd (7 - i)) (co .mul y (Rp.ser y odd i))
        rw [show 7 - i = k by omega]
        have e2 : co .mul y p = co .mul y (Rp.ser y odd i) := co_of rfl (by rw [hp.out, bt_ser])
        rw [e2]
      case measure => first | (simp [intOf]; done) | (simp [intOf]; omega)
end Go.Proofs.YtgfmimmiaalhcaaDoor
