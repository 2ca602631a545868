/-
  Layer 13: At, Least, Size of every number, the program's and the document's, refused or not.
-/
import Derived.Test.YtgfmimmiaalhcaaDoorCh4
import Derived.Test.YtgfmimmiaalhcaaDoorCr2
import Derived.Test.YtgfmimmiaalhcaaDoorLc2
namespace Go.Proofs.YtgfmimmiaalhcaaDoor
open Flo Go.RowKit
/-- the chirp or nought; the error's number; the least length -/
def ca (n j : Int) : Nat × Nat := if inn n then chp (2 * n.toNat) j else (0, 0)
def ce (n : Int) : Nat := if inn n then 0 else 7
def cl (n : Int) : Int := if inn n then ((2 * n.toNat - 1 : Nat) : Int) else 0
theorem inn_t {n : Int} (h : inn n = true) : ∃ k : Nat, n = (k : Int) ∧ 0 < k ∧ k ≤ 16384 := by
  obtain ⟨h1, h2⟩ := of_decide_eq_true h
  obtain ⟨k, rfl⟩ := Int.eq_ofNat_of_zero_le (show 0 ≤ n by omega)
  exact ⟨k, rfl, by omega, by omega⟩
theorem ca_lim (n j : Int) : (ca n j).1 < 18446744073709551616 ∧ (ca n j).2 < 18446744073709551616 := by
  unfold ca
  split
  · obtain ⟨k, rfl, h1, h2⟩ := inn_t ‹_›
    have := chp_fin (M := 2 * ((k : Int)).toNat) (by simp; omega) (by simp; omega) j
    exact ⟨this.1.1, this.2.1⟩
  · exact ⟨by decide, by decide⟩
theorem pAt_c (n j : Int) (w : World) (al : List Addr) (he : Errs w al) :
    Calls Tryd.prog 9 #[.int .i64 n, .int .i64 j] w fun e w' => ∃ er, e = .returned (.tuple #[.complex .f64 (ca n j).1 (ca n j).2, er]) ∧ Er al er (ce n) ∧ Below w.heap.size w w' := by
  cases hi : inn n
  · refine (chAtNo_c n j w al he hi).mono ?_
    rintro e w' ⟨rfl, B⟩
    exact ⟨_, by unfold ca; rw [hi]; rfl, by unfold ce; rw [hi]; exact Er.mk al 6 (by decide), B⟩
  · obtain ⟨k, rfl, h1, h2⟩ := inn_t hi
    refine (chAtOk_c k (2 * k) j w h1 h2 (rfl : _ = _)).mono ?_
    rintro e w' ⟨rfl, B⟩
    exact ⟨_, by unfold ca; rw [hi]; rfl, by unfold ce; rw [hi]; exact Er.nil al, B⟩
theorem rAt_c (n j : Int) (w : World) :
    Calls Tryd.prog 10 #[.int .i64 n, .int .i64 j] w fun e w' => e = .returned (.tuple #[.complex .f64 (ca n j).1 (ca n j).2, .int .i64 (ce n : Nat)]) ∧ ∃ d, w' = w.drewN d := by
  cases hi : inn n
  · refine (r13ChirpNo_c n j w hi).mono ?_
    rintro e w' ⟨rfl, rfl⟩
    exact ⟨by unfold ca ce; rw [hi]; rfl, 0, rfl⟩
  · obtain ⟨k, rfl, h1, h2⟩ := inn_t hi
    refine (r13ChirpOk_c k (2 * k) j w h1 h2 (rfl : _ = _)).mono ?_
    rintro e w' ⟨rfl, d, rfl⟩
    exact ⟨by unfold ca ce; rw [hi]; rfl, d, rfl⟩
theorem pLeast_c (n : Int) (w : World) : Calls Tryd.prog 13 #[.int .i64 n] w fun e w' => e = .returned (.int .i64 (cl n)) ∧ w' = w := by
  cases hi : inn n
  · refine (leastNo_c n w hi).mono ?_
    rintro e w' ⟨rfl, rfl⟩
    exact ⟨by unfold cl; rw [hi]; rfl, rfl⟩
  · obtain ⟨k, rfl, h1, h2⟩ := inn_t hi
    refine (leastOk_c k w h1 h2).mono ?_
    rintro e w' ⟨rfl, rfl⟩
    exact ⟨by unfold cl; rw [hi]; rfl, rfl⟩
theorem rLeast_c (n : Int) (w : World) : Calls Tryd.prog 14 #[.int .i64 n] w fun e w' => e = .returned (.int .i64 (cl n)) ∧ w' = w := by
  cases hi : inn n
  · refine (r13LeastNo_c n w hi).mono ?_
    rintro e w' ⟨rfl, rfl⟩
    exact ⟨by unfold cl; rw [hi]; rfl, rfl⟩
  · obtain ⟨k, rfl, h1, h2⟩ := inn_t hi
    refine (r13LeastOk_c k w h1 h2).mono ?_
    rintro e w' ⟨rfl, rfl⟩
    exact ⟨by unfold cl; rw [hi]; rfl, rfl⟩
/-- the size and the error's number -/
def SzE (n : Int) (s k : Nat) : Prop := (1 ≤ n ∧ n ≤ 8192 ∧ Sz (2 * n.toNat - 1) s ∧ k = 0) ∨ (¬ (1 ≤ n ∧ n ≤ 8192) ∧ s = 0 ∧ k = 7)
theorem SzE.uniq {n : Int} {s k s' k' : Nat} (h : SzE n s k) (h' : SzE n s' k') : s = s' ∧ k = k' := by
  rcases h with ⟨h1, h2, h3, rfl⟩ | ⟨h1, rfl, rfl⟩ <;> rcases h' with ⟨g1, g2, g3, rfl⟩ | ⟨g1, rfl, rfl⟩
  · exact ⟨h3.uniq g3, rfl⟩
  · exact absurd ⟨h1, h2⟩ g1
  · exact absurd ⟨g1, g2⟩ h1
  · exact ⟨rfl, rfl⟩
theorem pSize_c (n : Int) (w : World) (al : List Addr) (he : Errs w al) :
    Calls Tryd.prog 15 #[.int .i64 n] w fun e w' => ∃ s k er, e = .returned (.tuple #[.int .i64 ((s : Nat) : Int), er]) ∧ SzE n s k ∧ Er al er k ∧ Below w.heap.size w w' := by
  by_cases h : 1 ≤ n ∧ n ≤ 8192
  · obtain ⟨k, rfl⟩ := Int.eq_ofNat_of_zero_le (show 0 ≤ n by omega)
    refine (sizeOk_c k w (by omega) (by omega)).mono ?_
    rintro e w' ⟨s, rfl, h1, h2, rfl⟩
    exact ⟨s, 0, _, rfl, .inl ⟨h.1, h.2, h1, rfl⟩, Er.nil al, Below.refl _ _⟩
  · refine (sizeNo_c n w al he h).mono ?_
    rintro e w' ⟨rfl, B⟩
    exact ⟨0, 7, _, rfl, .inr ⟨h, rfl, rfl⟩, Er.mk al 6 (by decide), B⟩
theorem rSize_c (n : Int) (w : World) :
    Calls Tryd.prog 16 #[.int .i64 n] w fun e w' => ∃ s k, e = .returned (.tuple #[.int .i64 ((s : Nat) : Int), .int .i64 ((k : Nat) : Int)]) ∧ SzE n s k ∧ w' = w := by
  by_cases h : 1 ≤ n ∧ n ≤ 8192
  · obtain ⟨k, rfl⟩ := Int.eq_ofNat_of_zero_le (show 0 ≤ n by omega)
    refine (r13SizeOk_c k w (by omega) (by omega)).mono ?_
    rintro e w' ⟨s, rfl, h1, h2, rfl⟩
    exact ⟨s, 0, rfl, .inl ⟨h.1, h.2, h1, rfl⟩, rfl⟩
  · refine (r13SizeNo_c n w h).mono ?_
    rintro e w' ⟨rfl, rfl⟩
    exact ⟨0, 7, rfl, .inr ⟨h, rfl, rfl⟩, rfl⟩
end Go.Proofs.YtgfmimmiaalhcaaDoor
